/-
  What the reference's SameInts returns.
-/
import Derived.Test.YtmgadcfiaipimaaDqMem
namespace Go.Proofs.Ytmgadcfiaipimaa
open Go.RowKit

set_option maxRecDepth 100000 in
set_option maxHeartbeats 1000000 in
theorem sameInts_any (n m : Nat) (a b : Option Addr) (c d : Nat) (za zb : List Int) (w : World) (ha : IntsA n w a za) (hb : IntsA m w b zb) (hla : za.length ≤ 9223372036854775807) (hlb : zb.length ≤ 9223372036854775807) :
    Calls Try.prog 20 #[.slice a za.length c, .slice b zb.length d] w fun e w' => e = .returned (.bool (decide (za = zb))) ∧ ∃ q, w' = w.drewN q := by
  by_cases hl : za.length = zb.length
  · have hne : ((za.length : Int) != (zb.length : Int)) = false := by rw [hl]; simp
    have HL := Lib.hid hl
    have hsz : zb.length ≤ za.length := by omega
    by_cases h0 : za.length = 0
    · have e1 : za = [] := List.eq_nil_of_length_eq_zero h0
      have e2 : zb = [] := List.eq_nil_of_length_eq_zero (by omega)
      subst e1; subst e2
      clear hl hne ha hb
      go_enter Try.func20, Try.ntmps20
      go_wp2
      go_loopw [5] (fun i wr => i = .int .i64 0 ∧ wr = w) (fun _ _ => 0)
      case atStart => exact ⟨rfl, rfl⟩
      case round =>
        obtain ⟨rfl, rfl⟩ := hrel
        go_wp2
        go_ret
        exact ⟨rfl, 0, rfl⟩
    · obtain ⟨b1, o1, rfl, _, hc1⟩ := ha.some_ (by omega)
      obtain ⟨b2, o2, rfl, _, hc2⟩ := hb.some_ (by omega)
      have H1 := Lib.hid hc1
      have H2 := Lib.hid hc2
      clear hl ha hb hc1 hc2 h0
      go_enter Try.func20, Try.ntmps20
      go_wp2
      go_loopw [5] (fun i wr => ∃ k q : Nat, k ≤ za.length ∧ i = .int .i64 k ∧ wr = w.drewN q ∧ Hid (∀ j, j < k → za[j]?.getD 0 = zb[j]?.getD 0)) (fun i _ => za.length - (intOf i).toNat)
      case atStart => exact ⟨0, 0, Nat.zero_le _, rfl, rfl, Lib.hid (by omega)⟩
      case round =>
        obtain ⟨k, q, hk, rfl, rfl, HK⟩ := hrel
        by_cases hlt : k < za.length
        · have hkb : k < zb.length := by have := HL.out; omega
          have x1 : w.cell? ⟨b1, o1 + k, none⟩ = some (.int .i64 (za[k]?.getD 0)) := H1.out k hlt
          have x2 : w.cell? ⟨b2, o2 + k, none⟩ = some (.int .i64 (zb[k]?.getD 0)) := H2.out k hkb
          obtain ⟨x, hx⟩ : ∃ x, za[k]?.getD 0 = x := ⟨_, rfl⟩
          obtain ⟨y, hy⟩ : ∃ y, zb[k]?.getD 0 = y := ⟨_, rfl⟩
          rw [hx] at x1
          rw [hy] at x2
          have hkI : (k : Int) < (za.length : Int) := by omega
          have hkJ : (k : Int) < (zb.length : Int) := by omega
          have hk0 : (0 : Int) ≤ (k : Int) := by omega
          have HX := Lib.hid hx
          have HY := Lib.hid hy
          clear hx hy
          by_cases hxy : x = y
          · have hb' : (x != y) = false := by simp [hxy]
            have HXY := Lib.hid hxy
            clear hxy
            go_wp2
            go_quiet (fail)
            go_wp2
            go_roundw
            case rel =>
              refine ⟨k + 1, _, by omega, by go_num, rfl, Lib.hid ?_⟩
              intro j hj
              by_cases hjk : j = k
              · rw [hjk, HX.out, HY.out]; exact HXY.out
              · exact HK.out j (by omega)
            case measure => simp [intOf]; omega
          · have hb' : (x != y) = true := by simp [hxy]
            have hd : decide (za = zb) = false := by
              rw [decide_eq_false_iff_not]
              rintro rfl
              exact hxy (HX.out.symm.trans HY.out)
            have HDD := Lib.hid hd
            clear hxy hd
            go_wp2
            go_quiet (fail)
            go_wp2
            go_ret
            rw [HDD.out]
            exact ⟨rfl, _, World.drewN_drewN _ _ _⟩
        · have hd : decide (za = zb) = true := by
            rw [decide_eq_true_eq]
            exact list_ext_take za zb HL.out (fun j hj => HK.out j (by omega))
          have HDD := Lib.hid hd
          clear hd
          go_wp2
          go_ret
          rw [HDD.out]
          exact ⟨rfl, _, rfl⟩
  · have hne : ((za.length : Int) != (zb.length : Int)) = true := by rw [bne_iff_ne]; omega
    have hd : decide (za = zb) = false := by
      rw [decide_eq_false_iff_not]
      rintro rfl
      exact hl rfl
    rw [hd]
    clear hl ha hb hd
    go_enter Try.func20, Try.ntmps20
    go_wp2
    go_ret
    exact ⟨rfl, 0, rfl⟩

theorem same_at (u v : Value) (xs ys : List Int) (w : World) (hu : KZ w u xs) (hv : KZ w v ys) :
    Calls Try.prog 20 #[u, v] w fun e w' => e = .returned (.bool (decide (xs = ys))) ∧ Below w.heap.size w w' := by
  obtain ⟨a, c, rfl, h1, h2, h3⟩ := hu
  obtain ⟨b, d, rfl, k1, k2, k3⟩ := hv
  refine (sameInts_any _ _ a b c d xs ys w h3 k3 (by omega) (by omega)).mono ?_
  rintro e w' ⟨rfl, q, rfl⟩
  exact ⟨rfl, below_drewZ (Below.refl _ _)⟩
theorem same_yes (u v : Value) (xs : List Int) (w : World) (hu : KZ w u xs) (hv : KZ w v xs) :
    Calls Try.prog 20 #[u, v] w fun e w' => e = .returned (.bool true) ∧ Below w.heap.size w w' := by
  have := same_at u v xs xs w hu hv
  rwa [decide_eq_true rfl] at this

end Go.Proofs.Ytmgadcfiaipimaa
