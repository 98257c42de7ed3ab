/-
  What the reference's Same and Compare, and the law's great, return.
-/
import Derived.Test.YtpkmdonejmbnoaaEncList
import Derived.Test.YtpkmdonejmbnoaaIntsA
import Derived.Deep.QuietTactic
import Derived.BigQuiet
namespace Go.Proofs.Ytpkmdonejmbnoaa
open Go.RowKit

theorem IntsA.ints {n : Nat} {A : World} {ad : Option Addr} {zs : List Int} {cap : Nat} (hI : IntsA n A ad zs) (h : ad = none → zs.length = 0 ∧ cap = 0) (hb : ∀ b off, ad = some ⟨b, off, none⟩ → b < n) (hw : ∀ x : Addr, ad = some x → ∃ b off, x = ⟨b, off, none⟩) : Ints n A (.slice ad zs.length cap) zs := by
  cases ad with
  | none =>
    obtain ⟨h1, h2⟩ := h rfl
    rw [h1, h2]
    exact .inl ⟨rfl, List.eq_nil_of_length_eq_zero h1⟩
  | some x =>
    obtain ⟨b, off, rfl⟩ := hw x rfl
    refine .inr ⟨b, off, cap, rfl, hb b off rfl, fun j hj => ?_⟩
    obtain ⟨b', off', e', _, hc⟩ := hI j hj
    cases e'
    exact hc

set_option maxRecDepth 100000 in
set_option maxHeartbeats 1000000 in
theorem same_any (n m : Nat) (a b : Option Addr) (c d : Nat) (za zb : List Int) (w : World) (ha : IntsA n w a za) (hb : IntsA m w b zb) (hla : za.length ≤ 9223372036854775807) (hlb : zb.length ≤ 9223372036854775807) :
    Calls Try.prog 41 #[.slice a za.length c, .slice b zb.length d] w fun e w' => e = .returned (.bool (decide (za = zb))) ∧ Below w.heap.size w w' := by
  by_cases hl : za.length = zb.length
  · have hne : ((za.length : Int) != (zb.length : Int)) = false := by rw [hl]; simp
    have HL := Lib.hid hl
    have hsz : zb.length ≤ za.length := by omega
    by_cases h0 : za.length = 0
    · have e1 : za = [] := List.eq_nil_of_length_eq_zero h0
      have e2 : zb = [] := List.eq_nil_of_length_eq_zero (by omega)
      subst e1; subst e2
      clear hl hne ha hb
      go_enter Try.func41, Try.ntmps41
      go_wp2
      go_loopw [5] (fun i wr => i = .int .i64 0 ∧ wr = w) (fun _ _ => 0)
      case atStart => exact ⟨rfl, rfl⟩
      case round =>
        obtain ⟨rfl, rfl⟩ := hrel
        go_wp2
        go_ret
        exact ⟨rfl, Below.refl _ _⟩
    · obtain ⟨b1, o1, rfl, _, hc1⟩ := ha.some_ (by omega)
      obtain ⟨b2, o2, rfl, _, hc2⟩ := hb.some_ (by omega)
      have H1 := Lib.hid hc1
      have H2 := Lib.hid hc2
      clear hl ha hb hc1 hc2 h0
      go_enter Try.func41, Try.ntmps41
      go_wp2
      go_loopw [5] (fun i wr => ∃ k q : Nat, k ≤ za.length ∧ i = .int .i64 k ∧ wr = w.drewN q ∧ Hid (∀ j, j < k → za[j]?.getD 0 = zb[j]?.getD 0)) (fun i _ => za.length - (intOf i).toNat)
      case atStart => exact ⟨0, 0, Nat.zero_le _, rfl, rfl, Lib.hid (by omega)⟩
      case round =>
        obtain ⟨k, q, hk, rfl, rfl, HK⟩ := hrel
        by_cases hlt : k < za.length
        · have hkb : k < zb.length := by have := HL.out; omega
          have x1 : w.cell? ⟨b1, o1 + k, none⟩ = some (.int .i64 (za[k]?.getD 0)) := H1.out k hlt
          have x2 : w.cell? ⟨b2, o2 + k, none⟩ = some (.int .i64 (zb[k]?.getD 0)) := H2.out k hkb
          obtain ⟨x, hx⟩ : ∃ x, za[k]?.getD 0 = x := ⟨_, rfl⟩
          obtain ⟨y, hy⟩ : ∃ y, zb[k]?.getD 0 = y := ⟨_, rfl⟩
          rw [hx] at x1
          rw [hy] at x2
          have hkI : (k : Int) < (za.length : Int) := by omega
          have hkJ : (k : Int) < (zb.length : Int) := by omega
          have hk0 : (0 : Int) ≤ (k : Int) := by omega
          have HX := Lib.hid hx
          have HY := Lib.hid hy
          clear hx hy
          by_cases hxy : x = y
          · have hb' : (x != y) = false := by simp [hxy]
            have HXY := Lib.hid hxy
            clear hxy
            go_wp2
            go_quiet (fail)
            go_wp2
            go_roundw
            case rel =>
              refine ⟨k + 1, _, by omega, by go_num, rfl, Lib.hid ?_⟩
              intro j hj
              by_cases hjk : j = k
              · rw [hjk, HX.out, HY.out]; exact HXY.out
              · exact HK.out j (by omega)
            case measure => simp [intOf]; omega
          · have hb' : (x != y) = true := by simp [hxy]
            have hd : decide (za = zb) = false := by
              rw [decide_eq_false_iff_not]
              rintro rfl
              exact hxy (HX.out.symm.trans HY.out)
            have HDD := Lib.hid hd
            clear hxy hd
            go_wp2
            go_quiet (fail)
            go_wp2
            go_ret
            rw [HDD.out]
            exact ⟨rfl, below_drewN (below_drewN (Below.refl _ w) _) _⟩
        · have hd : decide (za = zb) = true := by
            rw [decide_eq_true_eq]
            exact list_ext_take za zb HL.out (fun j hj => HK.out j (by omega))
          have HDD := Lib.hid hd
          clear hd
          go_wp2
          go_ret
          rw [HDD.out]
          exact ⟨rfl, below_drewN (Below.refl _ w) _⟩
  · have hne : ((za.length : Int) != (zb.length : Int)) = true := by rw [bne_iff_ne]; omega
    have hd : decide (za = zb) = false := by
      rw [decide_eq_false_iff_not]
      rintro rfl
      exact hl rfl
    rw [hd]
    clear hl ha hb hd
    go_enter Try.func41, Try.ntmps41
    go_wp2
    go_ret
    exact ⟨rfl, Below.refl _ _⟩

end Go.Proofs.Ytpkmdonejmbnoaa
