/-
  The library's Equal over ints.
-/
import Derived.Test.YtonjempbphnimaaWlMem
namespace Go.Proofs.Ytonjempbphnimaa
open Go.RowKit

set_option maxRecDepth 100000 in
set_option maxHeartbeats 1000000 in
/-- slices.Equal. -/
theorem eqI_any (n₀ : Nat) (a b : Option Addr) (c d : Nat) (za zb : List Int) (w : World) (ha : IntsA n₀ w a za) (hb : IntsA n₀ w b zb) (hla : za.length ≤ 9223372036854775807) (_hlb : zb.length ≤ 9223372036854775807) :
    Calls Try.prog 24 #[.slice a za.length c, .slice b zb.length d] w fun e w' => e = .returned (.bool (decide (za = zb))) ∧ ∃ q, w' = w.drewN q := by
  by_cases hl : za.length = zb.length
  · have hne : ((za.length : Int) != (zb.length : Int)) = false := by rw [hl]; simp
    have HA := Lib.hid ha
    have HB := Lib.hid hb
    have HL := Lib.hid hl
    have HE : Hid (allP (fun i => decide (gz za i = gz zb i)) za.length = true → decide (za = zb) = true) := Lib.hid (fun h => decide_eq_true (gz_ext hl (fun j hj => of_decide_eq_true (allP_iff.1 h j hj))))
    have HF : Hid (∀ k, gz za k ≠ gz zb k → decide (za = zb) = false) := Lib.hid (fun k h => decide_eq_false (fun e => h (by rw [e])))
    clear ha hb hl
    go_enter Try.func24, Try.ntmps24
    go_wp2
    go_loopw [13] (fun i wr => ∃ k q : Nat, k ≤ za.length ∧ i = .int .i64 k ∧ wr = w.drewN q ∧ Hid (allP (fun i => decide (gz za i = gz zb i)) k = true)) (fun i _ => za.length - (intOf i).toNat)
    case atStart => exact ⟨0, 0, Nat.zero_le _, rfl, rfl, Lib.hid rfl⟩
    case round =>
      obtain ⟨k, q, hk, rfl, rfl, HK⟩ := hrel
      by_cases hlt : k < za.length
      · have k1 : (k : Int) < (za.length : Int) := by omega
        have k2 : (k : Int) < (zb.length : Int) := by have := HL.out; omega
        have k3 : (0 : Int) ≤ (k : Int) := by omega
        obtain ⟨b1, o1, rfl, _, q1⟩ := HA.out k hlt
        obtain ⟨b2, o2, rfl, _, q2⟩ := HB.out k (by have := HL.out; omega)
        change w.cell? ⟨b1, o1 + k, none⟩ = some (.int .i64 (gz za k)) at q1
        change w.cell? ⟨b2, o2 + k, none⟩ = some (.int .i64 (gz zb k)) at q2
        have HNO := Lib.hid (HF.out k)
        have HYES : Hid (gz za k = gz zb k → allP (fun i => decide (gz za i = gz zb i)) (k + 1) = true) := Lib.hid (fun h1 => by rw [allP_succ, HK.out, Bool.true_and]; exact decide_eq_true h1)
        generalize gz za k = x at q1 HNO HYES
        generalize gz zb k = y at q2 HNO HYES
        by_cases hxy : x = y
        · have hb' : (x != y) = false := by simp [hxy]
          have HK' := Lib.hid (HYES.out hxy)
          clear hxy
          go_wp2
          go_quiet (fail)
          go_wp2
          go_roundw
          case rel => exact ⟨k + 1, _, by omega, by go_num, rfl, HK'⟩
          case measure => simp [intOf]; omega
        · have hb' : (x != y) = true := by simp [hxy]
          have HR := Lib.hid (HNO.out hxy)
          clear hxy
          go_wp2
          go_quiet (fail)
          go_wp2
          go_ret
          exact ⟨by rw [HR.out]; rfl, q + nq, by rw [World.drewN_drewN]⟩
      · obtain rfl : k = za.length := by omega
        have HR := Lib.hid (HE.out HK.out)
        go_wp2
        go_ret
        exact ⟨by rw [HR.out]; rfl, _, rfl⟩
  · have hne : ((za.length : Int) != (zb.length : Int)) = true := by rw [bne_iff_ne]; omega
    have hd : decide (za = zb) = false := decide_eq_false (fun e => hl (by rw [e]))
    rw [hd]
    clear hl ha hb hd
    go_enter Try.func24, Try.ntmps24
    go_wp2
    go_ret
    exact ⟨rfl, 0, rfl⟩
theorem KlC.drewI {w : World} {v : Value} {zs : List Int} (n : Nat) (h : KlC w v zs) : KlC (w.drewN n) v zs := by
  obtain ⟨a, c, e, h1, h2⟩ := h
  exact ⟨a, c, e, h1, h2⟩
theorem eqI_at (u v : Value) (xs ys : List Int) (w : World) (hu : KlC w u xs) (hv : KlC w v ys) :
    Calls Try.prog 24 #[u, v] w fun e w' => e = .returned (.bool (decide (xs = ys))) ∧ ∃ q, w' = w.drewN q := by
  obtain ⟨a, c, rfl, h1, l1⟩ := hu
  obtain ⟨b, d, rfl, h2, l2⟩ := hv
  exact eqI_any w.heap.size a b c d xs ys w h1 h2 l1 l2
theorem below_drewI {B n : Nat} {a b : World} (h : Below B a b) : Below B a (b.drewN n) := ⟨h.os, h.tape, h.output, h.size, h.block⟩

/-- Equal, of values, as what is known carries it. -/
theorem eqI_below (u v : Value) (xs ys : List Int) (w : World) (hu : KlC w u xs) (hv : KlC w v ys) :
    Calls Try.prog 24 #[u, v] w fun e w' => e = .returned (.bool (decide (xs = ys))) ∧ Below w.heap.size w w' := by
  refine (eqI_at u v xs ys w hu hv).mono ?_
  rintro e w' ⟨rfl, q, rfl⟩
  exact ⟨rfl, rfl, rfl, rfl, Nat.le_refl _, fun _ _ => rfl⟩

end Go.Proofs.Ytonjempbphnimaa
