/-
  What being before is; the library's Equal over clocks.
-/
import Derived.Test.YtpkmdonejmbnoaaVcLaw
namespace Go.Proofs.Ytpkmdonejmbnoaa
open Go.RowKit

set_option maxRecDepth 100000 in
set_option maxHeartbeats 1000000 in
/-- slices.Equal. -/
theorem eqZ_any (n₀ : Nat) (a b : Option Addr) (c d : Nat) (za zb : List Int) (w : World) (ha : IntsA n₀ w a za) (hb : IntsA n₀ w b zb) (hla : za.length ≤ 9223372036854775807) (_hlb : zb.length ≤ 9223372036854775807) :
    Calls Try.prog 32 #[.slice a za.length c, .slice b zb.length d] w fun e w' => e = .returned (.bool (decide (za = zb))) ∧ ∃ q, w' = w.drewN q := by
  by_cases hl : za.length = zb.length
  · have hne : ((za.length : Int) != (zb.length : Int)) = false := by rw [hl]; simp
    have HA := Lib.hid ha
    have HB := Lib.hid hb
    have HL := Lib.hid hl
    have HE : Hid (allP (fun i => decide (gz za i = gz zb i)) za.length = true → decide (za = zb) = true) := Lib.hid (fun h => decide_eq_true (gz_ext hl (fun j hj => of_decide_eq_true (allP_iff.1 h j hj))))
    have HF : Hid (∀ k, gz za k ≠ gz zb k → decide (za = zb) = false) := Lib.hid (fun k h => decide_eq_false (fun e => h (by rw [e])))
    clear ha hb hl
    go_enter Try.func32, Try.ntmps32
    go_wp2
    go_loopw [13] (fun i wr => ∃ k q : Nat, k ≤ za.length ∧ i = .int .i64 k ∧ wr = w.drewN q ∧ Hid (allP (fun i => decide (gz za i = gz zb i)) k = true)) (fun i _ => za.length - (intOf i).toNat)
    case atStart => exact ⟨0, 0, Nat.zero_le _, rfl, rfl, Lib.hid rfl⟩
    case round =>
      obtain ⟨k, q, hk, rfl, rfl, HK⟩ := hrel
      by_cases hlt : k < za.length
      · have k1 : (k : Int) < (za.length : Int) := by omega
        have k2 : (k : Int) < (zb.length : Int) := by have := HL.out; omega
        have k3 : (0 : Int) ≤ (k : Int) := by omega
        obtain ⟨b1, o1, rfl, _, q1⟩ := HA.out k hlt
        obtain ⟨b2, o2, rfl, _, q2⟩ := HB.out k (by have := HL.out; omega)
        change w.cell? ⟨b1, o1 + k, none⟩ = some (.int .i64 (gz za k)) at q1
        change w.cell? ⟨b2, o2 + k, none⟩ = some (.int .i64 (gz zb k)) at q2
        have HNO := Lib.hid (HF.out k)
        have HYES : Hid (gz za k = gz zb k → allP (fun i => decide (gz za i = gz zb i)) (k + 1) = true) := Lib.hid (fun h1 => by rw [allP_succ, HK.out, Bool.true_and]; exact decide_eq_true h1)
        generalize gz za k = x at q1 HNO HYES
        generalize gz zb k = y at q2 HNO HYES
        by_cases hxy : x = y
        · have hb' : (x != y) = false := by simp [hxy]
          have HK' := Lib.hid (HYES.out hxy)
          clear hxy
          go_wp2
          go_quiet (fail)
          go_wp2
          go_roundw
          case rel => exact ⟨k + 1, _, by omega, by go_num, rfl, HK'⟩
          case measure => simp [intOf]; omega
        · have hb' : (x != y) = true := by simp [hxy]
          have HR := Lib.hid (HNO.out hxy)
          clear hxy
          go_wp2
          go_quiet (fail)
          go_wp2
          go_ret
          exact ⟨by rw [HR.out]; rfl, q + nq, by rw [World.drewN_drewN]⟩
      · obtain rfl : k = za.length := by omega
        have HR := Lib.hid (HE.out HK.out)
        go_wp2
        go_ret
        exact ⟨by rw [HR.out]; rfl, _, rfl⟩
  · have hne : ((za.length : Int) != (zb.length : Int)) = true := by rw [bne_iff_ne]; omega
    have hd : decide (za = zb) = false := decide_eq_false (fun e => hl (by rw [e]))
    rw [hd]
    clear hl ha hb hd
    go_enter Try.func32, Try.ntmps32
    go_wp2
    go_ret
    exact ⟨rfl, 0, rfl⟩
theorem KlC.drewN {w : World} {v : Value} {zs : List Int} (n : Nat) (h : KlC w v zs) : KlC (w.drewN n) v zs := by
  obtain ⟨a, c, e, h1, h2⟩ := h
  exact ⟨a, c, e, h1, h2⟩
theorem eqZ_at (u v : Value) (xs ys : List Int) (w : World) (hu : KlC w u xs) (hv : KlC w v ys) :
    Calls Try.prog 32 #[u, v] w fun e w' => e = .returned (.bool (decide (xs = ys))) ∧ ∃ q, w' = w.drewN q := by
  obtain ⟨a, c, rfl, h1, l1⟩ := hu
  obtain ⟨b, d, rfl, h2, l2⟩ := hv
  exact eqZ_any w.heap.size a b c d xs ys w h1 h2 l1 l2
theorem below_drewZ {B n : Nat} {a b : World} (h : Below B a b) : Below B a (b.drewN n) := ⟨h.os, h.tape, h.output, h.size, h.block⟩

/-! ### Mathematics -/

theorem leB_self (xs : List Int) : leB xs xs = true := leB_iff.2 (fun _ _ => Int.le_refl _)
theorem leB_anti {xs ys : List Int} (h : xs.length = ys.length) (h1 : leB xs ys = true) (h2 : leB ys xs = true) : xs = ys :=
  gz_ext h (fun i hi => Int.le_antisymm (leB_iff.1 h1 i hi) (leB_iff.1 h2 i (by omega)))
theorem leB_trans {xs ys zs : List Int} (h : xs.length = ys.length) (h1 : leB xs ys = true) (h2 : leB ys zs = true) : leB xs zs = true :=
  leB_iff.2 (fun i hi => Int.le_trans (leB_iff.1 h1 i hi) (leB_iff.1 h2 i (by omega)))
/-- Clocks that may be compared. -/
def Pr (xs ys : List Int) : Prop := pairE xs ys = 0
theorem Pr.symm {xs ys : List Int} (h : Pr xs ys) : Pr ys xs := by
  obtain ⟨h1, h2, h3⟩ := pairE_ok h
  exact pairE_of h2 h1 h3.symm
theorem Pr.trans {xs ys zs : List Int} (h : Pr xs ys) (k : Pr ys zs) : Pr xs zs := by
  obtain ⟨h1, _, h3⟩ := pairE_ok h
  obtain ⟨_, h4, h5⟩ := pairE_ok k
  exact pairE_of h1 h4 (h3.trans h5)
theorem Pr.len {xs ys : List Int} (h : Pr xs ys) : xs.length = ys.length := (pairE_ok h).2.2
theorem cmpK_pr {xs ys : List Int} (h : Pr xs ys) : cmpK xs ys = if leB xs ys = true ∧ leB ys xs = true then 0 else if leB xs ys = true then 1 else if leB ys xs = true then 2 else 3 := by
  unfold cmpK
  rw [if_neg (by simp [show pairE xs ys = 0 from h])]
theorem cmpK_cases {xs ys : List Int} (h : Pr xs ys) : (cmpK xs ys = 0 ∧ cmpK ys xs = 0 ∧ xs = ys) ∨ (cmpK xs ys = 1 ∧ cmpK ys xs = 2 ∧ leB xs ys = true ∧ xs ≠ ys) ∨ (cmpK xs ys = 2 ∧ cmpK ys xs = 1 ∧ leB ys xs = true ∧ xs ≠ ys) ∨ (cmpK xs ys = 3 ∧ cmpK ys xs = 3 ∧ xs ≠ ys ∧ leB xs ys = false ∧ leB ys xs = false) := by
  rw [cmpK_pr h, cmpK_pr h.symm]
  cases h1 : leB xs ys <;> cases h2 : leB ys xs
  · exact .inr (.inr (.inr ⟨rfl, rfl, fun e => (by rw [e, leB_self] at h1; cases h1), rfl, rfl⟩))
  · exact .inr (.inr (.inl ⟨rfl, rfl, rfl, fun e => (by rw [e, leB_self] at h1; cases h1)⟩))
  · exact .inr (.inl ⟨rfl, rfl, rfl, fun e => (by rw [e, leB_self] at h2; cases h2)⟩)
  · exact .inl ⟨rfl, rfl, leB_anti h.len h1 h2⟩
theorem cmpK_one {xs ys : List Int} (h : Pr xs ys) : cmpK xs ys = 1 ↔ leB xs ys = true ∧ xs ≠ ys := by
  rcases cmpK_cases h with ⟨a, b, c⟩ | ⟨a, b, c, d⟩ | ⟨a, b, c, d⟩ | ⟨a, b, c, d, e⟩ <;> rw [a]
  · exact ⟨fun h => (by cases h), fun h => absurd c h.2⟩
  · exact ⟨fun _ => ⟨c, d⟩, fun _ => rfl⟩
  · exact ⟨fun h => (by cases h), fun k => absurd (leB_anti h.len k.1 c) d⟩
  · exact ⟨fun h => (by cases h), fun k => by rw [k.1] at d; cases d⟩
theorem cmpK_zero {xs ys : List Int} (h : Pr xs ys) : cmpK xs ys = 0 ↔ xs = ys := by
  rcases cmpK_cases h with ⟨a, b, c⟩ | ⟨a, b, c, d⟩ | ⟨a, b, c, d⟩ | ⟨a, b, c, d, e⟩ <;> rw [a]
  · exact ⟨fun _ => c, fun _ => rfl⟩
  · exact ⟨fun h => (by cases h), fun k => absurd k d⟩
  · exact ⟨fun h => (by cases h), fun k => absurd k d⟩
  · exact ⟨fun h => (by cases h), fun k => absurd k c⟩
theorem cmpK_self {xs : List Int} (h : Pr xs xs) : cmpK xs xs = 0 := (cmpK_zero h).2 rfl
theorem cmpK_trans {xs ys zs : List Int} (h : Pr xs ys) (k : Pr ys zs) (h1 : cmpK xs ys = 1) (h2 : cmpK ys zs = 1 ∨ cmpK ys zs = 0) : cmpK xs zs = 1 := by
  obtain ⟨a1, a2⟩ := (cmpK_one h).1 h1
  rcases h2 with h2 | h2
  · obtain ⟨b1, b2⟩ := (cmpK_one k).1 h2
    refine (cmpK_one (h.trans k)).2 ⟨leB_trans h.len a1 b1, fun e => a2 ?_⟩
    subst e
    exact leB_anti h.len a1 b1
  · have e := (cmpK_zero k).1 h2
    subst e
    exact h1
/-- What valid says of three clocks. -/
theorem valid3 {xs ys zs : List Int} (h : [xs, ys, zs].any (badK (elK [xs, ys, zs] 0).length) = false) : Pr xs ys ∧ Pr ys zs := by
  have e : elK [xs, ys, zs] 0 = xs := rfl
  rw [e] at h
  simp [badK] at h
  obtain ⟨h1, ⟨h2, h3⟩, h4, h5⟩ := h
  exact ⟨pairE_of h1 h2 h3.symm, pairE_of h2 h4 (h3.trans h5.symm)⟩


end Go.Proofs.Ytpkmdonejmbnoaa
