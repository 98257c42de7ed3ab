/-
  The statement VclockPairs: the walk.
-/
import Derived.Test.YtpkmdonejmbnoaaVcLaw
namespace Go.Proofs.Ytpkmdonejmbnoaa
open Go.RowKit

set_option maxRecDepth 100000 in
set_option maxHeartbeats 8000000 in
theorem vclockPairs_walk (u v : Value) (xs ys : List Int) (w : World) (hu : KlC w u xs) (hv : KlC w v ys) :
    Calls Try.prog 4 #[u, v] w fun e w' => e = .returned (.bool true) ∧ Below w.heap.size w w' := by
  obtain ⟨w0, hw0⟩ : ∃ W, w.alloc (.cells #[u, v] TC) = W := ⟨_, rfl⟩
  have hL := klL2 w u v xs ys hu hv
  have b0 : Below w.heap.size w w0 := by rw [← hw0]; exact (Below.refl _ w).alloc (Nat.le_refl _) _
  rw [hw0] at hL
  have HG := greatK_any _ _ w0 hL
  have HA0 := Lib.hid (awake_any w0)
  have HU := Lib.hid (hu.below b0)
  have HV := Lib.hid (hv.below b0)
  have HW := Lib.hid hw0
  have B0 := Lib.hid b0
  have xx : (pairE xs ys == pairE xs ys) = true := by simp
  have cc : (cmpK xs ys == cmpK xs ys) = true := by simp
  have J1 := Lib.hid (vJoin_at u v xs ys w0 HU.out HV.out)
  have J2 : Hid (∀ W, Below w0.heap.size w0 W → Calls Try.prog 26 #[u, v] W (RetK (joinL xs ys) (pairE xs ys) W)) := Lib.hid (fun W h => rJoin_at u v xs ys W (HU.out.below h) (HV.out.below h))
  have J3 : Hid (∀ W, Below w0.heap.size w0 W → Calls Try.prog 27 #[u, v] W (RetK (meetL xs ys) (pairE xs ys) W)) := Lib.hid (fun W h => vMeet_at u v xs ys W (HU.out.below h) (HV.out.below h))
  have J4 : Hid (∀ W, Below w0.heap.size w0 W → Calls Try.prog 28 #[u, v] W (RetK (meetL xs ys) (pairE xs ys) W)) := Lib.hid (fun W h => rMeet_at u v xs ys W (HU.out.below h) (HV.out.below h))
  have J5 : Hid (∀ W, Below w0.heap.size w0 W → Calls Try.prog 29 #[u, v] W fun e w' => e = .returned (.int .i64 (cmpK xs ys)) ∧ W = w') := Lib.hid (fun W h => vCompare_at u v xs ys W (HU.out.below h) (HV.out.below h))
  have J6 : Hid (∀ W, Below w0.heap.size w0 W → Calls Try.prog 30 #[u, v] W fun e w' => e = .returned (.int .i64 (cmpK xs ys)) ∧ Below W.heap.size W w') := Lib.hid (fun W h => rCompare_at u v xs ys W (HU.out.below h) (HV.out.below h))
  obtain ⟨a, c, rfl, _, _⟩ := hu
  obtain ⟨a2, c2, rfl, _, _⟩ := hv
  clear hw0 hL b0
  cases hg : [xs, ys].any bigK with
  | true =>
    rw [hg] at HG
    have HG := Lib.hid HG
    clear hg HU HV J1 J2 J3 J4 J5 J6
    go_enter Try.func4, Try.ntmps4
    go_wp2_with fail
    rw [HW.out]
    refine HG.out.mono ?_
    rintro e w1 ⟨rfl, rfl⟩
    go_wp2_with fail
    refine HA0.out.mono ?_
    rintro e w1 ⟨rfl, b1⟩
    go_wp2
    go_ret
    exact ⟨rfl, B0.out.trans (b1.mono B0.out.size)⟩
  | false =>
    rw [hg] at HG
    have HG := Lib.hid HG
    clear hg HU HV HA0
    generalize pairE xs ys = pe at *
    generalize cmpK xs ys = ck at *
    generalize joinL xs ys = JL at *
    generalize meetL xs ys = ML at *
    go_enter Try.func4, Try.ntmps4
    go_wp2_with fail
    rw [HW.out]
    refine HG.out.mono ?_
    rintro e w1 ⟨rfl, rfl⟩
    go_wp2_with fail
    refine J1.out.mono ?_
    rintro e w1 ⟨v1, rfl, k1, b1⟩
    have K1 := Lib.hid k1
    have B1 := Lib.hid b1
    have C2 := Lib.hid (J2.out w1 b1)
    clear k1 b1
    go_wp2_with fail
    refine C2.out.mono ?_
    rintro e w2 ⟨v2, rfl, k2, b2⟩
    have K12 := Lib.hid (K1.out.below b2)
    have K2 := Lib.hid k2
    have B2 := Lib.hid (B1.out.trans (b2.mono B1.out.size))
    have C3 := Lib.hid (J3.out w2 B2.out)
    clear k2 b2
    go_wp2_with fail
    refine C3.out.mono ?_
    rintro e w3 ⟨v3, rfl, k3, b3⟩
    have K13 := Lib.hid (K12.out.below b3)
    have K23 := Lib.hid (K2.out.below b3)
    have K3 := Lib.hid k3
    have B3 := Lib.hid (B2.out.trans (b3.mono B2.out.size))
    have C4 := Lib.hid (J4.out w3 B3.out)
    clear k3 b3
    go_wp2_with fail
    refine C4.out.mono ?_
    rintro e w4 ⟨v4, rfl, k4, b4⟩
    have K14 := Lib.hid (K13.out.below b4)
    have K24 := Lib.hid (K23.out.below b4)
    have K34 := Lib.hid (K3.out.below b4)
    have K4 := Lib.hid k4
    have B4 := Lib.hid (B3.out.trans (b4.mono B3.out.size))
    have C5 := Lib.hid (rSame_yes v1 v2 JL w4 K14.out K24.out)
    clear k4 b4
    go_wp2_with fail
    refine C5.out.mono ?_
    rintro e w5 ⟨rfl, b5⟩
    have B5 := Lib.hid (B4.out.trans (b5.mono B4.out.size))
    have C6 := Lib.hid (rSame_yes v3 v4 ML w5 (K34.out.below b5) (K4.out.below b5))
    clear b5
    go_wp2_with fail
    refine C6.out.mono ?_
    rintro e w6 ⟨rfl, b6⟩
    have B6 := Lib.hid (B5.out.trans (b6.mono B5.out.size))
    have C7 := Lib.hid (J5.out w6 B6.out)
    have C8 := Lib.hid (J6.out w6 B6.out)
    clear b6
    go_wp2_with fail
    refine C7.out.mono ?_
    rintro e w7 ⟨rfl, rfl⟩
    go_wp2_with fail
    refine C8.out.mono ?_
    rintro e w7 ⟨rfl, b7⟩
    have B7 := Lib.hid (B6.out.trans (b7.mono B6.out.size))
    have C9 := Lib.hid (awake_any w7)
    clear b7
    go_wp2_with fail
    refine C9.out.mono ?_
    rintro e w8 ⟨rfl, b8⟩
    have B8 := Lib.hid (B7.out.trans (b8.mono B7.out.size))
    go_wp2
    go_ret
    exact ⟨rfl, B0.out.trans (B8.out.mono B0.out.size)⟩

end Go.Proofs.Ytpkmdonejmbnoaa
