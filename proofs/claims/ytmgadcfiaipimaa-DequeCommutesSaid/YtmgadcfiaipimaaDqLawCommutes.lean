/-
  The walk of DequeCommutes.
-/
import Derived.Test.YtmgadcfiaipimaaDqAwake
import Derived.Test.YtmgadcfiaipimaaDqOpen
namespace Go.Proofs.Ytmgadcfiaipimaa
open Go.RowKit

/-- Both orders. -/
theorem commutes_math {l : List Int} (h : dqE l = 0) (h2 : 2 ≤ l.length) : takeE l = 0 ∧ takeE (popQ l) = 0 ∧ takeE (stealQ l) = 0 ∧ popX l = popX (stealQ l) ∧ stealX (popQ l) = stealX l ∧ stealQ (popQ l) = popQ (stealQ l) := by
  have h0 : takeE l = 0 := takeE_iff.2 ⟨h, fun e => by rw [e] at h2; simp at h2⟩
  have e1 : popQ l = l.take (l.length - 1) := if_pos h0
  have e2 : stealQ l = l.drop 1 := if_pos h0
  have h1 : takeE (l.take (l.length - 1)) = 0 := takeE_iff.2 ⟨dqE_take h _, fun e => by have := congrArg List.length e; rw [List.length_take] at this; simp at this; omega⟩
  have h3 : takeE (l.drop 1) = 0 := takeE_iff.2 ⟨dqE_drop h _, fun e => by have := congrArg List.length e; rw [List.length_drop] at this; simp at this; omega⟩
  rw [e1, e2]
  refine ⟨h0, h1, h3, ?_, ?_, ?_⟩
  · rw [show popX l = gz l (l.length - 1) from if_pos h0, show popX (l.drop 1) = gz (l.drop 1) ((l.drop 1).length - 1) from if_pos h3, gz_drop, List.length_drop]
    congr 1
    omega
  · rw [show stealX l = gz l 0 from if_pos h0, show stealX (l.take (l.length - 1)) = gz (l.take (l.length - 1)) 0 from if_pos h1, gz_take (by omega)]
  · rw [show stealQ (l.take (l.length - 1)) = (l.take (l.length - 1)).drop 1 from if_pos h1, show popQ (l.drop 1) = (l.drop 1).take ((l.drop 1).length - 1) from if_pos h3, List.length_drop, List.drop_take]

set_option maxRecDepth 100000 in
set_option maxHeartbeats 8000000 in
theorem dequeCommutes_walk (v : Value) (l : List Int) (w : World) (hK : KZ w v l) :
    Calls Try.prog 7 #[v] w fun e w' => e = .returned (.bool true) ∧ Below w.heap.size w w' := by
  have HB0 : Hid (Below w.heap.size w w) := Lib.hid (Below.refl _ w)
  have K0 := Lib.hid hK
  have HCK := check_any v l w hK
  obtain ⟨ad, cap, rfl, hc1, hc2, hA⟩ := hK
  clear hA
  by_cases hg : 40 < l.length
  · have hgI : (40 : Int) < (l.length : Int) := by omega
    clear HCK
    go_enter Try.func7, Try.ntmps7
    have hC1 := awake_any w
    have HC1 := Lib.hid hC1
    clear hC1
    go_wp2_with fail
    refine HC1.out.mono ?_
    rintro e w1 ⟨rfl, b1⟩
    have HB1 := Lib.hid (HB0.out.trans (b1.mono HB0.out.size))
    clear b1
    go_wp2
    go_ret
    exact ⟨rfl, HB1.out⟩
  · have hgI : ¬ (40 : Int) < (l.length : Int) := by omega
    by_cases hh : l.length < 2
    · have hhI : (l.length : Int) < 2 := by omega
      clear HCK
      go_enter Try.func7, Try.ntmps7
      have hC1 := awake_any w
      have HC1 := Lib.hid hC1
      clear hC1
      go_wp2_with fail
      refine HC1.out.mono ?_
      rintro e w1 ⟨rfl, b1⟩
      have HB1 := Lib.hid (HB0.out.trans (b1.mono HB0.out.size))
      clear b1
      go_wp2
      go_ret
      exact ⟨rfl, HB1.out⟩
    · have hhI : ¬ (l.length : Int) < 2 := by omega
      by_cases hd : dqE l = 0
      · obtain ⟨h0, h1, h2, h3, h4, h5⟩ := commutes_math hd (by omega)
        rw [hd] at HCK
        have HCK := Lib.hid HCK
        clear hd
        have H0 := Lib.hid h0
        have H1 := Lib.hid h1
        have H2 := Lib.hid h2
        have H3 := Lib.hid h3
        have H4 := Lib.hid h4
        have H5 := Lib.hid h5
        clear h0 h1 h2 h3 h4 h5
        obtain ⟨QA, hQA⟩ : ∃ q, popQ l = q := ⟨_, rfl⟩
        have HQA := Lib.hid hQA
        clear hQA
        obtain ⟨QB, hQB⟩ : ∃ q, stealQ l = q := ⟨_, rfl⟩
        have HQB := Lib.hid hQB
        clear hQB
        obtain ⟨XA, hXA⟩ : ∃ q, popX l = q := ⟨_, rfl⟩
        have HXA := Lib.hid hXA
        clear hXA
        obtain ⟨XB, hXB⟩ : ∃ q, stealX l = q := ⟨_, rfl⟩
        have HXB := Lib.hid hXB
        clear hXB
        rw [HQA.out] at H1 H4 H5
        rw [HQB.out] at H2 H3 H5
        rw [HXA.out] at H3
        rw [HXB.out] at H4
        obtain ⟨QC, hQC⟩ : ∃ q, stealQ QA = q := ⟨_, rfl⟩
        rw [hQC] at H5
        have HQC := Lib.hid hQC
        clear hQC
        have nXA : (XA != XA) = false := by simp
        have mXA : (XA == XA) = true := by simp
        have nXB : (XB != XB) = false := by simp
        have mXB : (XB == XB) = true := by simp
        go_enter Try.func7, Try.ntmps7
        go_wp2_with fail
        refine HCK.out.mono ?_
        rintro e w0 ⟨rfl, rfl⟩
        have hC1 := pop_any _ l w K0.out
        rw [HQA.out, HXA.out, H0.out] at hC1
        have HC1 := Lib.hid hC1
        clear hC1
        go_wp2_with fail
        refine HC1.out.mono ?_
        rintro e w1 ⟨ua, rfl, ka, b1⟩
        have HB1 := Lib.hid (HB0.out.trans (b1.mono HB0.out.size))
        have Kl_1 := Lib.hid (KZ.below K0.out b1)
        have Ka_1 := Lib.hid (ka.kz)
        clear b1 ka
        have hC2 := steal_any _ QA w1 Ka_1.out
        rw [HQC.out, H4.out, H1.out] at hC2
        have HC2 := Lib.hid hC2
        clear hC2
        go_wp2_with fail
        refine HC2.out.mono ?_
        rintro e w2 ⟨uc, rfl, kc, b2⟩
        have HB2 := Lib.hid (HB1.out.trans (b2.mono HB1.out.size))
        have Kl_2 := Lib.hid (KZ.below Kl_1.out b2)
        have Ka_2 := Lib.hid (KZ.below Ka_1.out b2)
        have Kc_2 := Lib.hid (kc.kz)
        clear b2 kc
        have hC3 := steal_any _ l w2 Kl_2.out
        rw [HQB.out, HXB.out, H0.out] at hC3
        have HC3 := Lib.hid hC3
        clear hC3
        go_wp2_with fail
        refine HC3.out.mono ?_
        rintro e w3 ⟨ub, rfl, kb, b3⟩
        have HB3 := Lib.hid (HB2.out.trans (b3.mono HB2.out.size))
        have Kl_3 := Lib.hid (KZ.below Kl_2.out b3)
        have Kc_3 := Lib.hid (KZ.below Kc_2.out b3)
        have Kb_3 := Lib.hid (kb.kz)
        clear b3 kb
        have hC4 := pop_any _ QB w3 Kb_3.out
        rw [← H5.out, ← H3.out, H2.out] at hC4
        have HC4 := Lib.hid hC4
        clear hC4
        go_wp2_with fail
        refine HC4.out.mono ?_
        rintro e w4 ⟨ud, rfl, kd, b4⟩
        have HB4 := Lib.hid (HB3.out.trans (b4.mono HB3.out.size))
        have Kc_4 := Lib.hid (KZ.below Kc_3.out b4)
        have Kb_4 := Lib.hid (KZ.below Kb_3.out b4)
        have Kd_4 := Lib.hid (kd.kz)
        clear b4 kd
        have hC5 := same_yes _ _ QC w4 Kc_4.out Kd_4.out
        have HC5 := Lib.hid hC5
        clear hC5
        go_wp2_with fail
        refine HC5.out.mono ?_
        rintro e w5 ⟨rfl, b5⟩
        have HB5 := Lib.hid (HB4.out.trans (b5.mono HB4.out.size))
        have Kc_5 := Lib.hid (KZ.below Kc_4.out b5)
        have Kd_5 := Lib.hid (KZ.below Kd_4.out b5)
        clear b5
        have hC6 := awake_any w5
        have HC6 := Lib.hid hC6
        clear hC6
        go_wp2_with fail
        refine HC6.out.mono ?_
        rintro e w6 ⟨rfl, b6⟩
        have HB6 := Lib.hid (HB5.out.trans (b6.mono HB5.out.size))
        clear b6
        go_wp2
        go_ret
        exact ⟨rfl, HB6.out⟩
      · obtain ⟨z, hz⟩ : ∃ z, dqE l = z := ⟨_, rfl⟩
        rw [hz] at HCK hd
        have h0' : (z != 0) = true := by simpa using hd
        have HCK := Lib.hid HCK
        clear hz hd
        go_enter Try.func7, Try.ntmps7
        go_wp2_with fail
        refine HCK.out.mono ?_
        rintro e w0 ⟨rfl, rfl⟩
        have hC1 := awake_any w
        have HC1 := Lib.hid hC1
        clear hC1
        go_wp2_with fail
        refine HC1.out.mono ?_
        rintro e w1 ⟨rfl, b1⟩
        have HB1 := Lib.hid (HB0.out.trans (b1.mono HB0.out.size))
        clear b1
        go_wp2
        go_ret
        exact ⟨rfl, HB1.out⟩

end Go.Proofs.Ytmgadcfiaipimaa
