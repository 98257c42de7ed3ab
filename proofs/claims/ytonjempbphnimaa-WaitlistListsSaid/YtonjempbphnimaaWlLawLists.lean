/-
  The walk of WaitlistLists.
-/
import Derived.Test.YtonjempbphnimaaWlAwake
import Derived.Test.YtonjempbphnimaaWlRef
import Derived.Test.YtonjempbphnimaaWlRefGr
import Derived.Test.YtonjempbphnimaaWlRm
import Derived.Test.YtonjempbphnimaaWlAt
import Derived.Test.YtonjempbphnimaaWlOpen
namespace Go.Proofs.Ytonjempbphnimaa
open Go.RowKit Go.Shelf

set_option maxRecDepth 100000 in
set_option maxHeartbeats 8000000 in
theorem waitlistLists_walk (v : Value) (ts : List Wl) (t u : Int) (skip : Bool) (w : World) (hK : KwC w v ts) (hf : ∀ t ∈ ts, FitW t) (hu : -9223372036854775808 ≤ u ∧ u ≤ 9223372036854775807) :
    Calls Try.prog 4 #[v, .int .i64 t, .int .i64 u, .bool skip] w fun e w' => e = .returned (.bool true) ∧ Below w.heap.size w w' := by
  have HB0 : Hid (Below w.heap.size w w) := Lib.hid (Below.refl _ w)
  have K1 := Lib.hid hK
  have HFT := Lib.hid (fun (t : Wl) (h : t ∈ ts) => (hf t h).1)
  have HU := Lib.hid hu
  have hG := great_atW v ts w hK
  clear hK hf hu
  by_cases hg : 12 < ts.length
  · rw [decide_eq_true hg] at hG
    have HG := Lib.hid hG
    clear hG hg
    go_enter Try.func4, Try.ntmps4
    go_wp2_with fail
    refine HG.out.mono ?_
    rintro e wg ⟨rfl, rfl⟩
    have hC1 := awake_any w
    have HC1 := Lib.hid hC1
    clear hC1
    go_wp2_with fail
    refine HC1.out.mono ?_
    rintro e w1 ⟨rfl, b1⟩
    have HB1 := Lib.hid (HB0.out.trans (b1.mono HB0.out.size))
    clear b1
    go_wp2
    go_ret
    exact ⟨rfl, HB1.out⟩
  · rw [decide_eq_false hg] at hG
    have HG := Lib.hid hG
    have hl : ts.length ≤ 12 := by omega
    clear hG hg
    go_enter Try.func4, Try.ntmps4
    go_wp2_with fail
    refine HG.out.mono ?_
    rintro e wg ⟨rfl, rfl⟩
    obtain ⟨FI, hFI⟩ : ∃ x, fndI ts t = x := ⟨_, rfl⟩
    have HFI := Lib.hid hFI
    clear hFI
    obtain ⟨FB, hFB⟩ : ∃ x, fndB ts t = x := ⟨_, rfl⟩
    have HFB := Lib.hid hFB
    clear hFB
    obtain ⟨GG, hGG⟩ : ∃ x, grG skip u ts = x := ⟨_, rfl⟩
    have HGG := Lib.hid hGG
    clear hGG
    obtain ⟨GO, hGO⟩ : ∃ x, grO skip u ts = x := ⟨_, rfl⟩
    have HGO := Lib.hid hGO
    clear hGO
    obtain ⟨GN, hGN⟩ : ∃ x, grN skip u ts = x := ⟨_, rfl⟩
    have HGN := Lib.hid hGN
    clear hGN
    obtain ⟨RM, hRM⟩ : ∃ x, rmW ts t = x := ⟨_, rfl⟩
    have HRM := Lib.hid hRM
    clear hRM
    obtain ⟨TL, hTL⟩ : ∃ x, tskL ts = x := ⟨_, rfl⟩
    have HTL := Lib.hid hTL
    clear hTL
    have hC1 := wFind_any v ts t w K1.out (by omega)
    rw [HFI.out, HFB.out] at hC1
    have HC1 := Lib.hid hC1
    clear hC1
    go_wp2_with fail
    refine HC1.out.mono ?_
    rintro e w1 ⟨rfl, b1⟩
    have HB1 := Lib.hid (HB0.out.trans (b1.mono HB0.out.size))
    have Kl_1 := Lib.hid (KwC.below K1.out b1)
    clear b1
    have hC2 := rwFind_any v ts t w1 Kl_1.out
    rw [HFI.out, HFB.out] at hC2
    have HC2 := Lib.hid hC2
    clear hC2
    go_wp2_with fail
    refine HC2.out.mono ?_
    rintro e wz2 ⟨rfl, rfl⟩
    have hC3 := wGrant_any v ts u skip w1 Kl_1.out (by omega) HU.out
    rw [HGG.out, HGO.out, HGN.out] at hC3
    have HC3 := Lib.hid hC3
    clear hC3
    go_wp2_with fail
    refine HC3.out.mono ?_
    rintro e w3 ⟨x1, y1, rfl, f1, g1, b3⟩
    have HB3 := Lib.hid (HB1.out.trans (b3.mono HB1.out.size))
    have Kl_3 := Lib.hid (KwC.below Kl_1.out b3)
    have Ka_3 : Hid (KwC w3 x1 (GG)) := Lib.hid (FwC.known f1)
    have Kb_3 : Hid (KwC w3 y1 (GO)) := Lib.hid (FwC.known g1)
    clear b3 f1 g1
    have hC4 := rwGrant_any v ts u skip w3 Kl_3.out (by omega) HU.out
    rw [HGG.out, HGO.out, HGN.out] at hC4
    have HC4 := Lib.hid hC4
    clear hC4
    go_wp2_with fail
    refine HC4.out.mono ?_
    rintro e w4 ⟨x2, y2, rfl, f2, g2, b4⟩
    have HB4 := Lib.hid (HB3.out.trans (b4.mono HB3.out.size))
    have Kl_4 := Lib.hid (KwC.below Kl_3.out b4)
    have Ka_4 := Lib.hid (KwC.below Ka_3.out b4)
    have Kb_4 := Lib.hid (KwC.below Kb_3.out b4)
    have Kc_4 : Hid (KwC w4 x2 (GG)) := Lib.hid (FwC.known f2)
    have Kd_4 : Hid (KwC w4 y2 (GO)) := Lib.hid (FwC.known g2)
    clear b4 f2 g2
    have hC5 := wRemove_any v ts t w4 Kl_4.out (by omega)
    rw [HRM.out] at hC5
    have HC5 := Lib.hid hC5
    clear hC5
    go_wp2_with fail
    refine HC5.out.mono ?_
    rintro e w5 ⟨v3, rfl, f3, b5⟩
    have HB5 := Lib.hid (HB4.out.trans (b5.mono HB4.out.size))
    have Kl_5 := Lib.hid (KwC.below Kl_4.out b5)
    have Ka_5 := Lib.hid (KwC.below Ka_4.out b5)
    have Kb_5 := Lib.hid (KwC.below Kb_4.out b5)
    have Kc_5 := Lib.hid (KwC.below Kc_4.out b5)
    have Kd_5 := Lib.hid (KwC.below Kd_4.out b5)
    have Kp_5 : Hid (KwC w5 v3 (RM)) := Lib.hid (FwC.known f3)
    clear b5 f3
    have hC6 := rwRemove_any v ts t w5 Kl_5.out (by omega)
    rw [HRM.out] at hC6
    have HC6 := Lib.hid hC6
    clear hC6
    go_wp2_with fail
    refine HC6.out.mono ?_
    rintro e w6 ⟨v4, rfl, f4, b6⟩
    have HB6 := Lib.hid (HB5.out.trans (b6.mono HB5.out.size))
    have Kl_6 := Lib.hid (KwC.below Kl_5.out b6)
    have Ka_6 := Lib.hid (KwC.below Ka_5.out b6)
    have Kb_6 := Lib.hid (KwC.below Kb_5.out b6)
    have Kc_6 := Lib.hid (KwC.below Kc_5.out b6)
    have Kd_6 := Lib.hid (KwC.below Kd_5.out b6)
    have Kp_6 := Lib.hid (KwC.below Kp_5.out b6)
    have Kq_6 : Hid (KwC w6 v4 (RM)) := Lib.hid (FwC.known f4)
    clear b6 f4
    have hC7 := eqW_same _ _ _ w6 Kp_6.out Kq_6.out
    have HC7 := Lib.hid hC7
    clear hC7
    go_wp2_with fail
    refine HC7.out.mono ?_
    rintro e w7 ⟨rfl, b7⟩
    have HB7 := Lib.hid (HB6.out.trans (b7.mono HB6.out.size))
    have Kl_7 := Lib.hid (KwC.below Kl_6.out b7)
    have Ka_7 := Lib.hid (KwC.below Ka_6.out b7)
    have Kb_7 := Lib.hid (KwC.below Kb_6.out b7)
    have Kc_7 := Lib.hid (KwC.below Kc_6.out b7)
    have Kd_7 := Lib.hid (KwC.below Kd_6.out b7)
    have Kp_7 := Lib.hid (KwC.below Kp_6.out b7)
    have Kq_7 := Lib.hid (KwC.below Kq_6.out b7)
    clear b7
    have hC8 := eqW_same _ _ _ w7 Ka_7.out Kc_7.out
    have HC8 := Lib.hid hC8
    clear hC8
    go_wp2_with fail
    refine HC8.out.mono ?_
    rintro e w8 ⟨rfl, b8⟩
    have HB8 := Lib.hid (HB7.out.trans (b8.mono HB7.out.size))
    have Kl_8 := Lib.hid (KwC.below Kl_7.out b8)
    have Ka_8 := Lib.hid (KwC.below Ka_7.out b8)
    have Kb_8 := Lib.hid (KwC.below Kb_7.out b8)
    have Kc_8 := Lib.hid (KwC.below Kc_7.out b8)
    have Kd_8 := Lib.hid (KwC.below Kd_7.out b8)
    clear b8
    have hC9 := eqW_same _ _ _ w8 Kb_8.out Kd_8.out
    have HC9 := Lib.hid hC9
    clear hC9
    go_wp2_with fail
    refine HC9.out.mono ?_
    rintro e w9 ⟨rfl, b9⟩
    have HB9 := Lib.hid (HB8.out.trans (b9.mono HB8.out.size))
    have Kl_9 := Lib.hid (KwC.below Kl_8.out b9)
    have Kb_9 := Lib.hid (KwC.below Kb_8.out b9)
    have Kd_9 := Lib.hid (KwC.below Kd_8.out b9)
    clear b9
    have hC10 := wTasks_any v ts w9 Kl_9.out (by omega) HFT.out
    rw [HTL.out] at hC10
    have HC10 := Lib.hid hC10
    clear hC10
    go_wp2_with fail
    refine HC10.out.mono ?_
    rintro e w10 ⟨u1, rfl, k1, b10⟩
    have HB10 := Lib.hid (HB9.out.trans (b10.mono HB9.out.size))
    have Kl_10 := Lib.hid (KwC.below Kl_9.out b10)
    have Is_10 : Hid (KlC w10 u1 (TL)) := Lib.hid (k1)
    clear b10 k1
    have hC11 := rwTasks_any v ts w10 Kl_10.out (by omega)
    rw [HTL.out] at hC11
    have HC11 := Lib.hid hC11
    clear hC11
    go_wp2_with fail
    refine HC11.out.mono ?_
    rintro e w11 ⟨u2, rfl, k2, b11⟩
    have HB11 := Lib.hid (HB10.out.trans (b11.mono HB10.out.size))
    have Kl_11 := Lib.hid (KwC.below Kl_10.out b11)
    have Is_11 := Lib.hid (KlC.below Is_10.out b11)
    have Ir_11 : Hid (KlC w11 u2 (TL)) := Lib.hid (k2)
    clear b11 k2
    have hC12 := eqI_below _ _ TL TL w11 Is_11.out Ir_11.out
    rw [decide_eq_true rfl] at hC12
    have HC12 := Lib.hid hC12
    clear hC12
    go_wp2_with fail
    refine HC12.out.mono ?_
    rintro e w12 ⟨rfl, b12⟩
    have HB12 := Lib.hid (HB11.out.trans (b12.mono HB11.out.size))
    have Is_12 := Lib.hid (KlC.below Is_11.out b12)
    have Ir_12 := Lib.hid (KlC.below Ir_11.out b12)
    clear b12
    have hC13 := awake_any w12
    have HC13 := Lib.hid hC13
    clear hC13
    go_wp2_with fail
    refine HC13.out.mono ?_
    rintro e w13 ⟨rfl, b13⟩
    have HB13 := Lib.hid (HB12.out.trans (b13.mono HB12.out.size))
    clear b13
    go_wp2
    go_ret
    exact ⟨rfl, HB13.out⟩

end Go.Proofs.Ytonjempbphnimaa
