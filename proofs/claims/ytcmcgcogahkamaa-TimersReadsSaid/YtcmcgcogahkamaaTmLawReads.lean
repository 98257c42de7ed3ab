/-
  The walk of TimersReads.
-/
import Derived.Test.YtcmcgcogahkamaaTmRefAdd
import Derived.Test.YtcmcgcogahkamaaTmOpen
namespace Go.Proofs.Ytcmcgcogahkamaa
open Go.RowKit Go.Shelf

set_option maxRecDepth 100000 in
set_option maxHeartbeats 4000000 in
theorem timersReads_walk (v : Value) (ts : List Tm) (k i now : Int) (w : World) (hK : KtC w v ts) :
    Calls Try.prog 4 #[v, .int .i64 k, .int .i64 i, .int .i64 now] w fun e w' => e = .returned (.bool true) ∧ Below w.heap.size w w' := by
  have HB0 : Hid (Below w.heap.size w w) := Lib.hid (Below.refl _ w)
  have K1 := Lib.hid hK
  have hG := great_at v ts w hK
  clear hK
  by_cases hg : 40 < ts.length
  · rw [decide_eq_true hg] at hG
    have HG := Lib.hid hG
    clear hG hg
    go_enter Try.func4, Try.ntmps4
    go_wp2_with fail
    refine HG.out.mono ?_
    rintro e wg ⟨rfl, rfl⟩
    have hC1 := awake_any w
    have HC1 := Lib.hid hC1
    clear hC1
    go_wp2_with fail
    refine HC1.out.mono ?_
    rintro e w1 ⟨rfl, b1⟩
    have HB1 := Lib.hid (HB0.out.trans (b1.mono HB0.out.size))
    clear b1
    go_wp2
    go_ret
    exact ⟨rfl, HB1.out⟩
  · rw [decide_eq_false hg] at hG
    have HG := Lib.hid hG
    have hl : ts.length ≤ 40 := by omega
    clear hG hg
    go_enter Try.func4, Try.ntmps4
    go_wp2_with fail
    refine HG.out.mono ?_
    rintro e wg ⟨rfl, rfl⟩
    obtain ⟨FT, hFT⟩ : ∃ x, fndT ts k i = x := ⟨_, rfl⟩
    have HFT := Lib.hid hFT
    clear hFT
    obtain ⟨FB, hFB⟩ : ∃ x, fndB ts k i = x := ⟨_, rfl⟩
    have HFB := Lib.hid hFB
    clear hFB
    obtain ⟨NT, hNT⟩ : ∃ x, nxtT ts = x := ⟨_, rfl⟩
    have HNT := Lib.hid hNT
    clear hNT
    obtain ⟨NB, hNB⟩ : ∃ x, nxtB ts = x := ⟨_, rfl⟩
    have HNB := Lib.hid hNB
    clear hNB
    obtain ⟨DL, hDL⟩ : ∃ x, dueL ts now = x := ⟨_, rfl⟩
    have HDL := Lib.hid hDL
    clear hDL
    obtain ⟨RL, hRL⟩ : ∃ x, rstL ts now = x := ⟨_, rfl⟩
    have HRL := Lib.hid hRL
    clear hRL
    obtain ⟨RM, hRM⟩ : ∃ x, rmvL ts k i = x := ⟨_, rfl⟩
    have HRM := Lib.hid hRM
    clear hRM
    have hC1 := tFind_any v ts k i w K1.out (by omega)
    rw [HFT.out, HFB.out] at hC1
    have HC1 := Lib.hid hC1
    clear hC1
    go_wp2_with fail
    refine HC1.out.mono ?_
    rintro e w1 ⟨rfl, b1⟩
    have HB1 := Lib.hid (HB0.out.trans (b1.mono HB0.out.size))
    have Kl_1 := Lib.hid (KtC.below K1.out b1)
    clear b1
    have hC2 := rFind_any v ts k i w1 Kl_1.out (by omega)
    rw [HFT.out, HFB.out] at hC2
    have HC2 := Lib.hid hC2
    clear hC2
    go_wp2_with fail
    refine HC2.out.mono ?_
    rintro e w2 ⟨rfl, b2⟩
    have HB2 := Lib.hid (HB1.out.trans (b2.mono HB1.out.size))
    have Kl_2 := Lib.hid (KtC.below Kl_1.out b2)
    clear b2
    have hC3 := tNext_any v ts w2 Kl_2.out (by omega)
    rw [HNT.out, HNB.out] at hC3
    have HC3 := Lib.hid hC3
    clear hC3
    go_wp2_with fail
    refine HC3.out.mono ?_
    rintro e w3 ⟨rfl, b3⟩
    have HB3 := Lib.hid (HB2.out.trans (b3.mono HB2.out.size))
    have Kl_3 := Lib.hid (KtC.below Kl_2.out b3)
    clear b3
    have hC4 := rNext_any v ts w3 Kl_3.out (by omega)
    rw [HNT.out, HNB.out] at hC4
    have HC4 := Lib.hid hC4
    clear hC4
    go_wp2_with fail
    refine HC4.out.mono ?_
    rintro e w4 ⟨rfl, b4⟩
    have HB4 := Lib.hid (HB3.out.trans (b4.mono HB3.out.size))
    have Kl_4 := Lib.hid (KtC.below Kl_3.out b4)
    clear b4
    have hC5 := tExpire_any v ts now w4 Kl_4.out (by omega)
    rw [HDL.out, HRL.out] at hC5
    have HC5 := Lib.hid hC5
    clear hC5
    go_wp2_with fail
    refine HC5.out.mono ?_
    rintro e w5 ⟨u1, v1, rfl, f1, g1, b5⟩
    have HB5 := Lib.hid (HB4.out.trans (b5.mono HB4.out.size))
    have Kl_5 := Lib.hid (KtC.below Kl_4.out b5)
    have Kd1_5 : Hid (KtC w5 u1 (DL)) := Lib.hid (FtC.known f1)
    have Kr1_5 : Hid (KtC w5 v1 (RL)) := Lib.hid (FtC.known g1)
    clear b5 f1 g1
    have hC6 := rExpire_any v ts now w5 Kl_5.out (by omega)
    rw [HDL.out, HRL.out] at hC6
    have HC6 := Lib.hid hC6
    clear hC6
    go_wp2_with fail
    refine HC6.out.mono ?_
    rintro e w6 ⟨u2, v2, rfl, f2, g2, b6⟩
    have HB6 := Lib.hid (HB5.out.trans (b6.mono HB5.out.size))
    have Kl_6 := Lib.hid (KtC.below Kl_5.out b6)
    have Kd1_6 := Lib.hid (KtC.below Kd1_5.out b6)
    have Kr1_6 := Lib.hid (KtC.below Kr1_5.out b6)
    have Kd2_6 : Hid (KtC w6 u2 (DL)) := Lib.hid (FtC.known f2)
    have Kr2_6 : Hid (KtC w6 v2 (RL)) := Lib.hid (FtC.known g2)
    clear b6 f2 g2
    have hC7 := same_at _ _ _ _ w6 Kd1_6.out Kd2_6.out
    rw [decide_eq_true rfl] at hC7
    have HC7 := Lib.hid hC7
    clear hC7
    go_wp2_with fail
    refine HC7.out.mono ?_
    rintro e w7 ⟨rfl, b7⟩
    have HB7 := Lib.hid (HB6.out.trans (b7.mono HB6.out.size))
    have Kl_7 := Lib.hid (KtC.below Kl_6.out b7)
    have Kd1_7 := Lib.hid (KtC.below Kd1_6.out b7)
    have Kr1_7 := Lib.hid (KtC.below Kr1_6.out b7)
    have Kd2_7 := Lib.hid (KtC.below Kd2_6.out b7)
    have Kr2_7 := Lib.hid (KtC.below Kr2_6.out b7)
    clear b7
    have hC8 := same_at _ _ _ _ w7 Kr1_7.out Kr2_7.out
    rw [decide_eq_true rfl] at hC8
    have HC8 := Lib.hid hC8
    clear hC8
    go_wp2_with fail
    refine HC8.out.mono ?_
    rintro e w8 ⟨rfl, b8⟩
    have HB8 := Lib.hid (HB7.out.trans (b8.mono HB7.out.size))
    have Kl_8 := Lib.hid (KtC.below Kl_7.out b8)
    have Kr1_8 := Lib.hid (KtC.below Kr1_7.out b8)
    have Kr2_8 := Lib.hid (KtC.below Kr2_7.out b8)
    clear b8
    have hC9 := tRemove_any v ts k i w8 Kl_8.out (by omega)
    rw [HRM.out] at hC9
    have HC9 := Lib.hid hC9
    clear hC9
    go_wp2_with fail
    refine HC9.out.mono ?_
    rintro e w9 ⟨v3, rfl, f3, b9⟩
    have HB9 := Lib.hid (HB8.out.trans (b9.mono HB8.out.size))
    have Kl_9 := Lib.hid (KtC.below Kl_8.out b9)
    have Km1_9 : Hid (KtC w9 v3 (RM)) := Lib.hid (FtC.known f3)
    clear b9 f3
    have hC10 := rRemove_any v ts k i w9 Kl_9.out (by omega)
    rw [HRM.out] at hC10
    have HC10 := Lib.hid hC10
    clear hC10
    go_wp2_with fail
    refine HC10.out.mono ?_
    rintro e w10 ⟨v4, rfl, f4, b10⟩
    have HB10 := Lib.hid (HB9.out.trans (b10.mono HB9.out.size))
    have Kl_10 := Lib.hid (KtC.below Kl_9.out b10)
    have Km1_10 := Lib.hid (KtC.below Km1_9.out b10)
    have Km2_10 : Hid (KtC w10 v4 (RM)) := Lib.hid (FtC.known f4)
    clear b10 f4
    have hC11 := same_at _ _ _ _ w10 Km1_10.out Km2_10.out
    rw [decide_eq_true rfl] at hC11
    have HC11 := Lib.hid hC11
    clear hC11
    go_wp2_with fail
    refine HC11.out.mono ?_
    rintro e w11 ⟨rfl, b11⟩
    have HB11 := Lib.hid (HB10.out.trans (b11.mono HB10.out.size))
    have Kl_11 := Lib.hid (KtC.below Kl_10.out b11)
    have Km1_11 := Lib.hid (KtC.below Km1_10.out b11)
    have Km2_11 := Lib.hid (KtC.below Km2_10.out b11)
    clear b11
    have hC12 := awake_any w11
    have HC12 := Lib.hid hC12
    clear hC12
    go_wp2_with fail
    refine HC12.out.mono ?_
    rintro e w12 ⟨rfl, b12⟩
    have HB12 := Lib.hid (HB11.out.trans (b12.mono HB11.out.size))
    clear b12
    go_wp2
    go_ret
    exact ⟨rfl, HB12.out⟩

end Go.Proofs.Ytcmcgcogahkamaa
