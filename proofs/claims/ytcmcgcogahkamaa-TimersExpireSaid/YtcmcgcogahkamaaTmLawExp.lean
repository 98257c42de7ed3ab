/-
  The walk of TimersExpire.
-/
import Derived.Test.YtcmcgcogahkamaaTmPred
import Derived.Test.YtcmcgcogahkamaaTmOpen
import Derived.Test.YtcmcgcogahkamaaTmMath
namespace Go.Proofs.Ytcmcgcogahkamaa
open Go.RowKit Go.Shelf

set_option maxRecDepth 100000 in
set_option maxHeartbeats 4000000 in
theorem timersExpire_walk (v : Value) (ts : List Tm) (now later : Int) (w : World) (hK : KtC w v ts) :
    Calls Try.prog 8 #[v, .int .i64 now, .int .i64 later] w fun e w' => e = .returned (.bool true) ∧ Below w.heap.size w w' := by
  obtain ⟨w0, hw0⟩ : ∃ W, w.alloc (.cells #[.int .i64 now] 3) = W := ⟨_, rfl⟩
  have hb0 : Below w.heap.size w w0 := by rw [← hw0]; exact (Below.refl _ w).alloc (Nat.le_refl _) _
  have hx0 : w0.cell? ⟨w.heap.size, 0, none⟩ = some (.int .i64 now) := by rw [← hw0]; exact box1 w _ _
  have HB0 := Lib.hid hb0
  have Y0 := Lib.hid hx0
  have K1 := Lib.hid (KtC.below hK hb0)
  have HW0 := Lib.hid hw0
  have hG := great_at v ts w0 K1.out
  clear hK hb0 hx0 hw0
  by_cases hg : 40 < ts.length
  · rw [decide_eq_true hg] at hG
    have HG := Lib.hid hG
    clear hG hg
    go_enter Try.func8, Try.ntmps8
    go_wp2_with fail
    rw [HW0.out]
    refine HG.out.mono ?_
    rintro e wg ⟨rfl, rfl⟩
    have hC1 := awake_any w0
    have HC1 := Lib.hid hC1
    clear hC1
    have yn0 := Y0.out
    go_wp2_with fail
    refine HC1.out.mono ?_
    rintro e w1 ⟨rfl, b1⟩
    clear yn0
    have HB1 := Lib.hid (HB0.out.trans (b1.mono HB0.out.size))
    have Yn_1 := Lib.hid (cell_later b1 Y0.out)
    clear b1
    go_wp2
    go_ret
    exact ⟨rfl, HB1.out⟩
  · rw [decide_eq_false hg] at hG
    have HG := Lib.hid hG
    have hl : ts.length ≤ 40 := by omega
    clear hG hg
    by_cases hc : chkE ts = 0
    · have HC := Lib.hid hc
      by_cases hnl : later < now
      · clear hc
        go_enter Try.func8, Try.ntmps8
        go_wp2_with fail
        rw [HW0.out]
        refine HG.out.mono ?_
        rintro e wg ⟨rfl, rfl⟩
        have hC1 := tCheck_at v ts w0 K1.out (by omega)
        rw [HC.out] at hC1
        have HC1 := Lib.hid hC1
        clear hC1
        have yn0 := Y0.out
        go_wp2_with fail
        refine HC1.out.mono ?_
        rintro e w1 ⟨rfl, b1⟩
        clear yn0
        have HB1 := Lib.hid (HB0.out.trans (b1.mono HB0.out.size))
        have Kl_1 := Lib.hid (KtC.below K1.out b1)
        have Yn_1 := Lib.hid (cell_later b1 Y0.out)
        clear b1
        have hC2 := awake_any w1
        have HC2 := Lib.hid hC2
        clear hC2
        have yn0 := Yn_1.out
        go_wp2_with fail
        refine HC2.out.mono ?_
        rintro e w2 ⟨rfl, b2⟩
        clear yn0
        have HB2 := Lib.hid (HB1.out.trans (b2.mono HB1.out.size))
        have Yn_2 := Lib.hid (cell_later b2 Yn_1.out)
        clear b2
        go_wp2
        go_ret
        exact ⟨rfl, HB2.out⟩
      · have hnl' : now ≤ later := by omega
        obtain ⟨e1, e2⟩ := exp_due hc hnl'
        have e3 := exp_all (now := now) hc
        have e4 := exp_late (now := now) hc
        obtain ⟨e5, e6⟩ := exp_next (now := now) hc
        have e7 : (dueL ts now).length ≤ 40 := by have := congrArg List.length e3; rw [List.length_append] at this; omega
        have e8 : (rstL ts now).length ≤ 40 := by have := congrArg List.length e3; rw [List.length_append] at this; omega
        have e9 : (dueL (rstL ts now) later).length ≤ 40 := by
          have : (dueL (rstL ts now) later).length ≤ (rstL ts now).length := by
            unfold dueL
            split
            · rw [List.length_take]; exact Nat.min_le_right _ _
            · simp
          omega
        clear hc
        obtain ⟨D, hD⟩ : ∃ x, dueL ts now = x := ⟨_, rfl⟩
        (try rw [hD] at e1); (try rw [hD] at e2); (try rw [hD] at e3); (try rw [hD] at e4); (try rw [hD] at e5); (try rw [hD] at e6); (try rw [hD] at e7); (try rw [hD] at e8); (try rw [hD] at e9)
        have HD := Lib.hid hD
        clear hD
        obtain ⟨R, hR⟩ : ∃ x, rstL ts now = x := ⟨_, rfl⟩
        (try rw [hR] at e1); (try rw [hR] at e2); (try rw [hR] at e3); (try rw [hR] at e4); (try rw [hR] at e5); (try rw [hR] at e6); (try rw [hR] at e7); (try rw [hR] at e8); (try rw [hR] at e9)
        have HR := Lib.hid hR
        clear hR
        obtain ⟨M, hM⟩ : ∃ x, dueL R later = x := ⟨_, rfl⟩
        (try rw [hM] at e1); (try rw [hM] at e2); (try rw [hM] at e3); (try rw [hM] at e4); (try rw [hM] at e5); (try rw [hM] at e6); (try rw [hM] at e7); (try rw [hM] at e8); (try rw [hM] at e9)
        have HM := Lib.hid hM
        clear hM
        obtain ⟨LF, hLF⟩ : ∃ x, rstL R later = x := ⟨_, rfl⟩
        (try rw [hLF] at e1); (try rw [hLF] at e2); (try rw [hLF] at e3); (try rw [hLF] at e4); (try rw [hLF] at e5); (try rw [hLF] at e6); (try rw [hLF] at e7); (try rw [hLF] at e8); (try rw [hLF] at e9)
        have HLF := Lib.hid hLF
        clear hLF
        obtain ⟨AL, hAL⟩ : ∃ x, dueL ts later = x := ⟨_, rfl⟩
        (try rw [hAL] at e1); (try rw [hAL] at e2); (try rw [hAL] at e3); (try rw [hAL] at e4); (try rw [hAL] at e5); (try rw [hAL] at e6); (try rw [hAL] at e7); (try rw [hAL] at e8); (try rw [hAL] at e9)
        have HAL := Lib.hid hAL
        clear hAL
        obtain ⟨EN, hEN⟩ : ∃ x, rstL ts later = x := ⟨_, rfl⟩
        (try rw [hEN] at e1); (try rw [hEN] at e2); (try rw [hEN] at e3); (try rw [hEN] at e4); (try rw [hEN] at e5); (try rw [hEN] at e6); (try rw [hEN] at e7); (try rw [hEN] at e8); (try rw [hEN] at e9)
        have HEN := Lib.hid hEN
        clear hEN
        obtain ⟨NT, hNT⟩ : ∃ x, nxtT R = x := ⟨_, rfl⟩
        (try rw [hNT] at e1); (try rw [hNT] at e2); (try rw [hNT] at e3); (try rw [hNT] at e4); (try rw [hNT] at e5); (try rw [hNT] at e6); (try rw [hNT] at e7); (try rw [hNT] at e8); (try rw [hNT] at e9)
        have HNT := Lib.hid hNT
        clear hNT
        obtain ⟨NB, hNB⟩ : ∃ x, nxtB R = x := ⟨_, rfl⟩
        (try rw [hNB] at e1); (try rw [hNB] at e2); (try rw [hNB] at e3); (try rw [hNB] at e4); (try rw [hNB] at e5); (try rw [hNB] at e6); (try rw [hNB] at e7); (try rw [hNB] at e8); (try rw [hNB] at e9)
        have HNB := Lib.hid hNB
        clear hNB
        subst e2
        have E1 := Lib.hid e1
        have E3 := Lib.hid e3
        have E4 := Lib.hid e4
        have E5 := Lib.hid e5
        have E6 := Lib.hid e6
        have E7 := Lib.hid e7
        have E8 := Lib.hid e8
        have E9 := Lib.hid e9
        clear e1 e3 e4 e5 e6 e7 e8 e9
        go_enter Try.func8, Try.ntmps8
        go_wp2_with fail
        rw [HW0.out]
        refine HG.out.mono ?_
        rintro e wg ⟨rfl, rfl⟩
        have hC1 := tCheck_at v ts w0 K1.out (by omega)
        rw [HC.out] at hC1
        have HC1 := Lib.hid hC1
        clear hC1
        have yn0 := Y0.out
        go_wp2_with fail
        refine HC1.out.mono ?_
        rintro e w1 ⟨rfl, b1⟩
        clear yn0
        have HB1 := Lib.hid (HB0.out.trans (b1.mono HB0.out.size))
        have Kl_1 := Lib.hid (KtC.below K1.out b1)
        have Yn_1 := Lib.hid (cell_later b1 Y0.out)
        clear b1
        have hC2 := tExpire_any v ts now w1 Kl_1.out (by omega)
        rw [HD.out, HR.out] at hC2
        have HC2 := Lib.hid hC2
        clear hC2
        have yn0 := Yn_1.out
        go_wp2_with fail
        refine HC2.out.mono ?_
        rintro e w2 ⟨u1, v1, rfl, f1, g1, b2⟩
        clear yn0
        have HB2 := Lib.hid (HB1.out.trans (b2.mono HB1.out.size))
        have Kl_2 := Lib.hid (KtC.below Kl_1.out b2)
        have Yn_2 := Lib.hid (cell_later b2 Yn_1.out)
        have Kd_2 : Hid (KtC w2 u1 (D)) := Lib.hid (FtC.known f1)
        have Kr_2 : Hid (KtC w2 v1 (R)) := Lib.hid (FtC.known g1)
        clear b2 f1 g1
        obtain ⟨ad, cd, rfl, hcd, hdd, hAd⟩ := Kd_2.out
        have HAd := Lib.hid hAd
        clear hAd
        obtain ⟨ar, cr, rfl, hcr, hdr, hAr⟩ := Kr_2.out
        have HAr := Lib.hid hAr
        clear hAr
        obtain ⟨W3, hW3⟩ : ∃ W, w2.alloc (.cells #[.slice ad D.length cd, .slice ar R.length cr] 22) = W := ⟨_, rfl⟩
        have bw3 : Below w2.heap.size w2 W3 := by rw [← hW3]; exact (Below.refl _ _).alloc (Nat.le_refl _) _
        have p3 : W3.cell? ⟨w2.heap.size, 0, none⟩ = some (.slice ad D.length cd) ∧ W3.cell? ⟨w2.heap.size, 1, none⟩ = some (.slice ar R.length cr) := by rw [← hW3]; exact box2 w2 _ _ _
        have HW3 := Lib.hid hW3
        clear hW3
        have HB3 := Lib.hid (HB2.out.trans (bw3.mono HB2.out.size))
        have Kl_3 := Lib.hid (KtC.below Kl_2.out bw3)
        have Kd_3 := Lib.hid (KtC.below Kd_2.out bw3)
        have Kr_3 := Lib.hid (KtC.below Kr_2.out bw3)
        have Yn_3 := Lib.hid (cell_later bw3 Yn_2.out)
        have hC4 := tConcat_any w2.heap.size _ _ D R W3 p3.1 p3.2 Kd_3.out Kr_3.out (by have := E7.out; omega) (by have := E8.out; omega)
        have HC4 := Lib.hid hC4
        clear hC4
        have yn0 := Yn_3.out
        go_wp2_with fail
        rw [HW3.out]
        refine HC4.out.mono ?_
        rintro e w4 ⟨v2, rfl, f2, b4⟩
        clear yn0
        have HB4 := Lib.hid (HB3.out.trans (b4.mono HB3.out.size))
        have Kl_4 := Lib.hid (KtC.below Kl_3.out b4)
        have Kd_4 := Lib.hid (KtC.below Kd_3.out b4)
        have Kr_4 := Lib.hid (KtC.below Kr_3.out b4)
        have Yn_4 := Lib.hid (cell_later b4 Yn_3.out)
        have Kx_4 : Hid (KtC w4 v2 (ts)) := Lib.hid (by rw [← E3.out]; exact FtC.known f2)
        clear b4 f2 p3 bw3
        have hC5 := same_at _ _ _ _ w4 Kx_4.out Kl_4.out
        rw [decide_eq_true rfl] at hC5
        have HC5 := Lib.hid hC5
        clear hC5
        have yn0 := Yn_4.out
        go_wp2_with fail
        refine HC5.out.mono ?_
        rintro e w5 ⟨rfl, b5⟩
        clear yn0
        have HB5 := Lib.hid (HB4.out.trans (b5.mono HB4.out.size))
        have Kl_5 := Lib.hid (KtC.below Kl_4.out b5)
        have Kd_5 := Lib.hid (KtC.below Kd_4.out b5)
        have Kr_5 := Lib.hid (KtC.below Kr_4.out b5)
        have Kx_5 := Lib.hid (KtC.below Kx_4.out b5)
        have Yn_5 := Lib.hid (cell_later b5 Yn_4.out)
        clear b5
        obtain ⟨aq, cq, hq, -, -, hAq⟩ := Kd_5.out
        cases hq
        have hC6 := tContainsF_any _ 34 #[] #[.pointer (some ⟨w.heap.size, 0, none⟩)] ad cd D _ w5 (enters_of Try.func34 (by kernel_rfl) rfl) hAq (by have := E7.out; omega) (exp1_pred w.heap.size now w5 Yn_5.out)
        rw [E4.out] at hC6
        have HC6 := Lib.hid hC6
        clear hC6
        have yn0 := Yn_5.out
        go_wp2_with fail
        refine HC6.out.mono ?_
        rintro e w6 ⟨rfl, b6⟩
        clear yn0
        have HB6 := Lib.hid (HB5.out.trans (b6.mono HB5.out.size))
        have Kl_6 := Lib.hid (KtC.below Kl_5.out b6)
        have Kd_6 := Lib.hid (KtC.below Kd_5.out b6)
        have Kr_6 := Lib.hid (KtC.below Kr_5.out b6)
        have Yn_6 := Lib.hid (cell_later b6 Yn_5.out)
        clear b6 hAq
        have hC7 := tNext_any _ R w6 Kr_6.out (by have := E8.out; omega)
        rw [HNT.out, HNB.out, E5.out] at hC7
        have HC7 := Lib.hid hC7
        clear hC7
        have yn0 := Yn_6.out
        go_wp2_with fail
        refine HC7.out.mono ?_
        rintro e w7 ⟨rfl, b7⟩
        clear yn0
        have HB7 := Lib.hid (HB6.out.trans (b7.mono HB6.out.size))
        have Kl_7 := Lib.hid (KtC.below Kl_6.out b7)
        have Kd_7 := Lib.hid (KtC.below Kd_6.out b7)
        have Kr_7 := Lib.hid (KtC.below Kr_6.out b7)
        have Yn_7 := Lib.hid (cell_later b7 Yn_6.out)
        clear b7
        by_cases hR : 0 < R.length
        · have hR0 : (0 : Int) < (R.length : Int) := by omega
          have hRb : decide (0 < R.length) = true := decide_eq_true hR
          have hNT := E6.out hR
          have hNT' : ¬ (NT ≤ now) := by omega
          have hC8 := tExpire_any _ R later w7 Kr_7.out (by have := E8.out; omega)
          rw [HM.out, HLF.out] at hC8
          have HC8 := Lib.hid hC8
          clear hC8
          have yn0 := Yn_7.out
          go_wp2_with fail
          refine HC8.out.mono ?_
          rintro e w8 ⟨u3, v3, rfl, f3, g3, b8⟩
          clear yn0
          have HB8 := Lib.hid (HB7.out.trans (b8.mono HB7.out.size))
          have Kl_8 := Lib.hid (KtC.below Kl_7.out b8)
          have Kd_8 := Lib.hid (KtC.below Kd_7.out b8)
          have Kr_8 := Lib.hid (KtC.below Kr_7.out b8)
          have Yn_8 := Lib.hid (cell_later b8 Yn_7.out)
          have Km_8 : Hid (KtC w8 u3 (M)) := Lib.hid (FtC.known f3)
          have Kf_8 : Hid (KtC w8 v3 (LF)) := Lib.hid (FtC.known g3)
          clear b8 f3 g3
          have hC9 := tExpire_any v ts later w8 Kl_8.out (by omega)
          rw [HAL.out, HEN.out] at hC9
          have HC9 := Lib.hid hC9
          clear hC9
          have yn0 := Yn_8.out
          go_wp2_with fail
          refine HC9.out.mono ?_
          rintro e w9 ⟨u4, v4, rfl, f4, g4, b9⟩
          clear yn0
          have HB9 := Lib.hid (HB8.out.trans (b9.mono HB8.out.size))
          have Kl_9 := Lib.hid (KtC.below Kl_8.out b9)
          have Kd_9 := Lib.hid (KtC.below Kd_8.out b9)
          have Kr_9 := Lib.hid (KtC.below Kr_8.out b9)
          have Km_9 := Lib.hid (KtC.below Km_8.out b9)
          have Kf_9 := Lib.hid (KtC.below Kf_8.out b9)
          have Yn_9 := Lib.hid (cell_later b9 Yn_8.out)
          have Ka_9 : Hid (KtC w9 u4 (AL)) := Lib.hid (FtC.known f4)
          have Ke_9 : Hid (KtC w9 v4 (LF)) := Lib.hid (FtC.known g4)
          clear b9 f4 g4
          obtain ⟨am, cm, rfl, hcm, hdm, -⟩ := Km_9.out
          obtain ⟨W10, hW10⟩ : ∃ W, w9.alloc (.cells #[.slice ad D.length cd, .slice am M.length cm] 22) = W := ⟨_, rfl⟩
          have bw10 : Below w9.heap.size w9 W10 := by rw [← hW10]; exact (Below.refl _ _).alloc (Nat.le_refl _) _
          have p10 : W10.cell? ⟨w9.heap.size, 0, none⟩ = some (.slice ad D.length cd) ∧ W10.cell? ⟨w9.heap.size, 1, none⟩ = some (.slice am M.length cm) := by rw [← hW10]; exact box2 w9 _ _ _
          have HW10 := Lib.hid hW10
          clear hW10
          have HB10 := Lib.hid (HB9.out.trans (bw10.mono HB9.out.size))
          have Kl_10 := Lib.hid (KtC.below Kl_9.out bw10)
          have Kd_10 := Lib.hid (KtC.below Kd_9.out bw10)
          have Kr_10 := Lib.hid (KtC.below Kr_9.out bw10)
          have Km_10 := Lib.hid (KtC.below Km_9.out bw10)
          have Kf_10 := Lib.hid (KtC.below Kf_9.out bw10)
          have Ka_10 := Lib.hid (KtC.below Ka_9.out bw10)
          have Ke_10 := Lib.hid (KtC.below Ke_9.out bw10)
          have Yn_10 := Lib.hid (cell_later bw10 Yn_9.out)
          have hC11 := tConcat_any w9.heap.size _ _ D M W10 p10.1 p10.2 Kd_10.out Km_10.out (by have := E7.out; omega) (by have := E9.out; omega)
          have HC11 := Lib.hid hC11
          clear hC11
          have yn0 := Yn_10.out
          go_wp2_with fail
          rw [HW10.out]
          refine HC11.out.mono ?_
          rintro e w11 ⟨v5, rfl, f5, b11⟩
          clear yn0
          have HB11 := Lib.hid (HB10.out.trans (b11.mono HB10.out.size))
          have Kl_11 := Lib.hid (KtC.below Kl_10.out b11)
          have Kd_11 := Lib.hid (KtC.below Kd_10.out b11)
          have Kr_11 := Lib.hid (KtC.below Kr_10.out b11)
          have Km_11 := Lib.hid (KtC.below Km_10.out b11)
          have Kf_11 := Lib.hid (KtC.below Kf_10.out b11)
          have Ka_11 := Lib.hid (KtC.below Ka_10.out b11)
          have Ke_11 := Lib.hid (KtC.below Ke_10.out b11)
          have Yn_11 := Lib.hid (cell_later b11 Yn_10.out)
          have Kx_11 : Hid (KtC w11 v5 (AL)) := Lib.hid (by rw [← E1.out]; exact FtC.known f5)
          clear b11 f5 p10 bw10
          have hC12 := same_at _ _ _ _ w11 Kx_11.out Ka_11.out
          rw [decide_eq_true rfl] at hC12
          have HC12 := Lib.hid hC12
          clear hC12
          have yn0 := Yn_11.out
          go_wp2_with fail
          refine HC12.out.mono ?_
          rintro e w12 ⟨rfl, b12⟩
          clear yn0
          have HB12 := Lib.hid (HB11.out.trans (b12.mono HB11.out.size))
          have Kl_12 := Lib.hid (KtC.below Kl_11.out b12)
          have Kd_12 := Lib.hid (KtC.below Kd_11.out b12)
          have Kr_12 := Lib.hid (KtC.below Kr_11.out b12)
          have Km_12 := Lib.hid (KtC.below Km_11.out b12)
          have Kf_12 := Lib.hid (KtC.below Kf_11.out b12)
          have Ka_12 := Lib.hid (KtC.below Ka_11.out b12)
          have Ke_12 := Lib.hid (KtC.below Ke_11.out b12)
          have Kx_12 := Lib.hid (KtC.below Kx_11.out b12)
          have Yn_12 := Lib.hid (cell_later b12 Yn_11.out)
          clear b12
          have hC13 := same_at _ _ _ _ w12 Kf_12.out Ke_12.out
          rw [decide_eq_true rfl] at hC13
          have HC13 := Lib.hid hC13
          clear hC13
          have yn0 := Yn_12.out
          go_wp2_with fail
          refine HC13.out.mono ?_
          rintro e w13 ⟨rfl, b13⟩
          clear yn0
          have HB13 := Lib.hid (HB12.out.trans (b13.mono HB12.out.size))
          have Kl_13 := Lib.hid (KtC.below Kl_12.out b13)
          have Kd_13 := Lib.hid (KtC.below Kd_12.out b13)
          have Kr_13 := Lib.hid (KtC.below Kr_12.out b13)
          have Km_13 := Lib.hid (KtC.below Km_12.out b13)
          have Kf_13 := Lib.hid (KtC.below Kf_12.out b13)
          have Ka_13 := Lib.hid (KtC.below Ka_12.out b13)
          have Ke_13 := Lib.hid (KtC.below Ke_12.out b13)
          have Kx_13 := Lib.hid (KtC.below Kx_12.out b13)
          have Yn_13 := Lib.hid (cell_later b13 Yn_12.out)
          clear b13
          have hC14 := awake_any w13
          have HC14 := Lib.hid hC14
          clear hC14
          go_wp2_with fail
          refine HC14.out.mono ?_
          rintro e w14 ⟨rfl, b14⟩
          have HB14 := Lib.hid (HB13.out.trans (b14.mono HB13.out.size))
          clear b14
          go_wp2
          go_ret
          exact ⟨rfl, HB14.out⟩
        · have hR0 : R = [] := List.length_eq_zero_iff.1 (by omega)
          subst hR0
          clear hR
          have hC8 := tExpire_any _ [] later w7 Kr_7.out (by have := E8.out; omega)
          rw [HM.out, HLF.out] at hC8
          have HC8 := Lib.hid hC8
          clear hC8
          have yn0 := Yn_7.out
          go_wp2_with fail
          refine HC8.out.mono ?_
          rintro e w8 ⟨u3, v3, rfl, f3, g3, b8⟩
          clear yn0
          have HB8 := Lib.hid (HB7.out.trans (b8.mono HB7.out.size))
          have Kl_8 := Lib.hid (KtC.below Kl_7.out b8)
          have Kd_8 := Lib.hid (KtC.below Kd_7.out b8)
          have Kr_8 := Lib.hid (KtC.below Kr_7.out b8)
          have Yn_8 := Lib.hid (cell_later b8 Yn_7.out)
          have Km_8 : Hid (KtC w8 u3 (M)) := Lib.hid (FtC.known f3)
          have Kf_8 : Hid (KtC w8 v3 (LF)) := Lib.hid (FtC.known g3)
          clear b8 f3 g3
          have hC9 := tExpire_any v ts later w8 Kl_8.out (by omega)
          rw [HAL.out, HEN.out] at hC9
          have HC9 := Lib.hid hC9
          clear hC9
          have yn0 := Yn_8.out
          go_wp2_with fail
          refine HC9.out.mono ?_
          rintro e w9 ⟨u4, v4, rfl, f4, g4, b9⟩
          clear yn0
          have HB9 := Lib.hid (HB8.out.trans (b9.mono HB8.out.size))
          have Kl_9 := Lib.hid (KtC.below Kl_8.out b9)
          have Kd_9 := Lib.hid (KtC.below Kd_8.out b9)
          have Kr_9 := Lib.hid (KtC.below Kr_8.out b9)
          have Km_9 := Lib.hid (KtC.below Km_8.out b9)
          have Kf_9 := Lib.hid (KtC.below Kf_8.out b9)
          have Yn_9 := Lib.hid (cell_later b9 Yn_8.out)
          have Ka_9 : Hid (KtC w9 u4 (AL)) := Lib.hid (FtC.known f4)
          have Ke_9 : Hid (KtC w9 v4 (LF)) := Lib.hid (FtC.known g4)
          clear b9 f4 g4
          obtain ⟨am, cm, rfl, hcm, hdm, -⟩ := Km_9.out
          obtain ⟨W10, hW10⟩ : ∃ W, w9.alloc (.cells #[.slice ad D.length cd, .slice am M.length cm] 22) = W := ⟨_, rfl⟩
          have bw10 : Below w9.heap.size w9 W10 := by rw [← hW10]; exact (Below.refl _ _).alloc (Nat.le_refl _) _
          have p10 : W10.cell? ⟨w9.heap.size, 0, none⟩ = some (.slice ad D.length cd) ∧ W10.cell? ⟨w9.heap.size, 1, none⟩ = some (.slice am M.length cm) := by rw [← hW10]; exact box2 w9 _ _ _
          have HW10 := Lib.hid hW10
          clear hW10
          have HB10 := Lib.hid (HB9.out.trans (bw10.mono HB9.out.size))
          have Kl_10 := Lib.hid (KtC.below Kl_9.out bw10)
          have Kd_10 := Lib.hid (KtC.below Kd_9.out bw10)
          have Kr_10 := Lib.hid (KtC.below Kr_9.out bw10)
          have Km_10 := Lib.hid (KtC.below Km_9.out bw10)
          have Kf_10 := Lib.hid (KtC.below Kf_9.out bw10)
          have Ka_10 := Lib.hid (KtC.below Ka_9.out bw10)
          have Ke_10 := Lib.hid (KtC.below Ke_9.out bw10)
          have Yn_10 := Lib.hid (cell_later bw10 Yn_9.out)
          have hC11 := tConcat_any w9.heap.size _ _ D M W10 p10.1 p10.2 Kd_10.out Km_10.out (by have := E7.out; omega) (by have := E9.out; omega)
          have HC11 := Lib.hid hC11
          clear hC11
          have yn0 := Yn_10.out
          go_wp2_with fail
          rw [HW10.out]
          refine HC11.out.mono ?_
          rintro e w11 ⟨v5, rfl, f5, b11⟩
          clear yn0
          have HB11 := Lib.hid (HB10.out.trans (b11.mono HB10.out.size))
          have Kl_11 := Lib.hid (KtC.below Kl_10.out b11)
          have Kd_11 := Lib.hid (KtC.below Kd_10.out b11)
          have Kr_11 := Lib.hid (KtC.below Kr_10.out b11)
          have Km_11 := Lib.hid (KtC.below Km_10.out b11)
          have Kf_11 := Lib.hid (KtC.below Kf_10.out b11)
          have Ka_11 := Lib.hid (KtC.below Ka_10.out b11)
          have Ke_11 := Lib.hid (KtC.below Ke_10.out b11)
          have Yn_11 := Lib.hid (cell_later b11 Yn_10.out)
          have Kx_11 : Hid (KtC w11 v5 (AL)) := Lib.hid (by rw [← E1.out]; exact FtC.known f5)
          clear b11 f5 p10 bw10
          have hC12 := same_at _ _ _ _ w11 Kx_11.out Ka_11.out
          rw [decide_eq_true rfl] at hC12
          have HC12 := Lib.hid hC12
          clear hC12
          have yn0 := Yn_11.out
          go_wp2_with fail
          refine HC12.out.mono ?_
          rintro e w12 ⟨rfl, b12⟩
          clear yn0
          have HB12 := Lib.hid (HB11.out.trans (b12.mono HB11.out.size))
          have Kl_12 := Lib.hid (KtC.below Kl_11.out b12)
          have Kd_12 := Lib.hid (KtC.below Kd_11.out b12)
          have Kr_12 := Lib.hid (KtC.below Kr_11.out b12)
          have Km_12 := Lib.hid (KtC.below Km_11.out b12)
          have Kf_12 := Lib.hid (KtC.below Kf_11.out b12)
          have Ka_12 := Lib.hid (KtC.below Ka_11.out b12)
          have Ke_12 := Lib.hid (KtC.below Ke_11.out b12)
          have Kx_12 := Lib.hid (KtC.below Kx_11.out b12)
          have Yn_12 := Lib.hid (cell_later b12 Yn_11.out)
          clear b12
          have hC13 := same_at _ _ _ _ w12 Kf_12.out Ke_12.out
          rw [decide_eq_true rfl] at hC13
          have HC13 := Lib.hid hC13
          clear hC13
          have yn0 := Yn_12.out
          go_wp2_with fail
          refine HC13.out.mono ?_
          rintro e w13 ⟨rfl, b13⟩
          clear yn0
          have HB13 := Lib.hid (HB12.out.trans (b13.mono HB12.out.size))
          have Kl_13 := Lib.hid (KtC.below Kl_12.out b13)
          have Kd_13 := Lib.hid (KtC.below Kd_12.out b13)
          have Kr_13 := Lib.hid (KtC.below Kr_12.out b13)
          have Km_13 := Lib.hid (KtC.below Km_12.out b13)
          have Kf_13 := Lib.hid (KtC.below Kf_12.out b13)
          have Ka_13 := Lib.hid (KtC.below Ka_12.out b13)
          have Ke_13 := Lib.hid (KtC.below Ke_12.out b13)
          have Kx_13 := Lib.hid (KtC.below Kx_12.out b13)
          have Yn_13 := Lib.hid (cell_later b13 Yn_12.out)
          clear b13
          have hC14 := awake_any w13
          have HC14 := Lib.hid hC14
          clear hC14
          go_wp2_with fail
          refine HC14.out.mono ?_
          rintro e w14 ⟨rfl, b14⟩
          have HB14 := Lib.hid (HB13.out.trans (b14.mono HB13.out.size))
          clear b14
          go_wp2
          go_ret
          exact ⟨rfl, HB14.out⟩
    · have HC := Lib.hid hc
      go_enter Try.func8, Try.ntmps8
      go_wp2_with fail
      rw [HW0.out]
      refine HG.out.mono ?_
      rintro e wg ⟨rfl, rfl⟩
      have hC1 := tCheck_at v ts w0 K1.out (by omega)
      obtain ⟨E, hE⟩ : ∃ E, chkE ts = E := ⟨_, rfl⟩
      rw [hE] at hC1 hc
      clear hE
      have HC1 := Lib.hid hC1
      clear hC1
      go_wp2_with fail
      refine HC1.out.mono ?_
      rintro e w1 ⟨rfl, b1⟩
      have HB1 := Lib.hid (HB0.out.trans (b1.mono HB0.out.size))
      have Kl_1 := Lib.hid (KtC.below K1.out b1)
      clear b1
      have hC2 := awake_any w1
      have HC2 := Lib.hid hC2
      clear hC2
      go_wp2_with fail
      refine HC2.out.mono ?_
      rintro e w2 ⟨rfl, b2⟩
      have HB2 := Lib.hid (HB1.out.trans (b2.mono HB1.out.size))
      clear b2
      go_wp2
      go_ret
      exact ⟨rfl, HB2.out⟩

end Go.Proofs.Ytcmcgcogahkamaa
