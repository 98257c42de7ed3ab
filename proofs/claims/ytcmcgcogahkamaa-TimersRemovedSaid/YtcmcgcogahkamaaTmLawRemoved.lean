/-
  The walk of TimersRemoved.
-/
import Derived.Test.YtcmcgcogahkamaaTmRefAdd
import Derived.Test.YtcmcgcogahkamaaTmOpen
import Derived.Test.YtcmcgcogahkamaaTmMath
namespace Go.Proofs.Ytcmcgcogahkamaa
open Go.RowKit Go.Shelf

set_option maxRecDepth 100000 in
set_option maxHeartbeats 4000000 in
theorem timersRemoved_walk (v : Value) (ts : List Tm) (a b c : Int) (w : World) (hK : KtC w v ts) :
    Calls Try.prog 7 #[v, .agg #[.int .i64 a, .int .i64 b, .int .i64 c]] w fun e w' => e = .returned (.bool true) ∧ Below w.heap.size w w' := by
  obtain ⟨w0, hw0⟩ : ∃ W, w.alloc (.cells #[.int .i64 a, .int .i64 b, .int .i64 c] TT) = W := ⟨_, rfl⟩
  have hb0 : Below w.heap.size w w0 := by rw [← hw0]; exact (Below.refl _ w).alloc (Nat.le_refl _) _
  have hx0 : w0.cell? ⟨w.heap.size, 0, none⟩ = some (.int .i64 a) ∧ w0.cell? ⟨w.heap.size, 1, none⟩ = some (.int .i64 b) ∧ w0.cell? ⟨w.heap.size, 2, none⟩ = some (.int .i64 c) := by rw [← hw0]; exact box3 w a b c
  have HB0 := Lib.hid hb0
  have X0 := Lib.hid hx0
  have K1 := Lib.hid (KtC.below hK hb0)
  have HW0 := Lib.hid hw0
  have hG := great_at v ts w0 K1.out
  clear hK hb0 hx0 hw0
  by_cases hg : 40 < ts.length
  · rw [decide_eq_true hg] at hG
    have HG := Lib.hid hG
    clear hG hg
    go_enter Try.func7, Try.ntmps7
    go_wp2_with fail
    rw [HW0.out]
    refine HG.out.mono ?_
    rintro e wg ⟨rfl, rfl⟩
    have hC1 := awake_any w0
    have HC1 := Lib.hid hC1
    clear hC1
    go_wp2_with fail
    refine HC1.out.mono ?_
    rintro e w1 ⟨rfl, b1⟩
    have HB1 := Lib.hid (HB0.out.trans (b1.mono HB0.out.size))
    clear b1
    go_wp2
    go_ret
    exact ⟨rfl, HB1.out⟩
  · rw [decide_eq_false hg] at hG
    have HG := Lib.hid hG
    have hl : ts.length ≤ 40 := by omega
    clear hG hg
    by_cases he : addE ts (a, b, c) = 0
    · have hc := (add_ok he).1
      obtain ⟨Q, hQ⟩ : ∃ Q, addQ ts (a, b, c) = Q := ⟨_, rfl⟩
      obtain ⟨R, hR⟩ : ∃ R, woL ts b c = R := ⟨_, rfl⟩
      have e1 : rmvL Q b c = R := by rw [← hQ, ← hR]; exact rm_add he
      have e2 : rmvL R b c = R := by rw [← hR]; exact rm_rm hc
      have e3 : rmvL ts b c = R := by rw [← hR]; exact rmvL_of hc
      have e4 : fndB R b c = false := by rw [← hR]; exact fndB_rm hc
      have e5 : fndB ts b c = hasK ts b c := fndB_of hc
      have e6 : hasK ts b c = false → R = ts := fun h => by rw [← hR]; exact woL_none h
      have e7 : R.length ≤ 40 := by rw [← hR]; exact Nat.le_trans (List.length_filter_le _ _) hl
      have e8 : Q.length ≤ 1000 := by
        rw [← hQ, addQ_of he, (insL_perm _ _).length_eq]
        have := List.length_filter_le (fun t : Tm => !keyB t b c) ts
        have h9 : (woL ts b c).length ≤ ts.length := this
        simp only [List.length_cons]
        omega
      have HE := Lib.hid he
      have HQ := Lib.hid hQ
      obtain ⟨TF, hTF⟩ : ∃ x, fndT ts b c = x := ⟨_, rfl⟩
      obtain ⟨RF, hRF⟩ : ∃ x, fndT R b c = x := ⟨_, rfl⟩
      have HTF := Lib.hid hTF
      have HRF := Lib.hid hRF
      have E1 := Lib.hid e1
      have E2 := Lib.hid e2
      have E3 := Lib.hid e3
      have E4 := Lib.hid e4
      have E5 := Lib.hid e5
      have E6 := Lib.hid e6
      have E7 := Lib.hid e7
      have E8 := Lib.hid e8
      clear he hQ hR hc e1 e2 e3 e4 e5 e6 e7 e8 hTF hRF
      go_enter Try.func7, Try.ntmps7
      go_wp2_with fail
      rw [HW0.out]
      refine HG.out.mono ?_
      rintro e wg ⟨rfl, rfl⟩
      have hC1 := tAdd_any v ts a b c w0 K1.out (by omega)
      unfold tmA encT at hC1
      dsimp only at hC1
      rw [HE.out, HQ.out] at hC1
      have HC1 := Lib.hid hC1
      clear hC1
      obtain ⟨xt0, xt1, xt2⟩ := X0.out
      go_wp2_with fail
      refine HC1.out.mono ?_
      rintro e w1 ⟨v1, rfl, f1, b1⟩
      clear xt0 xt1 xt2
      have HB1 := Lib.hid (HB0.out.trans (b1.mono HB0.out.size))
      have Kl_1 := Lib.hid (KtC.below K1.out b1)
      have Xt_1 := Lib.hid (keep3 X0.out b1)
      have Kq_1 : Hid (KtC w1 v1 (Q)) := Lib.hid (FtC.known f1)
      clear b1 f1
      have hC2 := tRemove_any v1 Q b c w1 Kq_1.out E8.out
      rw [E1.out] at hC2
      have HC2 := Lib.hid hC2
      clear hC2
      obtain ⟨xt0, xt1, xt2⟩ := Xt_1.out
      go_wp2_with fail
      refine HC2.out.mono ?_
      rintro e w2 ⟨v2, rfl, f2, b2⟩
      clear xt0 xt1 xt2
      have HB2 := Lib.hid (HB1.out.trans (b2.mono HB1.out.size))
      have Kl_2 := Lib.hid (KtC.below Kl_1.out b2)
      have Kq_2 := Lib.hid (KtC.below Kq_1.out b2)
      have Xt_2 := Lib.hid (keep3 Xt_1.out b2)
      have Kr_2 : Hid (KtC w2 v2 (R)) := Lib.hid (FtC.known f2)
      clear b2 f2
      have hC3 := tFind_any v ts b c w2 Kl_2.out (by omega)
      rw [HTF.out, E5.out] at hC3
      have HC3 := Lib.hid hC3
      clear hC3
      obtain ⟨xt0, xt1, xt2⟩ := Xt_2.out
      go_wp2_with fail
      refine HC3.out.mono ?_
      rintro e w3 ⟨rfl, b3⟩
      clear xt0 xt1 xt2
      have HB3 := Lib.hid (HB2.out.trans (b3.mono HB2.out.size))
      have Kl_3 := Lib.hid (KtC.below Kl_2.out b3)
      have Kr_3 := Lib.hid (KtC.below Kr_2.out b3)
      have Xt_3 := Lib.hid (keep3 Xt_2.out b3)
      clear b3
      cases hT : hasK ts b c
      · have E9 := Lib.hid (E6.out hT)
        have hC4 := same_at _ _ _ _ w3 Kr_3.out Kl_3.out
        rw [decide_eq_true E9.out] at hC4
        have HC4 := Lib.hid hC4
        clear hC4
        obtain ⟨xt0, xt1, xt2⟩ := Xt_3.out
        go_wp2_with fail
        refine HC4.out.mono ?_
        rintro e w4 ⟨rfl, b4⟩
        clear xt0 xt1 xt2
        have HB4 := Lib.hid (HB3.out.trans (b4.mono HB3.out.size))
        have Kl_4 := Lib.hid (KtC.below Kl_3.out b4)
        have Kr_4 := Lib.hid (KtC.below Kr_3.out b4)
        have Xt_4 := Lib.hid (keep3 Xt_3.out b4)
        clear b4
        have hC5 := tFind_any v2 R b c w4 Kr_4.out (by have := E7.out; omega)
        rw [HRF.out, E4.out] at hC5
        have HC5 := Lib.hid hC5
        clear hC5
        obtain ⟨xt0, xt1, xt2⟩ := Xt_4.out
        go_wp2_with fail
        refine HC5.out.mono ?_
        rintro e w5 ⟨rfl, b5⟩
        clear xt0 xt1 xt2
        have HB5 := Lib.hid (HB4.out.trans (b5.mono HB4.out.size))
        have Kl_5 := Lib.hid (KtC.below Kl_4.out b5)
        have Kr_5 := Lib.hid (KtC.below Kr_4.out b5)
        have Xt_5 := Lib.hid (keep3 Xt_4.out b5)
        clear b5
        have hC6 := tRemove_any v2 R b c w5 Kr_5.out (by have := E7.out; omega)
        rw [E2.out] at hC6
        have HC6 := Lib.hid hC6
        clear hC6
        obtain ⟨xt0, xt1, xt2⟩ := Xt_5.out
        go_wp2_with fail
        refine HC6.out.mono ?_
        rintro e w6 ⟨v3, rfl, f3, b6⟩
        clear xt0 xt1 xt2
        have HB6 := Lib.hid (HB5.out.trans (b6.mono HB5.out.size))
        have Kl_6 := Lib.hid (KtC.below Kl_5.out b6)
        have Kr_6 := Lib.hid (KtC.below Kr_5.out b6)
        have Xt_6 := Lib.hid (keep3 Xt_5.out b6)
        have Ks_6 : Hid (KtC w6 v3 (R)) := Lib.hid (FtC.known f3)
        clear b6 f3
        have hC7 := same_at _ _ _ _ w6 Ks_6.out Kr_6.out
        rw [decide_eq_true rfl] at hC7
        have HC7 := Lib.hid hC7
        clear hC7
        obtain ⟨xt0, xt1, xt2⟩ := Xt_6.out
        go_wp2_with fail
        refine HC7.out.mono ?_
        rintro e w7 ⟨rfl, b7⟩
        clear xt0 xt1 xt2
        have HB7 := Lib.hid (HB6.out.trans (b7.mono HB6.out.size))
        have Kl_7 := Lib.hid (KtC.below Kl_6.out b7)
        have Kr_7 := Lib.hid (KtC.below Kr_6.out b7)
        have Ks_7 := Lib.hid (KtC.below Ks_6.out b7)
        have Xt_7 := Lib.hid (keep3 Xt_6.out b7)
        clear b7
        have hC8 := tRemove_any v ts b c w7 Kl_7.out (by omega)
        rw [E3.out] at hC8
        have HC8 := Lib.hid hC8
        clear hC8
        obtain ⟨xt0, xt1, xt2⟩ := Xt_7.out
        go_wp2_with fail
        refine HC8.out.mono ?_
        rintro e w8 ⟨v4, rfl, f4, b8⟩
        clear xt0 xt1 xt2
        have HB8 := Lib.hid (HB7.out.trans (b8.mono HB7.out.size))
        have Kl_8 := Lib.hid (KtC.below Kl_7.out b8)
        have Kr_8 := Lib.hid (KtC.below Kr_7.out b8)
        have Xt_8 := Lib.hid (keep3 Xt_7.out b8)
        have Ks_8 : Hid (KtC w8 v4 (R)) := Lib.hid (FtC.known f4)
        clear b8 f4
        have hC9 := same_at _ _ _ _ w8 Ks_8.out Kr_8.out
        rw [decide_eq_true rfl] at hC9
        have HC9 := Lib.hid hC9
        clear hC9
        obtain ⟨xt0, xt1, xt2⟩ := Xt_8.out
        go_wp2_with fail
        refine HC9.out.mono ?_
        rintro e w9 ⟨rfl, b9⟩
        clear xt0 xt1 xt2
        have HB9 := Lib.hid (HB8.out.trans (b9.mono HB8.out.size))
        have Kl_9 := Lib.hid (KtC.below Kl_8.out b9)
        have Kr_9 := Lib.hid (KtC.below Kr_8.out b9)
        have Ks_9 := Lib.hid (KtC.below Ks_8.out b9)
        have Xt_9 := Lib.hid (keep3 Xt_8.out b9)
        clear b9
        have hC10 := awake_any w9
        have HC10 := Lib.hid hC10
        clear hC10
        go_wp2_with fail
        refine HC10.out.mono ?_
        rintro e w10 ⟨rfl, b10⟩
        have HB10 := Lib.hid (HB9.out.trans (b10.mono HB9.out.size))
        clear b10
        go_wp2
        go_ret
        exact ⟨rfl, HB10.out⟩
      · have hC4 := tFind_any v2 R b c w3 Kr_3.out (by have := E7.out; omega)
        rw [HRF.out, E4.out] at hC4
        have HC4 := Lib.hid hC4
        clear hC4
        obtain ⟨xt0, xt1, xt2⟩ := Xt_3.out
        go_wp2_with fail
        refine HC4.out.mono ?_
        rintro e w4 ⟨rfl, b4⟩
        clear xt0 xt1 xt2
        have HB4 := Lib.hid (HB3.out.trans (b4.mono HB3.out.size))
        have Kl_4 := Lib.hid (KtC.below Kl_3.out b4)
        have Kr_4 := Lib.hid (KtC.below Kr_3.out b4)
        have Xt_4 := Lib.hid (keep3 Xt_3.out b4)
        clear b4
        have hC5 := tRemove_any v2 R b c w4 Kr_4.out (by have := E7.out; omega)
        rw [E2.out] at hC5
        have HC5 := Lib.hid hC5
        clear hC5
        obtain ⟨xt0, xt1, xt2⟩ := Xt_4.out
        go_wp2_with fail
        refine HC5.out.mono ?_
        rintro e w5 ⟨v3, rfl, f3, b5⟩
        clear xt0 xt1 xt2
        have HB5 := Lib.hid (HB4.out.trans (b5.mono HB4.out.size))
        have Kl_5 := Lib.hid (KtC.below Kl_4.out b5)
        have Kr_5 := Lib.hid (KtC.below Kr_4.out b5)
        have Xt_5 := Lib.hid (keep3 Xt_4.out b5)
        have Ks_5 : Hid (KtC w5 v3 (R)) := Lib.hid (FtC.known f3)
        clear b5 f3
        have hC6 := same_at _ _ _ _ w5 Ks_5.out Kr_5.out
        rw [decide_eq_true rfl] at hC6
        have HC6 := Lib.hid hC6
        clear hC6
        obtain ⟨xt0, xt1, xt2⟩ := Xt_5.out
        go_wp2_with fail
        refine HC6.out.mono ?_
        rintro e w6 ⟨rfl, b6⟩
        clear xt0 xt1 xt2
        have HB6 := Lib.hid (HB5.out.trans (b6.mono HB5.out.size))
        have Kl_6 := Lib.hid (KtC.below Kl_5.out b6)
        have Kr_6 := Lib.hid (KtC.below Kr_5.out b6)
        have Ks_6 := Lib.hid (KtC.below Ks_5.out b6)
        have Xt_6 := Lib.hid (keep3 Xt_5.out b6)
        clear b6
        have hC7 := tRemove_any v ts b c w6 Kl_6.out (by omega)
        rw [E3.out] at hC7
        have HC7 := Lib.hid hC7
        clear hC7
        obtain ⟨xt0, xt1, xt2⟩ := Xt_6.out
        go_wp2_with fail
        refine HC7.out.mono ?_
        rintro e w7 ⟨v4, rfl, f4, b7⟩
        clear xt0 xt1 xt2
        have HB7 := Lib.hid (HB6.out.trans (b7.mono HB6.out.size))
        have Kl_7 := Lib.hid (KtC.below Kl_6.out b7)
        have Kr_7 := Lib.hid (KtC.below Kr_6.out b7)
        have Xt_7 := Lib.hid (keep3 Xt_6.out b7)
        have Ks_7 : Hid (KtC w7 v4 (R)) := Lib.hid (FtC.known f4)
        clear b7 f4
        have hC8 := same_at _ _ _ _ w7 Ks_7.out Kr_7.out
        rw [decide_eq_true rfl] at hC8
        have HC8 := Lib.hid hC8
        clear hC8
        obtain ⟨xt0, xt1, xt2⟩ := Xt_7.out
        go_wp2_with fail
        refine HC8.out.mono ?_
        rintro e w8 ⟨rfl, b8⟩
        clear xt0 xt1 xt2
        have HB8 := Lib.hid (HB7.out.trans (b8.mono HB7.out.size))
        have Kl_8 := Lib.hid (KtC.below Kl_7.out b8)
        have Kr_8 := Lib.hid (KtC.below Kr_7.out b8)
        have Ks_8 := Lib.hid (KtC.below Ks_7.out b8)
        have Xt_8 := Lib.hid (keep3 Xt_7.out b8)
        clear b8
        have hC9 := awake_any w8
        have HC9 := Lib.hid hC9
        clear hC9
        go_wp2_with fail
        refine HC9.out.mono ?_
        rintro e w9 ⟨rfl, b9⟩
        have HB9 := Lib.hid (HB8.out.trans (b9.mono HB8.out.size))
        clear b9
        go_wp2
        go_ret
        exact ⟨rfl, HB9.out⟩
    · have HE := Lib.hid he
      have hQ := addQ_no he
      have HQ := Lib.hid hQ
      clear hQ
      go_enter Try.func7, Try.ntmps7
      go_wp2_with fail
      rw [HW0.out]
      refine HG.out.mono ?_
      rintro e wg ⟨rfl, rfl⟩
      have hC1 := tAdd_any v ts a b c w0 K1.out (by omega)
      unfold tmA encT at hC1
      dsimp only at hC1
      rw [HQ.out] at hC1
      obtain ⟨E, hE⟩ : ∃ E, addE ts (a, b, c) = E := ⟨_, rfl⟩
      rw [hE] at hC1 he
      clear hE
      have HC1 := Lib.hid hC1
      clear hC1
      obtain ⟨xt0, xt1, xt2⟩ := X0.out
      go_wp2_with fail
      refine HC1.out.mono ?_
      rintro e w1 ⟨v1, rfl, f1, b1⟩
      clear xt0 xt1 xt2
      have HB1 := Lib.hid (HB0.out.trans (b1.mono HB0.out.size))
      have Kl_1 := Lib.hid (KtC.below K1.out b1)
      have Xt_1 := Lib.hid (keep3 X0.out b1)
      clear b1
      obtain ⟨ad, cap, rfl, -, -, -⟩ := FtC.known f1
      clear f1
      have hC2 := awake_any w1
      have HC2 := Lib.hid hC2
      clear hC2
      go_wp2_with fail
      refine HC2.out.mono ?_
      rintro e w2 ⟨rfl, b2⟩
      have HB2 := Lib.hid (HB1.out.trans (b2.mono HB1.out.size))
      clear b2
      go_wp2
      go_ret
      exact ⟨rfl, HB2.out⟩

end Go.Proofs.Ytcmcgcogahkamaa
