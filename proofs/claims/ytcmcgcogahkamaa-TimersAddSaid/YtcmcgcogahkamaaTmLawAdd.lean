/-
  The walk of TimersAdd.
-/
import Derived.Test.YtcmcgcogahkamaaTmRefAdd
import Derived.Test.YtcmcgcogahkamaaTmOpen
namespace Go.Proofs.Ytcmcgcogahkamaa
open Go.RowKit Go.Shelf

set_option maxRecDepth 100000 in
set_option maxHeartbeats 4000000 in
theorem timersAdd_walk (v : Value) (ts : List Tm) (a b c : Int) (w : World) (hK : KtC w v ts) :
    Calls Try.prog 3 #[v, .agg #[.int .i64 a, .int .i64 b, .int .i64 c]] w fun e w' => e = .returned (.bool true) ∧ Below w.heap.size w w' := by
  obtain ⟨w0, hw0⟩ : ∃ W, w.alloc (.cells #[.int .i64 a, .int .i64 b, .int .i64 c] TT) = W := ⟨_, rfl⟩
  have hb0 : Below w.heap.size w w0 := by rw [← hw0]; exact (Below.refl _ w).alloc (Nat.le_refl _) _
  have hx0 : w0.cell? ⟨w.heap.size, 0, none⟩ = some (.int .i64 a) ∧ w0.cell? ⟨w.heap.size, 1, none⟩ = some (.int .i64 b) ∧ w0.cell? ⟨w.heap.size, 2, none⟩ = some (.int .i64 c) := by rw [← hw0]; exact box3 w a b c
  have HB0 := Lib.hid hb0
  have X0 := Lib.hid hx0
  have K1 := Lib.hid (KtC.below hK hb0)
  have HW0 := Lib.hid hw0
  have hG := great_at v ts w0 K1.out
  clear hK hb0 hx0 hw0
  by_cases hg : 40 < ts.length
  · rw [decide_eq_true hg] at hG
    have HG := Lib.hid hG
    clear hG hg
    go_enter Try.func3, Try.ntmps3
    go_wp2_with fail
    rw [HW0.out]
    refine HG.out.mono ?_
    rintro e wg ⟨rfl, rfl⟩
    have hC1 := awake_any w0
    have HC1 := Lib.hid hC1
    clear hC1
    go_wp2_with fail
    refine HC1.out.mono ?_
    rintro e w1 ⟨rfl, b1⟩
    have HB1 := Lib.hid (HB0.out.trans (b1.mono HB0.out.size))
    clear b1
    go_wp2
    go_ret
    exact ⟨rfl, HB1.out⟩
  · rw [decide_eq_false hg] at hG
    have HG := Lib.hid hG
    have hl : ts.length ≤ 40 := by omega
    clear hG hg
    go_enter Try.func3, Try.ntmps3
    go_wp2_with fail
    rw [HW0.out]
    refine HG.out.mono ?_
    rintro e wg ⟨rfl, rfl⟩
    obtain ⟨E, hE⟩ : ∃ E, addE ts (a, b, c) = E := ⟨_, rfl⟩
    obtain ⟨Q, hQ⟩ : ∃ Q, addQ ts (a, b, c) = Q := ⟨_, rfl⟩
    obtain ⟨C, hC⟩ : ∃ C, chkE ts = C := ⟨_, rfl⟩
    have HE := Lib.hid hE
    have HQ := Lib.hid hQ
    have HC := Lib.hid hC
    clear hE hQ hC
    have hC1 := tAdd_any v ts a b c w0 K1.out (by omega)
    unfold tmA encT at hC1
    dsimp only at hC1
    rw [HE.out, HQ.out] at hC1
    have HC1 := Lib.hid hC1
    clear hC1
    obtain ⟨xt0, xt1, xt2⟩ := X0.out
    go_wp2_with fail
    refine HC1.out.mono ?_
    rintro e w1 ⟨v1, rfl, f1, b1⟩
    clear xt0 xt1 xt2
    have HB1 := Lib.hid (HB0.out.trans (b1.mono HB0.out.size))
    have Kl_1 := Lib.hid (KtC.below K1.out b1)
    have Xt_1 := Lib.hid (keep3 X0.out b1)
    have Kp_1 : Hid (KtC w1 v1 (Q)) := Lib.hid (FtC.known f1)
    clear b1 f1
    have hC2 := rAdd_any v ts a b c w1 Kl_1.out (by omega)
    unfold tmA encT at hC2
    dsimp only at hC2
    rw [HE.out, HQ.out] at hC2
    have HC2 := Lib.hid hC2
    clear hC2
    obtain ⟨xt0, xt1, xt2⟩ := Xt_1.out
    go_wp2_with fail
    refine HC2.out.mono ?_
    rintro e w2 ⟨v2, rfl, f2, b2⟩
    clear xt0 xt1 xt2
    have HB2 := Lib.hid (HB1.out.trans (b2.mono HB1.out.size))
    have Kl_2 := Lib.hid (KtC.below Kl_1.out b2)
    have Kp_2 := Lib.hid (KtC.below Kp_1.out b2)
    have Xt_2 := Lib.hid (keep3 Xt_1.out b2)
    have Kq_2 : Hid (KtC w2 v2 (Q)) := Lib.hid (FtC.known f2)
    clear b2 f2
    have hC3 := same_at _ _ _ _ w2 Kp_2.out Kq_2.out
    rw [decide_eq_true rfl] at hC3
    have HC3 := Lib.hid hC3
    clear hC3
    obtain ⟨xt0, xt1, xt2⟩ := Xt_2.out
    go_wp2_with fail
    refine HC3.out.mono ?_
    rintro e w3 ⟨rfl, b3⟩
    clear xt0 xt1 xt2
    have HB3 := Lib.hid (HB2.out.trans (b3.mono HB2.out.size))
    have Kl_3 := Lib.hid (KtC.below Kl_2.out b3)
    have Kp_3 := Lib.hid (KtC.below Kp_2.out b3)
    have Kq_3 := Lib.hid (KtC.below Kq_2.out b3)
    have Xt_3 := Lib.hid (keep3 Xt_2.out b3)
    clear b3
    have hC4 := tCheck_at v ts w3 Kl_3.out (by omega)
    rw [HC.out] at hC4
    have HC4 := Lib.hid hC4
    clear hC4
    obtain ⟨xt0, xt1, xt2⟩ := Xt_3.out
    go_wp2_with fail
    refine HC4.out.mono ?_
    rintro e w4 ⟨rfl, b4⟩
    clear xt0 xt1 xt2
    have HB4 := Lib.hid (HB3.out.trans (b4.mono HB3.out.size))
    have Kl_4 := Lib.hid (KtC.below Kl_3.out b4)
    have Kp_4 := Lib.hid (KtC.below Kp_3.out b4)
    have Kq_4 := Lib.hid (KtC.below Kq_3.out b4)
    have Xt_4 := Lib.hid (keep3 Xt_3.out b4)
    clear b4
    have hC5 := rCheck_at v ts w4 Kl_4.out (by omega)
    rw [HC.out] at hC5
    have HC5 := Lib.hid hC5
    clear hC5
    obtain ⟨xt0, xt1, xt2⟩ := Xt_4.out
    go_wp2_with fail
    refine HC5.out.mono ?_
    rintro e w5 ⟨rfl, b5⟩
    clear xt0 xt1 xt2
    have HB5 := Lib.hid (HB4.out.trans (b5.mono HB4.out.size))
    have Kl_5 := Lib.hid (KtC.below Kl_4.out b5)
    have Kp_5 := Lib.hid (KtC.below Kp_4.out b5)
    have Kq_5 := Lib.hid (KtC.below Kq_4.out b5)
    have Xt_5 := Lib.hid (keep3 Xt_4.out b5)
    clear b5
    have hC6 := awake_any w5
    have HC6 := Lib.hid hC6
    clear hC6
    obtain ⟨xt0, xt1, xt2⟩ := Xt_5.out
    go_wp2_with fail
    refine HC6.out.mono ?_
    rintro e w6 ⟨rfl, b6⟩
    clear xt0 xt1 xt2
    have HB6 := Lib.hid (HB5.out.trans (b6.mono HB5.out.size))
    have Kl_6 := Lib.hid (KtC.below Kl_5.out b6)
    have Kp_6 := Lib.hid (KtC.below Kp_5.out b6)
    have Kq_6 := Lib.hid (KtC.below Kq_5.out b6)
    have Xt_6 := Lib.hid (keep3 Xt_5.out b6)
    clear b6
    go_wp2
    go_ret
    exact ⟨rfl, HB6.out⟩

end Go.Proofs.Ytcmcgcogahkamaa
