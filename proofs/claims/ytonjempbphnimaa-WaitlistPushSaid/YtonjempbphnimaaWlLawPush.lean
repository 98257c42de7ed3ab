/-
  The walk of WaitlistPush.
-/
import Derived.Test.YtonjempbphnimaaWlAwake
import Derived.Test.YtonjempbphnimaaWlRefPush
import Derived.Test.YtonjempbphnimaaWlAt
import Derived.Test.YtonjempbphnimaaWlOpen
namespace Go.Proofs.Ytonjempbphnimaa
open Go.RowKit Go.Shelf

set_option maxRecDepth 100000 in
set_option maxHeartbeats 8000000 in
theorem waitlistPush_walk (kd : Int) (v : Value) (ts : List Wl) (a b c d f : Int) (w : World) (hK : KwC w v ts) :
    Calls Try.prog 3 #[.int .i64 kd, v, .agg #[.int .i64 a, .int .i64 b, .int .i64 c, .int .i64 d, .int .i64 f]] w fun e w' => e = .returned (.bool true) ∧ Below w.heap.size w w' := by
  obtain ⟨w0, hw0⟩ : ∃ W, w.alloc (.cells #[.int .i64 a, .int .i64 b, .int .i64 c, .int .i64 d, .int .i64 f] TW) = W := ⟨_, rfl⟩
  have hb0 : Below w.heap.size w w0 := by rw [← hw0]; exact (Below.refl _ w).alloc (Nat.le_refl _) _
  have hx0 : At5 w0 w.heap.size 0 (a, b, c, d, f) := by rw [← hw0]; exact box5 w a b c d f
  have HB0 := Lib.hid hb0
  have X0 := Lib.hid hx0
  have K1 := Lib.hid (KwC.below hK hb0)
  have HW0 := Lib.hid hw0
  have hG := great_atW v ts w0 K1.out
  clear hK hb0 hx0 hw0
  by_cases hg : 12 < ts.length
  · rw [decide_eq_true hg] at hG
    have HG := Lib.hid hG
    clear hG hg
    go_enter Try.func3, Try.ntmps3
    go_wp2_with fail
    rw [HW0.out]
    refine HG.out.mono ?_
    rintro e wg ⟨rfl, rfl⟩
    have hC1 := awake_any w0
    have HC1 := Lib.hid hC1
    clear hC1
    go_wp2_with fail
    refine HC1.out.mono ?_
    rintro e w1 ⟨rfl, b1⟩
    have HB1 := Lib.hid (HB0.out.trans (b1.mono HB0.out.size))
    clear b1
    go_wp2
    go_ret
    exact ⟨rfl, HB1.out⟩
  · rw [decide_eq_false hg] at hG
    have HG := Lib.hid hG
    have hl : ts.length ≤ 12 := by omega
    clear hG hg
    obtain ⟨E, hE⟩ : ∃ E, pshE kd ts (a, b, c, d, f) = E := ⟨_, rfl⟩
    obtain ⟨Q, hQ⟩ : ∃ Q, pshQ kd ts (a, b, c, d, f) = Q := ⟨_, rfl⟩
    obtain ⟨C, hC⟩ : ∃ C, wchE kd ts = C := ⟨_, rfl⟩
    have HE := Lib.hid hE
    have HQ := Lib.hid hQ
    have HC := Lib.hid hC
    clear hE hQ hC
    go_enter Try.func3, Try.ntmps3
    go_wp2_with fail
    rw [HW0.out]
    refine HG.out.mono ?_
    rintro e wg ⟨rfl, rfl⟩
    have hC1 := wPush_any v kd ts a b c d f w0 K1.out
    rw [HE.out, HQ.out] at hC1
    have HC1 := Lib.hid hC1
    clear hC1
    obtain ⟨xt0, xt1, xt2, xt3, xt4⟩ := X0.out
    simp only [Nat.zero_add] at xt0 xt1 xt2 xt3 xt4
    go_wp2_with fail
    refine HC1.out.mono ?_
    rintro e w1 ⟨v1, rfl, f1, b1⟩
    clear xt0 xt1 xt2 xt3 xt4
    have HB1 := Lib.hid (HB0.out.trans (b1.mono HB0.out.size))
    have Kl_1 := Lib.hid (KwC.below K1.out b1)
    have Xt_1 := Lib.hid (At5.below X0.out b1)
    have Kp_1 : Hid (KwC w1 v1 (Q)) := Lib.hid (FwC.known f1)
    clear b1 f1
    have hC2 := rwPush_any v kd ts a b c d f w1 Kl_1.out
    rw [HE.out, HQ.out] at hC2
    have HC2 := Lib.hid hC2
    clear hC2
    obtain ⟨xt0, xt1, xt2, xt3, xt4⟩ := Xt_1.out
    simp only [Nat.zero_add] at xt0 xt1 xt2 xt3 xt4
    go_wp2_with fail
    refine HC2.out.mono ?_
    rintro e w2 ⟨v2, rfl, f2, b2⟩
    clear xt0 xt1 xt2 xt3 xt4
    have HB2 := Lib.hid (HB1.out.trans (b2.mono HB1.out.size))
    have Kl_2 := Lib.hid (KwC.below Kl_1.out b2)
    have Kp_2 := Lib.hid (KwC.below Kp_1.out b2)
    have Xt_2 := Lib.hid (At5.below Xt_1.out b2)
    have Kq_2 : Hid (KwC w2 v2 (Q)) := Lib.hid (FwC.known f2)
    clear b2 f2
    have hC3 := wCheck_at v kd ts w2 Kl_2.out
    rw [HC.out] at hC3
    have HC3 := Lib.hid hC3
    clear hC3
    go_wp2_with fail
    refine HC3.out.mono ?_
    rintro e w3 ⟨rfl, b3⟩
    have HB3 := Lib.hid (HB2.out.trans (b3.mono HB2.out.size))
    have Kl_3 := Lib.hid (KwC.below Kl_2.out b3)
    have Kp_3 := Lib.hid (KwC.below Kp_2.out b3)
    have Kq_3 := Lib.hid (KwC.below Kq_2.out b3)
    clear b3
    have hC4 := rwCheck_at v kd ts w3 Kl_3.out
    rw [HC.out] at hC4
    have HC4 := Lib.hid hC4
    clear hC4
    go_wp2_with fail
    refine HC4.out.mono ?_
    rintro e w4 ⟨rfl, b4⟩
    have HB4 := Lib.hid (HB3.out.trans (b4.mono HB3.out.size))
    have Kl_4 := Lib.hid (KwC.below Kl_3.out b4)
    have Kp_4 := Lib.hid (KwC.below Kp_3.out b4)
    have Kq_4 := Lib.hid (KwC.below Kq_3.out b4)
    clear b4
    have hC5 := eqW_same _ _ _ w4 Kp_4.out Kq_4.out
    have HC5 := Lib.hid hC5
    clear hC5
    go_wp2_with fail
    refine HC5.out.mono ?_
    rintro e w5 ⟨rfl, b5⟩
    have HB5 := Lib.hid (HB4.out.trans (b5.mono HB4.out.size))
    have Kl_5 := Lib.hid (KwC.below Kl_4.out b5)
    have Kp_5 := Lib.hid (KwC.below Kp_4.out b5)
    have Kq_5 := Lib.hid (KwC.below Kq_4.out b5)
    clear b5
    have hC6 := awake_any w5
    have HC6 := Lib.hid hC6
    clear hC6
    go_wp2_with fail
    refine HC6.out.mono ?_
    rintro e w6 ⟨rfl, b6⟩
    have HB6 := Lib.hid (HB5.out.trans (b6.mono HB5.out.size))
    clear b6
    go_wp2
    go_ret
    exact ⟨rfl, HB6.out⟩

end Go.Proofs.Ytonjempbphnimaa
