/-
  The walk of ExprEval.
-/
import Derived.Test.YtfgaihajopfmfaaDoorExAwake
import Derived.Test.YtfgaihajopfmfaaDoorExREvalB
import Derived.Test.YtfgaihajopfmfaaDoorExOpen
namespace Go.Proofs.YtfgaihajopfmfaaDoor
set_option linter.unusedSimpArgs false
set_option linter.unusedVariables false
open Go.RowKit

set_option maxRecDepth 100000 in
set_option maxHeartbeats 16000000 in
theorem exprEval_walk (ex : Ex) (slx : Value) (vbl : Value) (ll : List Bd) (w : World) (hKx : KX w ex slx) (hfx : fitE ex) (hBl : KB w vbl ll) (hll : fitB ll) (hI : TabI w) :
    Calls Tryd.prog 3 #[exV ex slx, vbl] w fun e w' => e = .returned (.bool true) ∧ Below w.heap.size w w' := by
  have HB0 : Hid (Below w.heap.size w w) := Lib.hid (Below.refl _ w)
  have ZI_0 := Lib.hid hI
  obtain ⟨ax, cx, _, e1, _, _, _⟩ := KA.inv hKx
  obtain ⟨nx, e2⟩ : ∃ n, ex.es.length = n := ⟨_, rfl⟩
  rw [e2] at e1
  subst e1
  clear e2
  have Xx_0 := Lib.hid hKx
  have HFx := Lib.hid hfx
  obtain ⟨al, cl, e1, _, _, _⟩ := id hBl
  obtain ⟨nl, e2⟩ : ∃ n, ll.length = n := ⟨_, rfl⟩
  rw [e2] at e1
  subst e1
  clear e2
  have Bl_0 := Lib.hid hBl
  have HLl := Lib.hid hll
  clear hI hKx hfx hBl hll
  simp only [exV]
  obtain ⟨w1, hw1⟩ : ∃ W, w.alloc (.cells #[.int .i64 ex.k, .int .i64 ex.o, .string ex.s, .int .i64 ex.v, (.slice ax nx cx)] TX (0, 0)) = W := ⟨_, rfl⟩
  have b1 : Below w.heap.size w w1 := by rw [← hw1]; exact below_allocW w _
  have z1 : AtX w1 w.heap.size 0 ex ((.slice ax nx cx)) := by rw [← hw1]; exact boxX w ex.k ex.o ex.s ex.v _ ex.es
  have HB1 := Lib.hid (HB0.out.trans (b1.mono HB0.out.size))
  have Xx_1 := Lib.hid (KA.carry Xx_0.out b1)
  have Bl_1 := Lib.hid (KB.carry Bl_0.out b1)
  have ZI_1 := Lib.hid (TabI.below ZI_0.out b1)
  have Zx_1 := Lib.hid z1
  have HW1 := Lib.hid hw1
  clear hw1 b1 z1
  go_enter Tryd.func3, Tryd.ntmps3
  cases hg : grE ex with
  | true =>
    have hC2 := rGreat_any ex (.slice ax nx cx) w1 Xx_1.out
    simp only [exV] at hC2
    rw [hg] at hC2
    have HC2 := Lib.hid hC2
    clear hC2
    go_wp2_with fail
    rw [HW1.out]
    refine HC2.out.mono ?_
    rintro e w2 ⟨rfl, b2⟩
    have HB2 := Lib.hid (HB1.out.trans (b2.mono HB1.out.size))
    have Xx_2 := Lib.hid (KA.carry Xx_1.out b2)
    have Bl_2 := Lib.hid (KB.carry Bl_1.out b2)
    have ZI_2 := Lib.hid (TabI.below ZI_1.out b2)
    have Zx_2 := Lib.hid (AtX.later Zx_1.out b2)
    clear b2 HC2
    have hC3 := awake_any w2 ZI_2.out
    have HC3 := Lib.hid hC3
    clear hC3
    go_wp2_with fail
    refine HC3.out.mono ?_
    rintro e w3 ⟨rfl, b3⟩
    have HB3 := Lib.hid (HB2.out.trans (b3.mono HB2.out.size))
    have Xx_3 := Lib.hid (KA.carry Xx_2.out b3)
    have Bl_3 := Lib.hid (KB.carry Bl_2.out b3)
    have ZI_3 := Lib.hid (TabI.below ZI_2.out b3)
    have Zx_3 := Lib.hid (AtX.later Zx_2.out b3)
    clear b3 HC3
    go_wp2
    go_ret
    exact ⟨rfl, HB3.out⟩
  | false =>
    have hC2 := rGreat_any ex (.slice ax nx cx) w1 Xx_1.out
    simp only [exV] at hC2
    rw [hg] at hC2
    have HC2 := Lib.hid hC2
    clear hC2
    go_wp2_with fail
    rw [HW1.out]
    refine HC2.out.mono ?_
    rintro e w2 ⟨rfl, b2⟩
    have HB2 := Lib.hid (HB1.out.trans (b2.mono HB1.out.size))
    have Xx_2 := Lib.hid (KA.carry Xx_1.out b2)
    have Bl_2 := Lib.hid (KB.carry Bl_1.out b2)
    have ZI_2 := Lib.hid (TabI.below ZI_1.out b2)
    have Zx_2 := Lib.hid (AtX.later Zx_1.out b2)
    clear b2 HC2
    cases hh : gtB ll with
    | true =>
      have hC3 := rGreatB_any ll (.slice al nl cl) w2 Bl_2.out
      rw [hh] at hC3
      have HC3 := Lib.hid hC3
      clear hC3
      go_wp2_with fail
      refine HC3.out.mono ?_
      rintro e w3 ⟨rfl, b3⟩
      have HB3 := Lib.hid (HB2.out.trans (b3.mono HB2.out.size))
      have Xx_3 := Lib.hid (KA.carry Xx_2.out b3)
      have Bl_3 := Lib.hid (KB.carry Bl_2.out b3)
      have ZI_3 := Lib.hid (TabI.below ZI_2.out b3)
      have Zx_3 := Lib.hid (AtX.later Zx_2.out b3)
      clear b3 HC3
      have hC4 := awake_any w3 ZI_3.out
      have HC4 := Lib.hid hC4
      clear hC4
      go_wp2_with fail
      refine HC4.out.mono ?_
      rintro e w4 ⟨rfl, b4⟩
      have HB4 := Lib.hid (HB3.out.trans (b4.mono HB3.out.size))
      have Xx_4 := Lib.hid (KA.carry Xx_3.out b4)
      have Bl_4 := Lib.hid (KB.carry Bl_3.out b4)
      have ZI_4 := Lib.hid (TabI.below ZI_3.out b4)
      have Zx_4 := Lib.hid (AtX.later Zx_3.out b4)
      clear b4 HC4
      go_wp2
      go_ret
      exact ⟨rfl, HB4.out⟩
    | false =>
      have hC3 := rGreatB_any ll (.slice al nl cl) w2 Bl_2.out
      rw [hh] at hC3
      have HC3 := Lib.hid hC3
      clear hC3
      go_wp2_with fail
      refine HC3.out.mono ?_
      rintro e w3 ⟨rfl, b3⟩
      have HB3 := Lib.hid (HB2.out.trans (b3.mono HB2.out.size))
      have Xx_3 := Lib.hid (KA.carry Xx_2.out b3)
      have Bl_3 := Lib.hid (KB.carry Bl_2.out b3)
      have ZI_3 := Lib.hid (TabI.below ZI_2.out b3)
      have Zx_3 := Lib.hid (AtX.later Zx_2.out b3)
      clear b3 HC3
      obtain ⟨⟨T, X⟩, hT⟩ : ∃ q, tyF ll ex = q := ⟨_, rfl⟩
      obtain ⟨⟨V, Y⟩, hV⟩ : ∃ q, vlF ll ex = q := ⟨_, rfl⟩
      have hC4 := Type_any ll (.slice al nl cl) ex (.slice ax nx cx) w3 Xx_3.out Bl_3.out HFx.out HLl.out
      simp only [exV] at hC4
      rw [hT] at hC4
      have HC4 := Lib.hid hC4
      clear hC4
      obtain ⟨qx0, qx1, qx2, qx3, qx4⟩ := Zx_3.out
      simp only [Nat.zero_add] at qx1 qx2 qx3 qx4
      go_wp2_with fail
      refine HC4.out.mono ?_
      rintro e w4 ⟨rfl, b4⟩
      have HB4 := Lib.hid (HB3.out.trans (b4.mono HB3.out.size))
      have Xx_4 := Lib.hid (KA.carry Xx_3.out b4)
      have Bl_4 := Lib.hid (KB.carry Bl_3.out b4)
      have ZI_4 := Lib.hid (TabI.below ZI_3.out b4)
      have Zx_4 := Lib.hid (AtX.later Zx_3.out b4)
      clear b4 HC4 qx0 qx1 qx2 qx3 qx4
      have hC5 := rType_any ll (.slice al nl cl) ex (.slice ax nx cx) w4 Xx_4.out Bl_4.out HFx.out HLl.out
      simp only [exV] at hC5
      rw [hT] at hC5
      have HC5 := Lib.hid hC5
      clear hC5
      obtain ⟨qx0, qx1, qx2, qx3, qx4⟩ := Zx_4.out
      simp only [Nat.zero_add] at qx1 qx2 qx3 qx4
      go_wp2_with fail
      refine HC5.out.mono ?_
      rintro e w5 ⟨rfl, b5⟩
      have HB5 := Lib.hid (HB4.out.trans (b5.mono HB4.out.size))
      have Xx_5 := Lib.hid (KA.carry Xx_4.out b5)
      have Bl_5 := Lib.hid (KB.carry Bl_4.out b5)
      have ZI_5 := Lib.hid (TabI.below ZI_4.out b5)
      have Zx_5 := Lib.hid (AtX.later Zx_4.out b5)
      clear b5 HC5 qx0 qx1 qx2 qx3 qx4
      have hC6 := Eval_any ll (.slice al nl cl) ex (.slice ax nx cx) w5 Xx_5.out Bl_5.out HFx.out HLl.out
      simp only [exV] at hC6
      rw [hV] at hC6
      have HC6 := Lib.hid hC6
      clear hC6
      obtain ⟨qx0, qx1, qx2, qx3, qx4⟩ := Zx_5.out
      simp only [Nat.zero_add] at qx1 qx2 qx3 qx4
      go_wp2_with fail
      refine HC6.out.mono ?_
      rintro e w6 ⟨rfl, b6⟩
      have HB6 := Lib.hid (HB5.out.trans (b6.mono HB5.out.size))
      have Xx_6 := Lib.hid (KA.carry Xx_5.out b6)
      have Bl_6 := Lib.hid (KB.carry Bl_5.out b6)
      have ZI_6 := Lib.hid (TabI.below ZI_5.out b6)
      have Zx_6 := Lib.hid (AtX.later Zx_5.out b6)
      clear b6 HC6 qx0 qx1 qx2 qx3 qx4
      have hC7 := rEval_any ll (.slice al nl cl) ex (.slice ax nx cx) w6 Xx_6.out Bl_6.out HFx.out HLl.out
      simp only [exV] at hC7
      rw [hV] at hC7
      have HC7 := Lib.hid hC7
      clear hC7
      obtain ⟨qx0, qx1, qx2, qx3, qx4⟩ := Zx_6.out
      simp only [Nat.zero_add] at qx1 qx2 qx3 qx4
      go_wp2_with fail
      refine HC7.out.mono ?_
      rintro e w7 ⟨rfl, b7⟩
      have HB7 := Lib.hid (HB6.out.trans (b7.mono HB6.out.size))
      have Xx_7 := Lib.hid (KA.carry Xx_6.out b7)
      have Bl_7 := Lib.hid (KB.carry Bl_6.out b7)
      have ZI_7 := Lib.hid (TabI.below ZI_6.out b7)
      have Zx_7 := Lib.hid (AtX.later Zx_6.out b7)
      clear b7 HC7 qx0 qx1 qx2 qx3 qx4
      have q_T := (ieq (show T = T from rfl)).1
      have p_T := (ieq (show T = T from rfl)).2
      have q_X := (ieq (show X = X from rfl)).1
      have p_X := (ieq (show X = X from rfl)).2
      have q_V := (ieq (show V = V from rfl)).1
      have p_V := (ieq (show V = V from rfl)).2
      have q_Y := (ieq (show Y = Y from rfl)).1
      have p_Y := (ieq (show Y = Y from rfl)).2
      have hC8 := awake_any w7 ZI_7.out
      have HC8 := Lib.hid hC8
      clear hC8
      go_wp2_with fail
      refine HC8.out.mono ?_
      rintro e w8 ⟨rfl, b8⟩
      have HB8 := Lib.hid (HB7.out.trans (b8.mono HB7.out.size))
      have Xx_8 := Lib.hid (KA.carry Xx_7.out b8)
      have Bl_8 := Lib.hid (KB.carry Bl_7.out b8)
      have ZI_8 := Lib.hid (TabI.below ZI_7.out b8)
      have Zx_8 := Lib.hid (AtX.later Zx_7.out b8)
      clear b8 HC8
      go_wp2
      go_ret
      exact ⟨rfl, HB8.out⟩

end Go.Proofs.YtfgaihajopfmfaaDoor
