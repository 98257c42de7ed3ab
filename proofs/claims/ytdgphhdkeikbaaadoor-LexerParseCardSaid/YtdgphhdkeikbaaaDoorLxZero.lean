/-
  What the reference's zero and SameExpr return.
-/
import Derived.Test.YtdgphhdkeikbaaaDoorExRefA
import Derived.Test.YtdgphhdkeikbaaaDoorLxLit
namespace Go.Proofs.YtdgphhdkeikbaaaDoor
set_option linter.unusedSimpArgs false
set_option linter.unusedVariables false
open Go.RowKit

/-- Whether it is the zero expression. -/
def zrE (e : Ex) : Bool := decide (e.k = 0) && decide (e.o = 0) && decide (e.s = .empty) && decide (e.v = 0) && decide (e.es.length = 0)
theorem rzero_any (e : Ex) (sl : Value) (w : World) (hK : KX w e sl) :
    Calls Tryd.prog 37 #[exV e sl] w fun x w' => x = .returned (.bool (zrE e)) ∧ Below w.heap.size w w' := by
  obtain ⟨k, o, s, v, es⟩ := e
  obtain ⟨a, c, sf, rfl, h1, h2, hc⟩ := KA.inv hK
  have h1 : es.length ≤ c := h1
  have hb0 : Below w.heap.size w (w.alloc (.cells #[.int .i64 k, .int .i64 o, .string s, .int .i64 v, .slice a es.length c] TX)) := (Below.refl _ w).alloc (Nat.le_refl _) _
  have HB0 := Lib.hid hb0
  simp only [exV, Ex.k, Ex.o, Ex.s, Ex.v, Ex.es] at *
  clear hc hK hb0
  by_cases c1 : k = 0
  · by_cases c2 : o = 0
    · by_cases c3 : s = .empty
      · by_cases c4 : v = 0
        · by_cases c5 : es.length = 0
          · have HE : Hid (zrE (.mk k o s v es) = true) := Lib.hid (by simp [zrE, Ex.k, Ex.o, Ex.s, Ex.v, Ex.es, c1, c2, c3, c4, c5])
            obtain ⟨q1, q2⟩ := ieq c1
            obtain ⟨q3, q4⟩ := ieq c2
            obtain ⟨q5, q6⟩ := emp_yes c3
            obtain ⟨q8, q9⟩ := ieq c4
            obtain ⟨qa, qb⟩ := ieq (show (es.length : Int) = 0 by omega)
            clear c1 c2 c3 c4 c5
            go_enter Tryd.func37, Tryd.ntmps37
            go_wp2
            go_ret
            exact ⟨by rw [HE.out]; simp only [qa]; rfl, HB0.out⟩
          · have HE : Hid (zrE (.mk k o s v es) = false) := Lib.hid (by simp [zrE, Ex.k, Ex.o, Ex.s, Ex.v, Ex.es, show ¬ es = [] from fun h => c5 (by rw [h]; rfl)])
            obtain ⟨q1, q2⟩ := ieq c1
            obtain ⟨q3, q4⟩ := ieq c2
            obtain ⟨q5, q6⟩ := emp_yes c3
            obtain ⟨q8, q9⟩ := ieq c4
            obtain ⟨qa, qb⟩ := ine (show ¬ (es.length : Int) = 0 by omega)
            clear c1 c2 c3 c4 c5
            go_enter Tryd.func37, Tryd.ntmps37
            go_wp2
            go_ret
            exact ⟨by rw [HE.out]; simp only [qa]; rfl, HB0.out⟩
        · have HE : Hid (zrE (.mk k o s v es) = false) := Lib.hid (by simp [zrE, Ex.k, Ex.o, Ex.s, Ex.v, Ex.es, c4])
          obtain ⟨q1, q2⟩ := ieq c1
          obtain ⟨q3, q4⟩ := ieq c2
          obtain ⟨q5, q6⟩ := emp_yes c3
          obtain ⟨q8, q9⟩ := ine c4
          clear c1 c2 c3 c4
          go_enter Tryd.func37, Tryd.ntmps37
          go_wp2
          go_ret
          exact ⟨by rw [HE.out]; rfl, HB0.out⟩
      · have HE : Hid (zrE (.mk k o s v es) = false) := Lib.hid (by simp [zrE, Ex.k, Ex.o, Ex.s, Ex.v, Ex.es, c3])
        obtain ⟨q1, q2⟩ := ieq c1
        obtain ⟨q3, q4⟩ := ieq c2
        obtain ⟨q5, q6⟩ := emp_no c3
        clear c1 c2 c3
        go_enter Tryd.func37, Tryd.ntmps37
        go_wp2
        go_ret
        exact ⟨by rw [HE.out]; rfl, HB0.out⟩
    · have HE : Hid (zrE (.mk k o s v es) = false) := Lib.hid (by simp [zrE, Ex.k, Ex.o, Ex.s, Ex.v, Ex.es, c2])
      obtain ⟨q1, q2⟩ := ieq c1
      obtain ⟨q3, q4⟩ := ine c2
      clear c1 c2
      go_enter Tryd.func37, Tryd.ntmps37
      go_wp2
      go_ret
      exact ⟨by rw [HE.out]; rfl, HB0.out⟩
  · have HE : Hid (zrE (.mk k o s v es) = false) := Lib.hid (by simp [zrE, Ex.k, Ex.o, Ex.s, Ex.v, Ex.es, c1])
    obtain ⟨q1, q2⟩ := ine c1
    clear c1
    go_enter Tryd.func37, Tryd.ntmps37
    go_wp2
    go_ret
    exact ⟨by rw [HE.out]; rfl, HB0.out⟩

/-- What SameExpr returns. -/
def samB (e f : Ex) : Bool := equE e f || (zrE e && zrE f)
theorem samB_of {e f : Ex} {a b c : Bool} (h1 : equE e f = a) (h2 : zrE e = b) (h3 : zrE f = c) : samB e f = (a || (b && c)) := by unfold samB; rw [h1, h2, h3]
set_option maxRecDepth 100000 in
set_option maxHeartbeats 8000000 in
theorem SameExpr_any (ex ey : Ex) (slx sly : Value) (w : World) (hKx : KX w ex slx) (hKy : KX w ey sly) (hfx : fitE ex) (hfy : fitE ey) :
    Calls Tryd.prog 14 #[exV ex slx, exV ey sly] w fun x w' => x = .returned (.bool (samB ex ey)) ∧ Below w.heap.size w w' := by
  have HB0 : Hid (Below w.heap.size w w) := Lib.hid (Below.refl _ w)
  obtain ⟨ax, cx, _, e1, _, _, _⟩ := KA.inv hKx
  obtain ⟨nx, e2⟩ : ∃ n, ex.es.length = n := ⟨_, rfl⟩
  rw [e2] at e1
  subst e1
  clear e2
  have Xx_0 := Lib.hid hKx
  have HFx := Lib.hid hfx
  obtain ⟨ay, cy, _, e1, _, _, _⟩ := KA.inv hKy
  obtain ⟨ny, e2⟩ : ∃ n, ey.es.length = n := ⟨_, rfl⟩
  rw [e2] at e1
  subst e1
  clear e2
  have Xy_0 := Lib.hid hKy
  have HFy := Lib.hid hfy
  clear hKx hfx hKy hfy
  simp only [exV]
  obtain ⟨q1, h1⟩ : ∃ b, equE ex ey = b := ⟨_, rfl⟩
  obtain ⟨q2, h2⟩ : ∃ b, zrE ex = b := ⟨_, rfl⟩
  obtain ⟨q3, h3⟩ : ∃ b, zrE ey = b := ⟨_, rfl⟩
  have HR := Lib.hid (samB_of h1 h2 h3)
  obtain ⟨w1, hw1⟩ : ∃ W, w.alloc (.cells #[.int .i64 ex.k, .int .i64 ex.o, .string ex.s, .int .i64 ex.v, (.slice ax nx cx)] TX (0, 0)) = W := ⟨_, rfl⟩
  have b1 : Below w.heap.size w w1 := by rw [← hw1]; exact below_allocW w _
  have z1 : AtX w1 w.heap.size 0 ex ((.slice ax nx cx)) := by rw [← hw1]; exact boxX w ex.k ex.o ex.s ex.v _ ex.es
  have HB1 := Lib.hid (HB0.out.trans (b1.mono HB0.out.size))
  have Xx_1 := Lib.hid (KA.carry Xx_0.out b1)
  have Xy_1 := Lib.hid (KA.carry Xy_0.out b1)
  have Zx_1 := Lib.hid z1
  have HW1 := Lib.hid hw1
  clear hw1 b1 z1
  obtain ⟨w2, hw2⟩ : ∃ W, w1.alloc (.cells #[.int .i64 ey.k, .int .i64 ey.o, .string ey.s, .int .i64 ey.v, (.slice ay ny cy)] TX (0, 0)) = W := ⟨_, rfl⟩
  have b2 : Below w1.heap.size w1 w2 := by rw [← hw2]; exact below_allocW w1 _
  have z2 : AtX w2 w1.heap.size 0 ey ((.slice ay ny cy)) := by rw [← hw2]; exact boxX w1 ey.k ey.o ey.s ey.v _ ey.es
  have HB2 := Lib.hid (HB1.out.trans (b2.mono HB1.out.size))
  have Xx_2 := Lib.hid (KA.carry Xx_1.out b2)
  have Xy_2 := Lib.hid (KA.carry Xy_1.out b2)
  have Zx_2 := Lib.hid (AtX.later Zx_1.out b2)
  have Zy_2 := Lib.hid z2
  have HW2 := Lib.hid hw2
  clear hw2 b2 z2
  have hz : w1.heap.size = w.heap.size + 1 := by rw [← HW1.out]; simp
  have ZyN := Zy_2.out
  rw [hz] at ZyN
  have Zy_2b := Lib.hid ZyN
  clear hz ZyN
  go_enter Tryd.func14, Tryd.ntmps14
  have hC3 := rEqual_any ex ey (.slice ax nx cx) (.slice ay ny cy) w2 Xx_2.out Xy_2.out HFx.out HFy.out
  rw [h1] at hC3
  simp only [exV] at hC3
  have HC3 := Lib.hid hC3
  clear hC3
  obtain ⟨qx0, qx1, qx2, qx3, qx4⟩ := Zx_2.out
  simp only [Nat.zero_add] at qx1 qx2 qx3 qx4
  obtain ⟨qy0, qy1, qy2, qy3, qy4⟩ := Zy_2b.out
  simp only [Nat.zero_add] at qy1 qy2 qy3 qy4
  go_wp2_with fail
  rw [HW1.out]
  rw [HW2.out]
  refine HC3.out.mono ?_
  rintro e w3 ⟨rfl, b3⟩
  have HB3 := Lib.hid (HB2.out.trans (b3.mono HB2.out.size))
  have Xx_3 := Lib.hid (KA.carry Xx_2.out b3)
  have Xy_3 := Lib.hid (KA.carry Xy_2.out b3)
  have Zx_3 := Lib.hid (AtX.later Zx_2.out b3)
  have Zy_3 := Lib.hid (AtX.later Zy_2b.out b3)
  clear b3 HC3 qx0 qx1 qx2 qx3 qx4 qy0 qy1 qy2 qy3 qy4
  cases q1 with
  | true =>
    go_wp2
    go_ret
    exact ⟨by rw [HR.out]; rfl, HB3.out⟩
  | false =>
    have hC4 := rzero_any ex (.slice ax nx cx) w3 Xx_3.out
    rw [h2] at hC4
    simp only [exV] at hC4
    have HC4 := Lib.hid hC4
    clear hC4
    obtain ⟨qx0, qx1, qx2, qx3, qx4⟩ := Zx_3.out
    simp only [Nat.zero_add] at qx1 qx2 qx3 qx4
    go_wp2_with fail
    refine HC4.out.mono ?_
    rintro e w4 ⟨rfl, b4⟩
    have HB4 := Lib.hid (HB3.out.trans (b4.mono HB3.out.size))
    have Xx_4 := Lib.hid (KA.carry Xx_3.out b4)
    have Xy_4 := Lib.hid (KA.carry Xy_3.out b4)
    have Zx_4 := Lib.hid (AtX.later Zx_3.out b4)
    have Zy_4 := Lib.hid (AtX.later Zy_3.out b4)
    clear b4 HC4 qx0 qx1 qx2 qx3 qx4
    cases q2 with
    | false =>
      go_wp2
      go_ret
      exact ⟨by rw [HR.out]; rfl, HB4.out⟩
    | true =>
      have hC5 := rzero_any ey (.slice ay ny cy) w4 Xy_4.out
      rw [h3] at hC5
      simp only [exV] at hC5
      have HC5 := Lib.hid hC5
      clear hC5
      obtain ⟨qy0, qy1, qy2, qy3, qy4⟩ := Zy_4.out
      simp only [Nat.zero_add] at qy1 qy2 qy3 qy4
      go_wp2_with fail
      refine HC5.out.mono ?_
      rintro e w5 ⟨rfl, b5⟩
      have HB5 := Lib.hid (HB4.out.trans (b5.mono HB4.out.size))
      have Xx_5 := Lib.hid (KA.carry Xx_4.out b5)
      have Xy_5 := Lib.hid (KA.carry Xy_4.out b5)
      have Zx_5 := Lib.hid (AtX.later Zx_4.out b5)
      have Zy_5 := Lib.hid (AtX.later Zy_4.out b5)
      clear b5 HC5 qy0 qy1 qy2 qy3 qy4
      go_wp2
      go_ret
      exact ⟨by rw [HR.out]; rfl, HB5.out⟩

end Go.Proofs.YtdgphhdkeikbaaaDoor
