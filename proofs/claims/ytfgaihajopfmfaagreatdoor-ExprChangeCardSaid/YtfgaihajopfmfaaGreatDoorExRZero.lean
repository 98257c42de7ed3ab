/-
  What the reference's Zero returns.
-/
import Derived.Test.YtfgaihajopfmfaaGreatDoorExRefA
namespace Go.Proofs.YtfgaihajopfmfaaGreatDoor
set_option linter.unusedSimpArgs false
set_option linter.unusedVariables false
open Go.RowKit

/-- Whether it is the zero expression. -/
def zrE (e : Ex) : Bool := decide (e.k = 0) && decide (e.o = 0) && decide (e.s = .empty) && decide (e.v = 0) && decide (e.es.length = 0)
theorem rZero_any (e : Ex) (sl : Value) (w : World) (hK : KX w e sl) :
    Calls Tryz.prog 60 #[exV e sl] w fun x w' => x = .returned (.bool (zrE e)) ∧ Below w.heap.size w w' := by
  obtain ⟨k, o, s, v, es⟩ := e
  obtain ⟨a, c, sf, rfl, h1, h2, hc⟩ := KA.inv hK
  have h1 : es.length ≤ c := h1
  have hb0 : Below w.heap.size w (w.alloc (.cells #[.int .i64 k, .int .i64 o, .string s, .int .i64 v, .slice a es.length c] TX)) := (Below.refl _ w).alloc (Nat.le_refl _) _
  have HB0 := Lib.hid hb0
  simp only [exV, Ex.k, Ex.o, Ex.s, Ex.v, Ex.es] at *
  clear hc hK hb0
  by_cases c1 : k = 0
  · by_cases c2 : o = 0
    · by_cases c3 : s = .empty
      · by_cases c4 : v = 0
        · by_cases c5 : es.length = 0
          · have HE : Hid (zrE (.mk k o s v es) = true) := Lib.hid (by simp [zrE, Ex.k, Ex.o, Ex.s, Ex.v, Ex.es, c1, c2, c3, c4, c5])
            obtain ⟨q1, q2⟩ := ieq c1
            obtain ⟨q3, q4⟩ := ieq c2
            obtain ⟨q5, q6⟩ := emp_yes c3
            obtain ⟨q8, q9⟩ := ieq c4
            obtain ⟨qa, qb⟩ := ieq (show (es.length : Int) = 0 by omega)
            clear c1 c2 c3 c4 c5
            go_enter Tryz.func60, Tryz.ntmps60
            go_wp2
            go_ret
            exact ⟨by rw [HE.out]; simp only [qa]; rfl, HB0.out⟩
          · have HE : Hid (zrE (.mk k o s v es) = false) := Lib.hid (by simp [zrE, Ex.k, Ex.o, Ex.s, Ex.v, Ex.es, show ¬ es = [] from fun h => c5 (by rw [h]; rfl)])
            obtain ⟨q1, q2⟩ := ieq c1
            obtain ⟨q3, q4⟩ := ieq c2
            obtain ⟨q5, q6⟩ := emp_yes c3
            obtain ⟨q8, q9⟩ := ieq c4
            obtain ⟨qa, qb⟩ := ine (show ¬ (es.length : Int) = 0 by omega)
            clear c1 c2 c3 c4 c5
            go_enter Tryz.func60, Tryz.ntmps60
            go_wp2
            go_ret
            exact ⟨by rw [HE.out]; simp only [qa]; rfl, HB0.out⟩
        · have HE : Hid (zrE (.mk k o s v es) = false) := Lib.hid (by simp [zrE, Ex.k, Ex.o, Ex.s, Ex.v, Ex.es, c4])
          obtain ⟨q1, q2⟩ := ieq c1
          obtain ⟨q3, q4⟩ := ieq c2
          obtain ⟨q5, q6⟩ := emp_yes c3
          obtain ⟨q8, q9⟩ := ine c4
          clear c1 c2 c3 c4
          go_enter Tryz.func60, Tryz.ntmps60
          go_wp2
          go_ret
          exact ⟨by rw [HE.out]; rfl, HB0.out⟩
      · have HE : Hid (zrE (.mk k o s v es) = false) := Lib.hid (by simp [zrE, Ex.k, Ex.o, Ex.s, Ex.v, Ex.es, c3])
        obtain ⟨q1, q2⟩ := ieq c1
        obtain ⟨q3, q4⟩ := ieq c2
        obtain ⟨q5, q6⟩ := emp_no c3
        clear c1 c2 c3
        go_enter Tryz.func60, Tryz.ntmps60
        go_wp2
        go_ret
        exact ⟨by rw [HE.out]; rfl, HB0.out⟩
    · have HE : Hid (zrE (.mk k o s v es) = false) := Lib.hid (by simp [zrE, Ex.k, Ex.o, Ex.s, Ex.v, Ex.es, c2])
      obtain ⟨q1, q2⟩ := ieq c1
      obtain ⟨q3, q4⟩ := ine c2
      clear c1 c2
      go_enter Tryz.func60, Tryz.ntmps60
      go_wp2
      go_ret
      exact ⟨by rw [HE.out]; rfl, HB0.out⟩
  · have HE : Hid (zrE (.mk k o s v es) = false) := Lib.hid (by simp [zrE, Ex.k, Ex.o, Ex.s, Ex.v, Ex.es, c1])
    obtain ⟨q1, q2⟩ := ine c1
    clear c1
    go_enter Tryz.func60, Tryz.ntmps60
    go_wp2
    go_ret
    exact ⟨by rw [HE.out]; rfl, HB0.out⟩

end Go.Proofs.YtfgaihajopfmfaaGreatDoor
