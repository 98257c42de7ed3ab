/-
  What the plain functions give at the example's graph (no program in it).
-/
import Derived.Test.YtcggmonnajggcaaRefCycle
namespace Go.Proofs.Ytcggmonnajggcaa

def loopE : List (Int × Int) := [(0, 1), (1, 2), (2, 0), (2, 3)]
def openE : List (Int × Int) := [(0, 1), (1, 2), (2, 3)]
theorem loop_chk : chkE 4 loopE = 0 := by decide +kernel
theorem open_chk : chkE 4 openE = 0 := by decide +kernel
theorem loop_cyc : cycK 4 (gN loopE) 4 = [0, 1, 2] := by decide +kernel
theorem loop_cycL : cycL 4 loopE = [0, 1, 2] := by
  unfold cycL
  rw [if_pos loop_chk]
  exact loop_cyc
theorem loop_cycE : cycE 4 loopE = 0 := by
  unfold cycE
  rw [if_pos loop_chk]
  show (if (cycK 4 (gN loopE) 4).length = 0 then (7 : Int) else 0) = 0
  rw [loop_cyc]
  rfl
theorem open_order : orderFrom 4 (gN openE) [] = some [0, 1, 2, 3] := by
  rw [orderFrom_some (by decide) (i := 0) (by decide +kernel), orderFrom_some (by decide) (i := 1) (by decide +kernel), orderFrom_some (by decide) (i := 2) (by decide +kernel), orderFrom_some (by decide) (i := 3) (by decide +kernel), orderFrom_full (by decide)]
  rfl
theorem open_ordL : ordL 4 openE = [0, 1, 2, 3] := by
  unfold ordL
  rw [if_pos open_chk]
  show (orderFrom 4 (gN openE) []).getD [] = _
  rw [open_order]
  rfl
theorem open_ordE : ordE 4 openE = 0 := by
  unfold ordE
  rw [if_pos open_chk]
  show errO (orderFrom 4 (gN openE) []) = _
  rw [open_order]
  rfl
theorem open_rankL : rankL 4 openE = [0, 1, 2, 3] := by
  unfold rankL
  rw [if_pos open_ordE, open_ordL]
  decide +kernel
theorem loop_reach (s : Nat) (m : List Bool) (h : MarkInv 4 (gN loopE) s m) (hc : ClosedB (gN loopE) m) : reachB 4 (gN loopE) s = m := (h.eq hc).symm
theorem loop_reachL : reachL 4 loopE 3 = [3] := by
  unfold reachL
  rw [if_pos ⟨loop_chk, by decide, by decide⟩]
  show markedL (reachB 4 (gN loopE) 3) = [3]
  rw [loop_reach 3 [false, false, false, true] (MarkInv.start (N := 4) (by decide)) (by unfold ClosedB; decide +kernel)]
  rfl

theorem loop_reach0 : reachB 4 (gN loopE) 0 = [true, true, true, true] :=
  loop_reach 0 _ ((((MarkInv.start (N := 4) (s := 0) (by decide)).set (u := 0) (v := 1) (by decide +kernel) rfl (by decide)).set (u := 1) (v := 2) (by decide +kernel) rfl (by decide)).set (u := 2) (v := 3) (by decide +kernel) rfl (by decide)) (by unfold ClosedB; decide +kernel)
theorem loop_reach1 : reachB 4 (gN loopE) 1 = [true, true, true, true] :=
  loop_reach 1 _ ((((MarkInv.start (N := 4) (s := 1) (by decide)).set (u := 1) (v := 2) (by decide +kernel) rfl (by decide)).set (u := 2) (v := 0) (by decide +kernel) rfl (by decide)).set (u := 2) (v := 3) (by decide +kernel) rfl (by decide)) (by unfold ClosedB; decide +kernel)
theorem loop_reach2 : reachB 4 (gN loopE) 2 = [true, true, true, true] :=
  loop_reach 2 _ ((((MarkInv.start (N := 4) (s := 2) (by decide)).set (u := 2) (v := 0) (by decide +kernel) rfl (by decide)).set (u := 2) (v := 3) (by decide +kernel) rfl (by decide)).set (u := 0) (v := 1) (by decide +kernel) rfl (by decide)) (by unfold ClosedB; decide +kernel)
theorem loop_reach3 : reachB 4 (gN loopE) 3 = [false, false, false, true] :=
  loop_reach 3 _ (MarkInv.start (N := 4) (s := 3) (by decide)) (by unfold ClosedB; decide +kernel)
/-- The table of what the plain function finds. -/
def loopT (i : Nat) : List Bool := if i < 3 then [true, true, true, true] else [false, false, false, true]
theorem loop_row (i : Nat) (hi : i < 4) : reachB 4 (gN loopE) i = loopT i := by
  match i, hi with
  | 0, _ => exact loop_reach0
  | 1, _ => exact loop_reach1
  | 2, _ => exact loop_reach2
  | 3, _ => exact loop_reach3
theorem loop_mut (i k : Nat) (hi : i < 4) (hk : k < 4) (x y : Bool) (hx : (loopT i)[k]? = some x) (hy : (loopT k)[i]? = some y) : mutB (gN loopE) i k = (x && y) :=
  mutB_reach hi hk (by rw [loop_row i hi]; exact hx) (by rw [loop_row k hk]; exact hy)
theorem loop_comps : compsK 4 (gN loopE) 4 = [[0, 1, 2], [3]] := by
  have m (i k : Nat) (hi : i < 4) (hk : k < 4) (x y : Bool) (hx : (loopT i)[k]? = some x) (hy : (loopT k)[i]? = some y) := loop_mut i k hi hk x y hx hy
  have m00 := m 0 0 (by decide) (by decide) true true rfl rfl
  have m01 := m 0 1 (by decide) (by decide) true true rfl rfl
  have m02 := m 0 2 (by decide) (by decide) true true rfl rfl
  have m03 := m 0 3 (by decide) (by decide) true false rfl rfl
  have m13 := m 1 3 (by decide) (by decide) true false rfl rfl
  have m23 := m 2 3 (by decide) (by decide) true false rfl rfl
  have m33 := m 3 3 (by decide) (by decide) true true rfl rfl
  have r4 : List.range 4 = [0, 1, 2, 3] := rfl
  have d0 : doneB (gN loopE) 0 0 = false := rfl
  have d1 : doneB (gN loopE) 1 1 = true := by
    unfold doneB
    rw [show List.range 1 = [0] from rfl, List.any_cons, m01]
    rfl
  have d2 : doneB (gN loopE) 2 2 = true := by
    unfold doneB
    rw [show List.range 2 = [0, 1] from rfl, List.any_cons, m02]
    rfl
  have d3 : doneB (gN loopE) 3 3 = false := by
    unfold doneB
    rw [show List.range 3 = [0, 1, 2] from rfl, List.any_cons, List.any_cons, List.any_cons, m03, m13, m23]
    rfl
  have c0 : clsK (gN loopE) 0 4 = [0, 1, 2] := by
    unfold clsK
    rw [r4]
    simp [m00, m01, m02, m03]
  have c3 : clsK (gN loopE) 3 4 = [3] := by
    unfold clsK
    rw [r4]
    simp [m33]
  unfold compsK
  rw [r4]
  simp [d0, d1, d2, d3, c0, c3]
theorem loop_compL : compL 4 loopE = [[0, 1, 2], [3]] := by
  unfold compL
  rw [if_pos loop_chk]
  exact loop_comps

end Go.Proofs.Ytcggmonnajggcaa
