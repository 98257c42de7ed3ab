/-
  The walk of LexerGrouping.
-/
import Derived.Test.YtdgphhdkeikbaaaDoorLxGrpM
import Derived.Test.YtdgphhdkeikbaaaDoorLxFork
import Derived.Test.YtdgphhdkeikbaaaDoorHeldTail
namespace Go.Proofs.YtdgphhdkeikbaaaDoor
set_option linter.unusedSimpArgs false
set_option linter.unusedVariables false
open Go.RowKit

abbrev TOg : TypeId := 60
def opCs : List Value := opsG.flatMap fun x => [.string x.s, .int .i64 x.o, .int .i64 x.p]
theorem opC_at (m : Nat) (h : m < 13) : opCs[m * 3]? = some (.string (gO m).s) ∧ opCs[m * 3 + 1]? = some (.int .i64 (gO m).o) ∧ opCs[m * 3 + 2]? = some (.int .i64 (gO m).p) := by
  rcases (show m = 0 ∨ m = 1 ∨ m = 2 ∨ m = 3 ∨ m = 4 ∨ m = 5 ∨ m = 6 ∨ m = 7 ∨ m = 8 ∨ m = 9 ∨ m = 10 ∨ m = 11 ∨ m = 12 by omega) with rfl | rfl | rfl | rfl | rfl | rfl | rfl | rfl | rfl | rfl | rfl | rfl | rfl <;> exact ⟨rfl, rfl, rfl⟩
theorem gO_s (m : Nat) : (gO m).s.size ≤ 2 := by
  rcases (show m = 0 ∨ m = 1 ∨ m = 2 ∨ m = 3 ∨ m = 4 ∨ m = 5 ∨ m = 6 ∨ m = 7 ∨ m = 8 ∨ m = 9 ∨ m = 10 ∨ m = 11 ∨ m = 12 ∨ 13 ≤ m by omega) with rfl | rfl | rfl | rfl | rfl | rfl | rfl | rfl | rfl | rfl | rfl | rfl | rfl | h <;> first | decide | (unfold gO; rw [List.getElem?_eq_none (show opsG.length ≤ m from h)]; decide)
set_option maxRecDepth 100000 in
theorem operators_any (w : World) : Calls Tryd.prog 29 #[] w fun x w' => x = .returned (.slice (some ⟨w.heap.size, 0, none⟩) 13 13) ∧ w' = w.alloc (.cells opCs.toArray TOg) := by
  go_enter Tryd.func29, Tryd.ntmps29
  go_wp2
  go_ret
  exact ⟨rfl, rfl⟩

end Go.Proofs.YtdgphhdkeikbaaaDoor
