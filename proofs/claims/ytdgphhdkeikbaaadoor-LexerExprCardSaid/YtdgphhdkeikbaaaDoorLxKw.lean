/-
  The program's Keyword.
-/
import Derived.Test.YtdgphhdkeikbaaaDoorLxMap
namespace Go.Proofs.YtdgphhdkeikbaaaDoor
set_option linter.unusedSimpArgs false
set_option linter.unusedVariables false
open Go.RowKit

theorem kw_yes {s : ByteArray} {l : LBy} (h : (s.toList == l) = true) (hl : kwD.contains l = true) : kwB s = true := by
  rw [beq_iff_eq, ByteArray.toList_eq] at h
  unfold kwB
  rw [h, hl]
set_option maxRecDepth 1000000 in
set_option maxHeartbeats 40000000 in
theorem Keyword_any (s : ByteArray) (w : World) : Calls Tryd.prog 111 #[.string s] w fun x w' => x = .returned (.bool (kwB s)) ∧ w' = w := by
  go_enter Tryd.func111, Tryd.ntmps111
  go_wp2
  all_goals go_ret
  all_goals refine ⟨?_, rfl⟩
  all_goals first
    | (rename_i h1 h2; exact absurd (h1.symm.trans h2) (by decide))
    | (rw [kw_yes (s := s) (by assumption) (by decide)]; rfl)
    | (have hf : kwB s = false := by
        unfold kwB kwD
        rw [← ByteArray.toList_eq]
        simp only [List.contains_cons, List.contains_nil, *]
        try rfl
       rw [hf]; rfl)
end Go.Proofs.YtdgphhdkeikbaaaDoor
