/-
  A region that draws its order, where two operations can come up: a way for each.
-/
import Derived.Test.YtdgphhdkeikbaaaDoorHeldTop
namespace Go.Proofs.YtdgphhdkeikbaaaDoor
open Go.RowKit

section
variable {P : Program} {ops : Array Oper} {Q : Exit → Act → World → Prop} {md : Region.Mode} {S : World → Prop}
theorem wpAnyH_fork {i j : Nat} {oi oj : Oper} {fuel : Nat} {listed : Array Bool} {a : Act} {w : World} (hi : ops.toList[i]? = some oi) (hj : ops.toList[j]? = some oj) (hr : Region.ready md ops listed = [i, j])
    (h1 : wpList P ops (nextQ Q fun a' w' => S w' ∧ wpAnyH P md ops Q S fuel (listed.setIfInBounds i true) a' w') [oi] a w)
    (h2 : wpList P ops (nextQ Q fun a' w' => S w' ∧ wpAnyH P md ops Q S fuel (listed.setIfInBounds j true) a' w') [oj] a w) : wpAnyH P md ops Q S (fuel + 1) listed a w :=
  wpAnyH_all hr (by simp) (fun k hk => by
    rcases List.mem_cons.1 hk with rfl | hk
    · exact wpOp_of_list hi h1
    · obtain rfl : k = j := by simpa using hk
      exact wpOp_of_list hj h2)
end
end Go.Proofs.YtdgphhdkeikbaaaDoor
