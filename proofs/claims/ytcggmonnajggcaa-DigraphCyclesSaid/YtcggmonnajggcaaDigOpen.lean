/-
  A parameter of digraph's statements that is a slice of edges, opened to its cells.
-/
import Derived.Deep.SlicePairs
import Derived.ChangeSame
import Derived.Test.YtcggmonnajggcaaGraph
namespace Go.Proofs.Ytcggmonnajggcaa
open Go.ChangeShapes Go.WideShapes Go.Deep

def intIn : Value → Int
  | .int _ n => n
  | _ => 0
/-- What is known of such a slice value. -/
def IsEdges (w : World) (a : Option Addr) (len : Nat) (es : List (Int × Int)) : Prop :=
  es.length = len ∧ len ≤ 9223372036854775807 ∧ EdgesA w.heap.size w a es ∧ ∀ e ∈ es, (-9223372036854775808 ≤ e.1 ∧ e.1 ≤ 9223372036854775807) ∧ (-9223372036854775808 ≤ e.2 ∧ e.2 ≤ 9223372036854775807)
theorem open_edges {H : Type} {enc : TypeId × Value → H} {w : World} {spare : Nat → Bool} {held : Bool} {a : Option Addr} {len cap fuel : Nat} {x : DataW H × List MemPlace}
    (h : DataW.trod enc Try.prog w 0 spare held fuel 22 (Value.slice a len cap).cells.toList = some x) : ∃ es, IsEdges w a len es ∧ len ≤ cap := by
  rcases open_slice_pairs Try.underlying22 Try.underlying40 (by kernel_rfl) rfl rfl (by kernel_rfl) (by kernel_rfl) h with ⟨hcs, _⟩ | ⟨b, l, c, m, n, V0, V1, D0, D1, P0, P1, hcs, _, hl, hc, hm, _, hi⟩
  · simp [Value.cells] at hcs
    obtain ⟨rfl, rfl, rfl⟩ := hcs
    exact ⟨[], ⟨rfl, by omega, fun j hj => by simp at hj, fun e he => by simp at he⟩, by omega⟩
  · simp [Value.cells] at hcs
    obtain ⟨rfl, rfl, rfl⟩ := hcs
    have hlm : len ≤ m := by rw [hm]; split <;> omega
    have key : ∀ i, i < len → V0 i = .int .i64 (intIn (V0 i)) ∧ V1 i = .int .i64 (intIn (V1 i)) ∧ (Lit.int .i64 (intIn (V0 i))).wf = true ∧ (Lit.int .i64 (intIn (V1 i))).wf = true := by
      intro i hil
      obtain ⟨_, _, t0, t1⟩ := hi i (by omega)
      obtain ⟨n0, e0, _, f0⟩ := DataW.trod_int Try.underlying3 t0
      obtain ⟨n1, e1, _, f1⟩ := DataW.trod_int Try.underlying3 t1
      simp at e0 e1
      rw [e0, e1]
      exact ⟨rfl, rfl, f0, f1⟩
    refine ⟨(List.range len).map fun i => (intIn (V0 i), intIn (V1 i)), ⟨by simp, by unfold maxLen at hc; omega, fun j hj => ?_, fun e he => ?_⟩, hl⟩
    · simp at hj
      obtain ⟨h1, h2, _, _⟩ := hi j (by omega)
      obtain ⟨k1, k2, _, _⟩ := key j hj
      obtain ⟨bb, off, spot⟩ := b
      have hspot : spot = none := by simpa [Addr.add] using World.cell?_spot (hi 0 (by omega)).1
      subst hspot
      rw [Go.WideShapes.add_plain] at h1
      have h2' : w.cell? ⟨bb, off + (j * 2 + 1), none⟩ = some (V1 j) := by rw [← Go.WideShapes.add_plain]; exact h2
      refine ⟨bb, off, rfl, World.block_lt_of_cell? _ _ h1, ?_, ?_⟩
      · rw [h1, k1]
        simp [hj, intIn]
      · rw [Nat.add_assoc, h2', k2]
        simp [hj, intIn]
    · simp at he
      obtain ⟨i, hil, rfl⟩ := he
      obtain ⟨_, _, f0, f1⟩ := key i hil
      simp [Lit.wf] at f0 f1
      exact ⟨f0, f1⟩

end Go.Proofs.Ytcggmonnajggcaa
