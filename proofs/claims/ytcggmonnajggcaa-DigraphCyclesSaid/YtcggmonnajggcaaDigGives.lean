/-
  What is known of a result of digraph's functions, however it lies in memory: the numbers, the lists, the edges that it leads to.
-/
import Derived.Test.YtcggmonnajggcaaDigShelf
import Derived.Test.YtcggmonnajggcaaSameInts
import Derived.Test.YtcggmonnajggcaaRefCycle
namespace Go.Proofs.Ytcggmonnajggcaa
open Go.RowKit

/-- A slice value that leads to these numbers, lists, edges. -/
def Ints (w : World) (v : Value) (l : List Nat) : Prop := ∃ a c, v = .slice a (intsOf l).length c ∧ IntsA w.heap.size w a (intsOf l) ∧ (intsOf l).length ≤ 9223372036854775807
def listsOf (ll : List (List Nat)) : List (List Int) := ll.map intsOf
theorem listsOf_length (ll : List (List Nat)) : (listsOf ll).length = ll.length := by simp [listsOf]
def Lists (w : World) (v : Value) (ll : List (List Nat)) : Prop := ∃ a c, v = .slice a (listsOf ll).length c ∧ ListsA w.heap.size w a (listsOf ll) ∧ (listsOf ll).length ≤ 9223372036854775807
def Edges (w : World) (v : Value) (l : List (Nat × Nat)) : Prop := ∃ a c, v = .slice a (edgesOf l).length c ∧ EdgesA w.heap.size w a (edgesOf l) ∧ (edgesOf l).length ≤ 9223372036854775807
theorem own_len {w : World} {B s n g cap : Nat} {T : TypeId} {xs : List Value} (h : w.ownsRow B T s (.slice (some ⟨g, 0, none⟩) n cap) n xs) : n ≤ 9223372036854775807 := by
  rcases h.2 with ⟨e, _⟩ | ⟨g', cap', cur, e, _, _, h1, h2, _⟩
  · cases e
  · unfold maxLen at h2
    omega
theorem RowN.known {B : Nat} {l : List Nat} {v : Value} {w : World} (h : RowN B l v w) : Ints w v l := by
  obtain ⟨a, c, e, hi⟩ := h.ints
  refine ⟨a, c, e, hi, ?_⟩
  obtain ⟨g, cap, e2, h⟩ := h
  rw [intsOf_length]
  subst e2
  exact own_len h
theorem RowE.known {B : Nat} {l : List (Nat × Nat)} {v : Value} {w : World} (h : RowE B l v w) : Edges w v l := by
  obtain ⟨a, c, e, hi⟩ := h.edges
  refine ⟨a, c, e, hi, ?_⟩
  obtain ⟨g, cap, e2, h⟩ := h
  rw [edgesOf_length]
  subst e2
  exact own_len h
theorem RowLs.known {B U : Nat} {ll : List (List Nat)} {v : Value} {w : World} (h : RowLs B U ll v w) : Lists w v ll := by
  obtain ⟨g, cap, vs, rfl, hg, ho, hl, hi⟩ := h
  refine ⟨_, cap, by rw [listsOf_length], fun i hil => ?_, by rw [listsOf_length]; exact own_len ho⟩
  rw [listsOf_length] at hil
  obtain ⟨x, hx⟩ : ∃ x, vs[i]? = some x := ⟨_, List.getElem?_eq_getElem (by omega)⟩
  obtain ⟨g', cap', rfl, _, ho'⟩ := hi i x _ hx (List.getElem?_eq_getElem hil)
  have hel : elL (listsOf ll) i = intsOf ll[i] := by simp [elL, listsOf, hil]
  rw [hel]
  have hr : RowN B ll[i] (.slice (some ⟨g', 0, none⟩) ll[i].length cap') w := ⟨g', cap', rfl, ho'⟩
  obtain ⟨a, c, e, hI⟩ := hr.ints
  rw [intsOf_length] at e
  cases e
  refine ⟨g, 0, _, cap', rfl, (World.ownsRow.lt ho g rfl).2, ?_, hI, by rw [intsOf_length]; exact own_len ho'⟩
  rw [Nat.zero_add, World.ownsRow.cellAt ho i (by omega), hx, intsOf_length]
theorem Ints.below {w w' : World} {v : Value} {l : List Nat} (h : Ints w v l) (hb : Below w.heap.size w w') : Ints w' v l := by
  obtain ⟨a, c, e, hi, hl⟩ := h
  exact ⟨a, c, e, (hi.below hb).mono hb.size, hl⟩
theorem Lists.below {w w' : World} {v : Value} {ll : List (List Nat)} (h : Lists w v ll) (hb : Below w.heap.size w w') : Lists w' v ll := by
  obtain ⟨a, c, e, hi, hl⟩ := h
  exact ⟨a, c, e, (hi.below hb).mono hb.size, hl⟩
theorem Edges.below {w w' : World} {v : Value} {l : List (Nat × Nat)} (h : Edges w v l) (hb : Below w.heap.size w w') : Edges w' v l := by
  obtain ⟨a, c, e, hi, hl⟩ := h
  exact ⟨a, c, e, (hi.below hb).mono hb.size, hl⟩
/-- A call that returns numbers, lists; numbers and an error, edges and an error. -/
def RetI (l : List Nat) (w : World) (e : Ending) (w' : World) : Prop := ∃ v, e = .returned v ∧ Ints w' v l ∧ Below w.heap.size w w'
def RetL (ll : List (List Nat)) (w : World) (e : Ending) (w' : World) : Prop := ∃ v, e = .returned v ∧ Lists w' v ll ∧ Below w.heap.size w w'
def RetIE (l : List Nat) (x : Int) (w : World) (e : Ending) (w' : World) : Prop := ∃ v, e = .returned (.tuple #[v, .int .i64 x]) ∧ Ints w' v l ∧ Below w.heap.size w w'
def RetEE (l : List (Nat × Nat)) (x : Int) (w : World) (e : Ending) (w' : World) : Prop := ∃ v, e = .returned (.tuple #[v, .int .i64 x]) ∧ Edges w' v l ∧ Below w.heap.size w w'
theorem Gives.ret {l : List Nat} {x : Int} {w : World} {e : Ending} {w' : World} (h : Gives l x w e w') : RetIE l x w e w' := by
  obtain ⟨v, e, hr, hb⟩ := h
  exact ⟨v, e, hr.known, hb⟩
theorem GivesL.ret {ll : List (List Nat)} {w : World} {e : Ending} {w' : World} (h : GivesL ll w e w') : RetL ll w e w' := by
  obtain ⟨v, e, hr, hb⟩ := h
  exact ⟨v, e, hr.known, hb⟩
theorem GivesE.ret {l : List (Nat × Nat)} {x : Int} {w : World} {e : Ending} {w' : World} (h : GivesE l x w e w') : RetEE l x w e w' := by
  obtain ⟨v, e, hr, hb⟩ := h
  exact ⟨v, e, hr.known, hb⟩

end Go.Proofs.Ytcggmonnajggcaa
