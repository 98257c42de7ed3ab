/-
  Small facts: blocks that were made one behind the other.
-/
import Derived.RangeFuncRecord
import Derived.Test.YtdgphhdkeikbaaaDoorExBase
namespace Go.Proofs.YtdgphhdkeikbaaaDoor
set_option linter.unusedSimpArgs false
set_option linter.unusedVariables false
open Go.RowKit

theorem twoBlocks (w : World) (o p : Obj) : ((w.alloc o).alloc p).heap[w.heap.size]? = some o ∧ ((w.alloc o).alloc p).heap[w.heap.size + 1]? = some p ∧ Below w.heap.size w ((w.alloc o).alloc p) := by
  refine ⟨?_, ?_, ?_⟩
  · rw [Below.heap_alloc _ _ _ (by simp)]; exact World.alloc_heap_new w o
  · have := World.alloc_heap_new (w.alloc o) p
    simpa using this
  · exact ((Below.refl _ w).alloc (Nat.le_refl _) _).alloc (by simp) _
theorem threeBlocks (w : World) (o p q : Obj) : (((w.alloc o).alloc p).alloc q).heap[w.heap.size]? = some o ∧ (((w.alloc o).alloc p).alloc q).heap[w.heap.size + 1]? = some p ∧ (((w.alloc o).alloc p).alloc q).heap[w.heap.size + 1 + 1]? = some q ∧ Below w.heap.size w (((w.alloc o).alloc p).alloc q) := by
  refine ⟨?_, ?_, ?_, ?_⟩
  · rw [Below.heap_alloc _ _ _ (by simp; omega), Below.heap_alloc _ _ _ (by simp)]; exact World.alloc_heap_new w o
  · have := World.alloc_heap_new (w.alloc o) p
    rw [Below.heap_alloc _ _ _ (by simp)]
    simpa using this
  · have := World.alloc_heap_new ((w.alloc o).alloc p) q
    simpa using this
  · exact (((Below.refl _ w).alloc (Nat.le_refl _) _).alloc (by simp) _).alloc (by simp; omega) _
theorem KA.nil0 (φ : Nat → Prop) (w : World) : KA φ w [] (.slice none 0 0) := .mk [] none 0 (fun _ => .slice none 0 0) (Nat.le_refl _) (by decide) (fun j h => by simp at h) (fun j h => by simp at h)
/-- A block that holds one expression, known. -/
theorem one_known {φ : Nat → Prop} {w : World} {b : Nat} (e : Ex) (sl : Value) (hb : w.heap[b]? = some (.cells #[.int .i64 e.k, .int .i64 e.o, .string e.s, .int .i64 e.v, sl] TX (0, 0))) (hk : KA φ w e.es sl) (hp : φ b) : KA φ w [e] (.slice (some ⟨b, 0, none⟩) 1 1) :=
  .mk [e] (some ⟨b, 0, none⟩) 1 (fun _ => sl) (Nat.le_refl _) (by decide) (fun j hj => by
    obtain rfl : j = 0 := by simpa using hj
    refine ⟨b, 0, rfl, hp, (Array.getElem?_eq_some_iff.1 hb).1, ?_⟩
    refine ⟨?_, ?_, ?_, ?_, ?_⟩ <;> simp [World.cell?, hb, ga]) (fun j hj => by
    obtain rfl : j = 0 := by simpa using hj
    exact hk)
theorem below_allocW (W : World) (o : Obj) : Below W.heap.size W (W.alloc o) := (Below.refl _ W).alloc (Nat.le_refl _) _

end Go.Proofs.YtdgphhdkeikbaaaDoor
