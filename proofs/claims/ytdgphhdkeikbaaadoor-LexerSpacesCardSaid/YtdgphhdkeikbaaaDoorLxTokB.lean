/-
  Tokens of known results; a variable of type Token.
-/
import Derived.Test.YtdgphhdkeikbaaaDoorLxAwake
import Derived.Test.YtdgphhdkeikbaaaDoorLxErrM
namespace Go.Proofs.YtdgphhdkeikbaaaDoor
set_option linter.unusedSimpArgs false
set_option linter.unusedVariables false
open Go.RowKit

/-- Tokens, of known results; the slice's length is that of the list. -/
theorem tokB (s : ByteArray) (ts : List Tk) (i : Nat) (q : Int) (w : World) (hs : s.size ≤ 9223372036854775807) (hv : LxV w) (h : lexT s = (ts, i, q)) :
    Calls Tryd.prog 17 #[.string s] w fun x w' => ∃ a c, x = .returned (.tuple #[.slice a ts.length c, .int .i64 (i : Int), .int .i64 q]) ∧ (TkA anyB w' a ts ∧ TkO anyB w' a ts) ∧ Below w.heap.size w w' := by
  have := Tokens_any s w hs hv
  rw [h] at this
  refine this.mono ?_
  rintro x w' ⟨v, rfl, ⟨a, c, rfl, _, _, h3, h4⟩, hb⟩
  exact ⟨a, c, rfl, ⟨h3.keep (Nat.le_refl _) (fun _ _ _ => ⟨trivial, rfl⟩), h4.keep (Nat.le_refl _) (fun _ _ _ => ⟨trivial, rfl⟩)⟩, hb⟩
theorem tkB_below {w w' : World} {a : Option Addr} {ts : List Tk} (h : TkA anyB w a ts ∧ TkO anyB w a ts) (hb : Below w.heap.size w w') : TkA anyB w' a ts ∧ TkO anyB w' a ts := ⟨h.1.below hb, h.2.below hb⟩
/-- A variable of type Token, behind its store. -/
theorem varK (w : World) (t : Tk) (W : World) (hW : w.alloc (.cells #[.int .i64 0, .string ⟨#[]⟩, .int .i64 0, .int .i64 0] TTk) = W) :
    W.heap[w.heap.size]? = some (.cells #[.int .i64 0, .string ⟨#[]⟩, .int .i64 0, .int .i64 0] TTk (0, 0)) ∧ ∀ X, W.setRow w.heap.size #[.int .i64 t.k, .string t.t, .int .i64 t.v, .int .i64 (t.a : Int)] = X → Below w.heap.size w X ∧ X.heap[w.heap.size]? = some (.cells #[.int .i64 t.k, .string t.t, .int .i64 t.v, .int .i64 (t.a : Int)] TTk (0, 0)) := by
  have h1 : W.heap[w.heap.size]? = some (.cells #[.int .i64 0, .string ⟨#[]⟩, .int .i64 0, .int .i64 0] TTk (0, 0)) := by rw [← hW]; exact heapNew w _
  have hb : Below w.heap.size w W := by rw [← hW]; exact (Below.refl _ w).alloc (Nat.le_refl _) _
  exact ⟨h1, fun X hX => ⟨by rw [← hX]; exact below_setRow hb (Nat.le_refl _) _, by rw [← hX]; exact setRow_heap _ _ _ _ _ _ h1⟩⟩
end Go.Proofs.YtdgphhdkeikbaaaDoor
