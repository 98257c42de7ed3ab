/-
  What codec's Int returns, for every argument; the encoding of texts.
-/
import Derived.Test.YtpkmdonejmbnoaaWriteInt
import Derived.Deep.LoopGhost
namespace Go.Proofs.Ytpkmdonejmbnoaa
open Go.RowKit

def strOf (l : List UInt8) : ByteArray := ⟨l.toArray⟩
theorem strOf_toList (l : List UInt8) : (strOf l).data.toList = l := by simp [strOf]
theorem strOf_size (l : List UInt8) : (strOf l).size = l.length := by simp [strOf, ByteArray.size]

theorem writeB (B b : Nat) (l : List UInt8) (c : Int) (c8 : UInt8) (hc : (c8.toNat : Int) = c) (w : World) (h : Bld none B b (Lib.byteCells l) w) (hlen : l.length + 1 ≤ 140737488355328) :
    Calls Try.prog 63 #[.pointer (some ⟨b, 0, none⟩), .int .u8 c] w fun e w' => e = .returned .nilIface ∧ Bld none B b (Lib.byteCells (l ++ [c8])) w' ∧ Below B w w' := by
  subst hc
  refine (writeByte none B b _ _ w h (by simp) (by rw [Lib.byteCells_length]; exact hlen)).mono ?_
  rintro e w' ⟨rfl, h1, h2⟩
  refine ⟨rfl, ?_, h2.below⟩
  rw [Lib.byteCells_append]
  exact h1
theorem readOut (B b : Nat) (l : List UInt8) (w : World) (h : Bld none B b (Lib.byteCells l) w) :
    Calls Try.prog 64 #[.pointer (some ⟨b, 0, none⟩)] w fun e w' => e = .returned (.string (strOf l)) ∧ Below B w w' := by
  refine (Try.Builder_String_any_f B b l w h.isF (by have := h.lt; omega)).mono ?_
  rintro e w' ⟨rfl, _, h2⟩
  exact ⟨rfl, h2⟩

/-! ### Int -/

def intL (n : Int) : List UInt8 := if InR n then encInt n else []
def intE (n : Int) : Int := if InR n then 0 else 2

/-! ### Text -/

def escText (t : List UInt8) : List UInt8 := t.flatMap fun c => if c = 0 then [0, 255] else [c]
def encText (t : List UInt8) : List UInt8 := escText t ++ [0, 1]
def textL (t : List UInt8) : List UInt8 := if t.length ≤ 100000 then encText t else []
def textE (t : List UInt8) : Int := if t.length ≤ 100000 then 0 else 4
theorem escText_length (t : List UInt8) : (escText t).length ≤ 2 * t.length := by
  induction t with
  | nil => simp [escText]
  | cons c r ih =>
    have e : escText (c :: r) = (if c = 0 then [0, 255] else [c]) ++ escText r := by simp [escText]
    rw [e, List.length_append, List.length_cons]
    have : (if c = 0 then [0, 255] else [c]).length ≤ 2 := by split <;> simp
    omega
theorem escText_snoc (t : List UInt8) (c : UInt8) : escText (t ++ [c]) = escText t ++ if c = 0 then [0, 255] else [c] := by simp [escText]
theorem take_snoc (s : ByteArray) (k : Nat) (h : k < s.size) : s.data.toList.take (k + 1) = s.data.toList.take k ++ [s[k]] := by
  rw [List.take_succ_eq_append_getElem (by simpa using h)]; rfl

end Go.Proofs.Ytpkmdonejmbnoaa
