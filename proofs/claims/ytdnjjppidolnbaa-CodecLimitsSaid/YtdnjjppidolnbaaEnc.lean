/-
  What codec's Int, Text and List return, for every argument.
-/
import Derived.Test.YtdnjjppidolnbaaWriteInt
import Derived.Deep.LoopGhost
namespace Go.Proofs.Ytdnjjppidolnbaa
open Go.RowKit

def strOf (l : List UInt8) : ByteArray := ⟨l.toArray⟩
theorem strOf_toList (l : List UInt8) : (strOf l).data.toList = l := by simp [strOf]
theorem strOf_size (l : List UInt8) : (strOf l).size = l.length := by simp [strOf, ByteArray.size]

theorem writeB (B b : Nat) (l : List UInt8) (c : Int) (c8 : UInt8) (hc : (c8.toNat : Int) = c) (w : World) (h : Bld none B b (Lib.byteCells l) w) (hlen : l.length + 1 ≤ 140737488355328) :
    Calls Try.prog 39 #[.pointer (some ⟨b, 0, none⟩), .int .u8 c] w fun e w' => e = .returned .nilIface ∧ Bld none B b (Lib.byteCells (l ++ [c8])) w' ∧ Below B w w' := by
  subst hc
  refine (writeByte none B b _ _ w h (by simp) (by rw [Lib.byteCells_length]; exact hlen)).mono ?_
  rintro e w' ⟨rfl, h1, h2⟩
  refine ⟨rfl, ?_, h2.below⟩
  rw [Lib.byteCells_append]
  exact h1
theorem readOut (B b : Nat) (l : List UInt8) (w : World) (h : Bld none B b (Lib.byteCells l) w) :
    Calls Try.prog 35 #[.pointer (some ⟨b, 0, none⟩)] w fun e w' => e = .returned (.string (strOf l)) ∧ Below B w w' := by
  refine (Try.Builder_String_any_f B b l w h.isF (by have := h.lt; omega)).mono ?_
  rintro e w' ⟨rfl, _, h2⟩
  exact ⟨rfl, h2⟩

/-! ### Int -/

def intL (n : Int) : List UInt8 := if InR n then encInt n else []
def intE (n : Int) : Int := if InR n then 0 else 2

set_option maxHeartbeats 1000000 in
theorem int_any (n : Int) (w : World) :
    Calls Try.prog 11 #[.int .i64 n] w fun e w' => e = .returned (.tuple #[.string (strOf (intL n)), .int .i64 (intE n)]) ∧ Below w.heap.size w w' := by
  by_cases hn : InR n
  · have hd : decide (InR n) = true := by simp [hn]
    unfold intL intE
    rw [if_pos hn, if_pos hn]
    have HN := Lib.hid hn
    clear hn
    go_enter Try.func11, Try.ntmps11
    go_wp2_with (go_at_call 33; refine (inRange_any n _).mono ?_; rintro e w' ⟨rfl, rfl⟩)
    refine (writeInt_any w.heap.size w.heap.size [] n _ (Bld.fresh w) HN.out (by simp)).mono ?_
    rintro e w1 ⟨rfl, hB, hb⟩
    go_wp2_with fail
    refine (readOut w.heap.size w.heap.size (encInt n) _ (by simpa using hB)).mono ?_
    rintro e w2 ⟨rfl, hb2⟩
    go_wp2
    go_ret2
    exact ⟨rfl, (((Below.refl _ w).alloc (Nat.le_refl _) _).trans hb).trans hb2⟩
  · have hd : decide (InR n) = false := by simp [hn]
    unfold intL intE
    rw [if_neg hn, if_neg hn]
    clear hn
    go_enter Try.func11, Try.ntmps11
    go_wp2_with (go_at_call 33; refine (inRange_any n _).mono ?_; rintro e w' ⟨rfl, rfl⟩)
    go_ret2
    exact ⟨rfl, Below.refl _ _⟩

/-! ### Text -/

def escText (t : List UInt8) : List UInt8 := t.flatMap fun c => if c = 0 then [0, 255] else [c]
def encText (t : List UInt8) : List UInt8 := escText t ++ [0, 1]
def textL (t : List UInt8) : List UInt8 := if t.length ≤ 100000 then encText t else []
def textE (t : List UInt8) : Int := if t.length ≤ 100000 then 0 else 4
theorem escText_length (t : List UInt8) : (escText t).length ≤ 2 * t.length := by
  induction t with
  | nil => simp [escText]
  | cons c r ih =>
    have e : escText (c :: r) = (if c = 0 then [0, 255] else [c]) ++ escText r := by simp [escText]
    rw [e, List.length_append, List.length_cons]
    have : (if c = 0 then [0, 255] else [c]).length ≤ 2 := by split <;> simp
    omega
theorem escText_snoc (t : List UInt8) (c : UInt8) : escText (t ++ [c]) = escText t ++ if c = 0 then [0, 255] else [c] := by simp [escText]
theorem take_snoc (s : ByteArray) (k : Nat) (h : k < s.size) : s.data.toList.take (k + 1) = s.data.toList.take k ++ [s[k]] := by
  rw [List.take_succ_eq_append_getElem (by simpa using h)]; rfl

set_option maxHeartbeats 1000000 in
theorem text_any (s : ByteArray) (w : World) (hs : s.size ≤ maxLen) :
    Calls Try.prog 16 #[.string s] w fun e w' => e = .returned (.tuple #[.string (strOf (textL s.data.toList)), .int .i64 (textE s.data.toList)]) ∧ Below w.heap.size w w' := by
  unfold maxLen at hs
  by_cases hl : s.size ≤ 100000
  · have hl' : s.data.toList.length ≤ 100000 := by simpa using hl
    unfold textL textE
    rw [if_pos hl', if_pos hl']
    clear hl'
    go_enter Try.func16, Try.ntmps16
    go_wp2
    go_loopw [11] (fun i wr => ∃ k : Nat, k ≤ s.size ∧ i = .int .i64 k ∧ Bld none w.heap.size w.heap.size (Lib.byteCells (escText (s.data.toList.take k))) wr ∧ Below w.heap.size w wr) (fun i _ => s.size - (intOf i).toNat)
    case atStart => exact ⟨0, Nat.zero_le _, rfl, by simpa [escText, Lib.byteCells] using Bld.fresh w, (Below.refl _ w).alloc (Nat.le_refl _) _⟩
    case round =>
      obtain ⟨k, hk, rfl, hB, hb⟩ := hrel
      have hel := escText_length (s.data.toList.take k)
      have htl : (s.data.toList.take k).length ≤ k := List.length_take_le _ _
      by_cases hlt : k < s.size
      · have HS := Lib.hid (take_snoc s k hlt)
        by_cases hc : s[k] = 0
        · have hcb : ((s[k].toNat : Int) == 0) = true := by simp [hc]
          have HC := Lib.hid hc
          clear hc
          go_wp2_with fail
          refine (writeB w.heap.size w.heap.size _ _ s[k] rfl _ hB (by omega)).mono ?_
          rintro e w1 ⟨rfl, hB1, hb1⟩
          go_wp2_with fail
          refine (writeB w.heap.size w.heap.size _ _ 255 rfl _ hB1 (by simp; omega)).mono ?_
          rintro e w2 ⟨rfl, hB2, hb2⟩
          go_wp2
          go_roundw
          case rel =>
            refine ⟨k + 1, by omega, by go_num, ?_, (hb.trans hb1).trans hb2⟩
            rw [HS.out, escText_snoc, if_pos HC.out]
            have e : (0 : UInt8) = s[k] := HC.out.symm
            rw [show ([0, 255] : List UInt8) = [0] ++ [255] from rfl, e, ← List.append_assoc]
            exact hB2
          case measure => simp [intOf]; omega
        · have hcb : ((s[k].toNat : Int) == 0) = false := by
            rw [beq_eq_false_iff_ne]
            intro e
            apply hc
            exact UInt8.toNat_inj.1 (by simpa using e)
          have HC := Lib.hid hc
          clear hc
          go_wp2_with fail
          refine (writeB w.heap.size w.heap.size _ _ s[k] rfl _ hB (by omega)).mono ?_
          rintro e w1 ⟨rfl, hB1, hb1⟩
          go_wp2
          go_roundw
          case rel =>
            refine ⟨k + 1, by omega, by go_num, ?_, hb.trans hb1⟩
            rw [HS.out, escText_snoc, if_neg HC.out]
            exact hB1
          case measure => simp [intOf]; omega
      · go_wp2_with fail
        refine (writeB w.heap.size w.heap.size _ _ 0 rfl _ hB (by omega)).mono ?_
        rintro e w1 ⟨rfl, hB1, hb1⟩
        go_wp2_with fail
        refine (writeB w.heap.size w.heap.size _ _ 1 rfl _ hB1 (by simp; omega)).mono ?_
        rintro e w2 ⟨rfl, hB2, hb2⟩
        go_wp2_with fail
        refine (readOut w.heap.size w.heap.size _ _ hB2).mono ?_
        rintro e w3 ⟨rfl, hb3⟩
        go_wp2
        go_ret2
        refine ⟨?_, ((hb.trans hb1).trans hb2).trans hb3⟩
        rw [List.take_of_length_le (by simp; omega)]
        simp [encText]
  · have hl' : ¬ s.data.toList.length ≤ 100000 := by simpa using hl
    unfold textL textE
    rw [if_neg hl', if_neg hl']
    clear hl'
    go_enter Try.func16, Try.ntmps16
    go_wp2
    go_ret2
    exact ⟨rfl, Below.refl _ _⟩

end Go.Proofs.Ytdnjjppidolnbaa
