/-
  Steps that turn one block alone, put together.
-/
import Derived.Test.YtpkmdonejmbnoaaReadIntB
namespace Go.Proofs.Ytpkmdonejmbnoaa
open Go.RowKit

/-- Nothing that was there has changed but block b. -/
theorem grownBy_trans {b : Nat} {u v w : World} (h : u.grownBy v (some b)) (k : v.grownBy w (some b)) : u.grownBy w (some b) :=
  ⟨k.os.trans h.os, k.tape.trans h.tape, k.output.trans h.output, Nat.le_trans h.size k.size, fun i hi hb => (k.block i (Nat.lt_of_lt_of_le hi h.size) hb).trans (h.block i hi hb)⟩
theorem grownBy_of_below {b B : Nat} {u v w : World} (h : u.grownBy v (some b)) (hB : u.heap.size ≤ B) (k : Below B v w) : u.grownBy w (some b) :=
  ⟨k.os.trans h.os, k.tape.trans h.tape, k.output.trans h.output, Nat.le_trans h.size k.size, fun i hi hb => (k.block i (by omega)).trans (h.block i hi hb)⟩
theorem Rdr.below {b B : Nat} {s : ByteArray} {a : Nat} {f : Int} {w w' : World} (h : Rdr b s a f w) (hB : b < B) (k : Below B w w') : Rdr b s a f w' := (k.block b hB).trans h
theorem Bld.only {B b bo : Nat} {l : List Value} {s : ByteArray} {a : Nat} {f : Int} {w w' : World} (h : Bld none B bo l w) (hR : Rdr b s a f w) (hne : b ≠ bo) (k : OnlyB b w w') : Bld none B bo l w' := by
  refine h.grown k.grown (by intro e; cases e; exact hne rfl) ?_
  rintro j c fz e hj
  cases e
  unfold Rdr at hR
  rw [hR] at hj
  simp [TR, T8] at hj

theorem byte_eq (c : UInt8) (n : Nat) (hn : n < 256) : c = UInt8.ofNat n ↔ c.toNat = n := by
  constructor
  · rintro rfl; exact ofNat_toNat_lt hn
  · intro h; exact UInt8.toNat_inj.1 (by rw [h, ofNat_toNat_lt hn])
theorem byte_beq (c : UInt8) (n : Nat) (hn : n < 256) (h : c = UInt8.ofNat n) : ((c.toNat : Int) == (n : Int)) = true ∧ ((c.toNat : Int) != (n : Int)) = false := by
  have := (byte_eq c n hn).1 h
  rw [this]; simp
theorem byte_bne (c : UInt8) (n : Nat) (hn : n < 256) (h : c ≠ UInt8.ofNat n) : ((c.toNat : Int) == (n : Int)) = false ∧ ((c.toNat : Int) != (n : Int)) = true := by
  have : c.toNat ≠ n := fun e => h ((byte_eq c n hn).2 e)
  constructor
  · rw [beq_eq_false_iff_ne]; omega
  · rw [bne_iff_ne]; omega

end Go.Proofs.Ytpkmdonejmbnoaa
