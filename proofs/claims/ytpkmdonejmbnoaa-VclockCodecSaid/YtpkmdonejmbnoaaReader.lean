/-
  codec's reader: what fail and next do to it.
-/
import Derived.Test.YtpkmdonejmbnoaaEnc
import Derived.Deep.QuietTactic
import Derived.BigQuiet
namespace Go.Proofs.Ytpkmdonejmbnoaa
open Go.RowKit

abbrev TR : TypeId := 83

/-- A reader over s in block b that has come to 'at_'; its error is f. -/
def Rdr (b : Nat) (s : ByteArray) (at_ : Nat) (f : Int) (w : World) : Prop := w.heap[b]? = some (.cells #[.string s, .int .i64 (at_ : Int), .int .i64 f] TR (0, 0))
/-- Nothing but block b has changed, and nothing is new. -/
structure OnlyB (b : Nat) (w w' : World) : Prop where
  grown : w.grownBy w' (some b)
  size : w'.heap.size = w.heap.size
theorem OnlyB.refl (b : Nat) (w : World) : OnlyB b w w := ⟨⟨rfl, rfl, rfl, Nat.le_refl _, fun _ _ _ => rfl⟩, rfl⟩
theorem OnlyB.trans {b : Nat} {u v w : World} (h : OnlyB b u v) (k : OnlyB b v w) : OnlyB b u w :=
  ⟨⟨k.grown.os.trans h.grown.os, k.grown.tape.trans h.grown.tape, k.grown.output.trans h.grown.output, Nat.le_trans h.grown.size k.grown.size, fun i hi hb => (k.grown.block i (by have := h.size; omega) hb).trans (h.grown.block i hi hb)⟩, k.size.trans h.size⟩
theorem OnlyB.below {b B : Nat} {w w' : World} (h : OnlyB b w w') (hB : B ≤ b) (hs : b < w.heap.size) : Below B w w' :=
  ⟨h.grown.os, h.grown.tape, h.grown.output, h.grown.size, fun k hk => h.grown.block k (by omega) (by intro e; cases e; omega)⟩
theorem OnlyB.drew {b : Nat} {w w' : World} (h : OnlyB b w w') (n : Nat) : OnlyB b w (w'.drewN n) := ⟨⟨h.grown.os, h.grown.tape, h.grown.output, h.grown.size, h.grown.block⟩, h.size⟩
theorem Rdr.lt {b : Nat} {s : ByteArray} {a : Nat} {f : Int} {w : World} (h : Rdr b s a f w) : b < w.heap.size := (Array.getElem?_eq_some_iff.1 h).1
theorem Rdr.cells {b : Nat} {s : ByteArray} {a : Nat} {f : Int} {w : World} (h : Rdr b s a f w) : w.cell? ⟨b, 0, none⟩ = some (.string s) ∧ w.cell? ⟨b, 1, none⟩ = some (.int .i64 (a : Int)) ∧ w.cell? ⟨b, 2, none⟩ = some (.int .i64 f) ∧ w.frozen? ⟨b, 1, none⟩ = false ∧ w.frozen? ⟨b, 2, none⟩ = false := by
  have := Lib.cell_of_heap h
  refine ⟨?_, ?_, ?_, Lib.frozen_of_heap h 1, Lib.frozen_of_heap h 2⟩ <;> rw [this] <;> rfl
theorem Rdr.drew {b : Nat} {s : ByteArray} {a : Nat} {f : Int} {w : World} (h : Rdr b s a f w) (n : Nat) : Rdr b s a f (w.drewN n) := h
theorem Rdr.set1 {b : Nat} {s : ByteArray} {a : Nat} {f : Int} {w : World} (h : Rdr b s a f w) (a' : Nat) : Rdr b s a' f (w.setCell ⟨b, 1, none⟩ (.int .i64 (a' : Int))) := by
  unfold Rdr at h ⊢
  simp [World.setCell, Array.getElem?_modify, h]
theorem Rdr.set2 {b : Nat} {s : ByteArray} {a : Nat} {f : Int} {w : World} (h : Rdr b s a f w) (f' : Int) : Rdr b s a f' (w.setCell ⟨b, 2, none⟩ (.int .i64 f')) := by
  unfold Rdr at h ⊢
  simp [World.setCell, Array.getElem?_modify, h]
theorem onlyB_set (b o : Nat) (v : Value) (w : World) : OnlyB b w (w.setCell ⟨b, o, none⟩ v) :=
  ⟨⟨rfl, rfl, rfl, by simp [World.setCell], fun k _ hk => Below.heap_setCell _ _ _ _ (fun e => hk (by simp [e]))⟩, by simp [World.setCell]⟩

def orErr (f e : Int) : Int := if f = 0 then e else f

set_option maxHeartbeats 1000000 in
theorem fail_any (b : Nat) (s : ByteArray) (a : Nat) (f x : Int) (w : World) (h : Rdr b s a f w) :
    Calls Try.prog 72 #[.pointer (some ⟨b, 0, none⟩), .int .i64 x] w fun e w' => e = .returned (.tuple #[]) ∧ Rdr b s a (orErr f x) w' ∧ OnlyB b w w' := by
  obtain ⟨c0, c1, c2, f1, f2⟩ := h.cells
  by_cases hf : f = 0
  · subst hf
    go_enter Try.func72, Try.ntmps72
    go_wp2
    go_end0
    exact ⟨rfl, h.set2 x, onlyB_set _ _ _ _⟩
  · have hd : (f == 0) = false := by simpa using hf
    have e : orErr f x = f := by unfold orErr; rw [if_neg hf]
    rw [e]
    clear hf e
    go_enter Try.func72, Try.ntmps72
    go_wp2
    go_end0
    exact ⟨rfl, h, OnlyB.refl _ _⟩

set_option maxHeartbeats 1000000 in
theorem next_end (b : Nat) (s : ByteArray) (f : Int) (w : World) (h : Rdr b s s.size f w) :
    Calls Try.prog 77 #[.pointer (some ⟨b, 0, none⟩)] w fun e w' => e = .returned (.int .u8 0) ∧ Rdr b s s.size (orErr f 11) w' ∧ OnlyB b w w' := by
  obtain ⟨c0, c1, c2, f1, f2⟩ := h.cells
  go_enter Try.func77, Try.ntmps77
  go_wp2
  go_quiet (fail)
  go_wp2_with fail
  refine (fail_any b s s.size f 11 _ (h.drew _)).mono ?_
  rintro e w1 ⟨rfl, h1, k1⟩
  go_wp2
  go_ret
  exact ⟨rfl, h1, ((OnlyB.refl b w).drew _).trans k1⟩

set_option maxHeartbeats 1000000 in
theorem next_byte (b : Nat) (s : ByteArray) (a : Nat) (f : Int) (w : World) (h : Rdr b s a f w) (hs : s.size ≤ 9223372036854775807) (ha : a < s.size) :
    Calls Try.prog 77 #[.pointer (some ⟨b, 0, none⟩)] w fun e w' => e = .returned (.int .u8 (s[a].toNat : Int)) ∧ Rdr b s (a + 1) f w' ∧ OnlyB b w w' := by
  obtain ⟨c0, c1, c2, f1, f2⟩ := h.cells
  have ha0 : (a : Int) < (s.size : Int) := by omega
  have hne : ((a : Int) == (s.size : Int)) = false := by rw [beq_eq_false_iff_ne]; omega
  go_enter Try.func77, Try.ntmps77
  go_wp2
  go_quiet (fail)
  go_wp2
  go_quiet (fail)
  go_wp2
  go_ret
  refine ⟨rfl, ?_, ?_⟩
  · exact (h.drew _).set1 (a + 1)
  · exact ((OnlyB.refl b w).drew _).trans (onlyB_set _ _ _ _)

def IntPost (s : ByteArray) (a : Nat) (n : Int) (a' : Nat) (f' : Int) : Prop :=
  match decInt (s.data.toList.drop a) with
  | .ok x k => n = x ∧ a' = a + k ∧ f' = 0
  | .err e => f' = (e : Int) ∧ f' ≠ 0

theorem drop_cons (s : ByteArray) (a : Nat) (h : a < s.size) : s.data.toList.drop a = s[a] :: s.data.toList.drop (a + 1) := by
  rw [List.drop_eq_getElem_cons (by simpa using h)]; rfl
theorem intPost_end (s : ByteArray) (n : Int) : IntPost s s.size n s.size (orErr (orErr 0 11) 12) := by
  unfold IntPost
  rw [List.drop_of_length_le (by simp)]
  simp [decInt, orErr]
theorem intPost_head (s : ByteArray) (a : Nat) (h : a < s.size) (hk : 8 < kOf s[a]) (n : Int) (a' : Nat) : IntPost s a n a' (orErr 0 12) := by
  unfold IntPost
  rw [drop_cons s a h, decInt, if_pos hk]
  simp [orErr]
theorem intPost_short (s : ByteArray) (a : Nat) (h : a < s.size) (hk : ¬ 8 < kOf s[a]) (hs : s.size < a + 1 + kOf s[a]) (n : Int) (a' : Nat) : IntPost s a n a' 11 := by
  unfold IntPost
  rw [drop_cons s a h, decInt, if_neg hk, if_pos (by simp; omega)]
  simp
theorem intPost_bad (s : ByteArray) (a : Nat) (h : a < s.size) (hk : ¬ 8 < kOf s[a]) (hs : ¬ s.size < a + 1 + kOf s[a]) (n : Int) (a' : Nat)
    (hb : ¬ ((mag (ofD (digs s[a] (s.data.toList.drop (a + 1))))).length = kOf s[a] ∧ ofD (digs s[a] (s.data.toList.drop (a + 1))) ≤ 4611686018427387904 ∧ InR (sgn s[a] (ofD (digs s[a] (s.data.toList.drop (a + 1))))))) : IntPost s a n a' (orErr 0 12) := by
  unfold IntPost
  rw [drop_cons s a h, decInt, if_neg hk, if_neg (by simp; omega), if_neg hb]
  simp [orErr]
theorem intPost_ok (s : ByteArray) (a : Nat) (h : a < s.size) (hk : ¬ 8 < kOf s[a]) (hs : ¬ s.size < a + 1 + kOf s[a])
    (hb : (mag (ofD (digs s[a] (s.data.toList.drop (a + 1))))).length = kOf s[a] ∧ ofD (digs s[a] (s.data.toList.drop (a + 1))) ≤ 4611686018427387904 ∧ InR (sgn s[a] (ofD (digs s[a] (s.data.toList.drop (a + 1)))))) :
    IntPost s a (sgn s[a] (ofD (digs s[a] (s.data.toList.drop (a + 1))))) (a + 1 + kOf s[a]) 0 := by
  unfold IntPost
  rw [drop_cons s a h, decInt, if_neg hk, if_neg (by simp; omega), if_pos hb]
  simp only [true_and, and_true]
  omega

theorem kOf_all : ∀ c : Fin 256, bits BinOp.xor IntKind.u8 (c.val : Int) ((invC (UInt8.ofNat c.val)).toNat : Int) = 128 + (kOf (UInt8.ofNat c.val) : Int) := by decide +kernel
theorem kOf_byte (c : UInt8) : bits BinOp.xor IntKind.u8 (c.toNat : Int) ((invC c).toNat : Int) = 128 + (kOf c : Int) := by
  have := kOf_all ⟨c.toNat, byte_lt c⟩
  simpa using this
theorem kOf_le (c : UInt8) : kOf c ≤ 127 := by
  have : ∀ c : Fin 256, kOf (UInt8.ofNat c.val) ≤ 127 := by decide +kernel
  have := this ⟨c.toNat, byte_lt c⟩
  simpa using this

set_option maxRecDepth 100000 in
set_option maxHeartbeats 1000000 in
theorem integer_end (b : Nat) (s : ByteArray) (w : World) (h : Rdr b s s.size 0 w) :
    Calls Try.prog 73 #[.pointer (some ⟨b, 0, none⟩)] w fun e w' => ∃ n a' f', e = .returned (.int .i64 n) ∧ IntPost s s.size n a' f' ∧ Rdr b s a' f' w' ∧ OnlyB b w w' := by
  have hx0 : bits BinOp.xor IntKind.u8 0 255 = 255 := by decide +kernel
  go_enter Try.func73, Try.ntmps73
  go_wp2_with fail
  refine (next_end b s 0 _ h).mono ?_
  rintro e w1 ⟨rfl, h1, k1⟩
  go_wp2_with fail
  refine (fail_any b s _ _ _ _ h1).mono ?_
  rintro e w2 ⟨rfl, h2, k2⟩
  go_wp2
  go_ret
  exact ⟨_, _, _, rfl, intPost_end s _, h2, k1.trans k2⟩

set_option maxRecDepth 100000 in
set_option maxHeartbeats 1000000 in
theorem integer_head (b : Nat) (s : ByteArray) (a : Nat) (ha : a < s.size) (hs : s.size ≤ 9223372036854775807) (hk : 8 < kOf s[a]) (w : World) (h : Rdr b s a 0 w) :
    Calls Try.prog 73 #[.pointer (some ⟨b, 0, none⟩)] w fun e w' => ∃ n a' f', e = .returned (.int .i64 n) ∧ IntPost s a n a' f' ∧ Rdr b s a' f' w' ∧ OnlyB b w w' := by
  have HP := Lib.hid (fun n a' => intPost_head s a ha hk n a')
  obtain ⟨c, hc⟩ : ∃ c, s[a] = c := ⟨_, rfl⟩
  have hnx := next_byte b s a 0 w h hs ha
  rw [hc] at hk hnx
  have HN := Lib.hid hnx
  clear hc hnx ha
  have hK := kOf_byte c
  have hk2 := kOf_le c
  have hc8 := byte_lt c
  by_cases h1 : (c.toNat : Int) < 128
  · have hi : invC c = 255 := by unfold invC; rw [if_pos (by rw [UInt8.lt_iff_toNat_lt]; simp; omega)]
    rw [hi] at hK
    have hK' : bits BinOp.xor IntKind.u8 (c.toNat : Int) 255 = 128 + (kOf c : Int) := hK
    clear hK hi
    go_enter Try.func73, Try.ntmps73
    go_wp2_with fail
    refine HN.out.mono ?_
    rintro e w1 ⟨rfl, h1, k1⟩
    go_wp2_with fail
    refine (fail_any b s _ _ _ _ h1).mono ?_
    rintro e w2 ⟨rfl, h2, k2⟩
    go_wp2
    go_ret
    exact ⟨_, _, _, rfl, HP.out _ _, h2, k1.trans k2⟩
  · have hi : invC c = 0 := by unfold invC; rw [if_neg (by rw [UInt8.lt_iff_toNat_lt]; simp; omega)]
    rw [hi] at hK
    have hK' : bits BinOp.xor IntKind.u8 (c.toNat : Int) 0 = 128 + (kOf c : Int) := hK
    clear hK hi
    go_enter Try.func73, Try.ntmps73
    go_wp2_with fail
    refine HN.out.mono ?_
    rintro e w1 ⟨rfl, h1, k1⟩
    go_wp2_with fail
    refine (fail_any b s _ _ _ _ h1).mono ?_
    rintro e w2 ⟨rfl, h2, k2⟩
    go_wp2
    go_ret
    exact ⟨_, _, _, rfl, HP.out _ _, h2, k1.trans k2⟩

end Go.Proofs.Ytpkmdonejmbnoaa
