/-
  What codec.ReadText returns, for every string.
-/
import Derived.Test.YtdnjjppidolnbaaReadText
namespace Go.Proofs.Ytdnjjppidolnbaa
open Go.RowKit

/-- What reading a text has come to: the string, the place, the error. -/
def TxPost (s v : ByteArray) (a' : Nat) (f' : Int) : Prop :=
  match decT s.data.toList [] 0 with
  | .ok x k => v = strOf x ∧ a' = k ∧ f' = 0
  | .err e => f' = (e : Int) ∧ f' ≠ 0

/-- Nothing that was there has changed but block b. -/
theorem grownBy_trans {b : Nat} {u v w : World} (h : u.grownBy v (some b)) (k : v.grownBy w (some b)) : u.grownBy w (some b) :=
  ⟨k.os.trans h.os, k.tape.trans h.tape, k.output.trans h.output, Nat.le_trans h.size k.size, fun i hi hb => (k.block i (Nat.lt_of_lt_of_le hi h.size) hb).trans (h.block i hi hb)⟩
theorem grownBy_of_below {b B : Nat} {u v w : World} (h : u.grownBy v (some b)) (hB : u.heap.size ≤ B) (k : Below B v w) : u.grownBy w (some b) :=
  ⟨k.os.trans h.os, k.tape.trans h.tape, k.output.trans h.output, Nat.le_trans h.size k.size, fun i hi hb => (k.block i (by omega)).trans (h.block i hi hb)⟩
theorem Rdr.below {b B : Nat} {s : ByteArray} {a : Nat} {f : Int} {w w' : World} (h : Rdr b s a f w) (hB : b < B) (k : Below B w w') : Rdr b s a f w' := (k.block b hB).trans h
theorem Bld.only {B b bo : Nat} {l : List Value} {s : ByteArray} {a : Nat} {f : Int} {w w' : World} (h : Bld none B bo l w) (hR : Rdr b s a f w) (hne : b ≠ bo) (k : OnlyB b w w') : Bld none B bo l w' := by
  refine h.grown k.grown (by intro e; cases e; exact hne rfl) ?_
  rintro j c fz e hj
  cases e
  unfold Rdr at hR
  rw [hR] at hj
  simp [TR, T8] at hj

def TextPost (b : Nat) (s : ByteArray) (w : World) (e : Ending) (w' : World) : Prop :=
  ∃ v a' f', e = .returned (.string v) ∧ TxPost s v a' f' ∧ Rdr b s a' f' w' ∧ w.grownBy w' (some b)

set_option maxRecDepth 100000 in
set_option maxHeartbeats 2000000 in
theorem textR_any (b : Nat) (s : ByteArray) (hs : s.size ≤ 9223372036854775807) (w : World) (h : Rdr b s 0 0 w) :
    Calls Try.prog 41 #[.pointer (some ⟨b, 0, none⟩)] w (TextPost b s w) := by
  have hbl := h.lt
  go_enter Try.func41, Try.ntmps41
  go_wp2
  go_loopw [] (fun wr => ∃ (a : Nat) (out : List UInt8), a ≤ s.size ∧ Rdr b s a 0 wr ∧ Bld none w.heap.size w.heap.size (Lib.byteCells out) wr ∧ out.length ≤ 100000 ∧ Hid (decT (s.data.toList.drop a) out a = decT s.data.toList [] 0) ∧ w.grownBy wr (some b)) (fun wr => s.size - (intOf ((wr.cell? ⟨b, 1, none⟩).getD undef)).toNat)
  case atStart =>
    refine ⟨0, [], Nat.zero_le _, ?_, Bld.fresh w, by simp, Lib.hid (by simp), World.grownBy_alloc w _ _⟩
    unfold Rdr at h ⊢
    rw [Lib.alloc_old _ _ _ hbl]; exact h
  case round =>
    obtain ⟨a, out, ha, hR, hB, hout, HD, hg⟩ := hrel
    have hmeas : (wr.cell? ⟨b, 1, none⟩).getD undef = .int .i64 (a : Int) := by rw [hR.cells.2.1]; rfl
    have HM := Lib.hid hmeas
    clear hmeas
    have hne : b ≠ w.heap.size := by omega
    have hTB := textByte_any b s a ha hs wr hR
    have HTB := Lib.hid hTB
    clear hTB
    go_wp2_with fail
    refine HTB.out.mono ?_
    rintro e w1 ⟨c, more, a', f', rfl, htb, hR1, hO⟩
    have hB1 := hB.only hR hne hO
    have hg1 : w.grownBy w1 (some b) := grownBy_trans hg hO.grown
    rcases htb with ⟨rfl, rfl, q1, q2, q3⟩ | ⟨rfl, rfl, q3⟩ | ⟨rfl, e, rfl, q2, q3⟩
    · -- a byte
      have hlen : (Lib.byteCells out).length = out.length := Lib.byteCells_length out
      by_cases hfull : out.length = 100000
      · have HE : Hid (decT s.data.toList [] 0 = .err 4) := Lib.hid (by rw [← HD.out, q3 out, if_pos hfull])
        have hlb : (((Lib.byteCells out).length : Int) == 100000) = true := by rw [hlen, hfull]; rfl
        clear hlen hfull q3
        go_wp2_with (go_at_call 47; refine (Try.Builder_Len_f w.heap.size w.heap.size _ _ hB1.isF).mono ?_; rintro e w' ⟨rfl, rfl⟩)
        refine (fail_any b s _ _ _ _ hR1).mono ?_
        rintro e w2 ⟨rfl, hR2, hO2⟩
        go_wp2
        go_ret
        refine ⟨_, _, _, rfl, ?_, hR2, grownBy_trans hg1 hO2.grown⟩
        unfold TxPost
        rw [HE.out]
        exact ⟨rfl, by decide⟩
      · have HE : Hid (decT s.data.toList [] 0 = decT (s.data.toList.drop a') (out ++ [c]) a') := Lib.hid (by rw [← HD.out, q3 out, if_neg hfull])
        have hlb : (((Lib.byteCells out).length : Int) == 100000) = false := by rw [hlen, beq_eq_false_iff_ne]; omega
        have hlt : out.length < 100000 := by omega
        clear hlen hfull q3
        go_wp2_with (go_at_call 47; refine (Try.Builder_Len_f w.heap.size w.heap.size _ _ hB1.isF).mono ?_; rintro e w' ⟨rfl, rfl⟩)
        refine (writeB w.heap.size w.heap.size out _ c rfl _ hB1 (by omega)).mono ?_
        rintro e w2 ⟨rfl, hB2, hb2⟩
        have hR2 := hR1.below hbl hb2
        go_wp2
        go_roundw
        case rel => exact ⟨a', out ++ [c], q2, hR2, hB2, by simp; omega, Lib.hid HE.out.symm, grownBy_of_below hg1 (Nat.le_refl _) hb2⟩
        case measure =>
          rw [HM.out, hR2.cells.2.1]
          simp [intOf]
          omega
    · have HE : Hid (decT s.data.toList [] 0 = .ok out a') := Lib.hid (by rw [← HD.out, q3 out])
      clear q3
      go_wp2_with fail
      refine (readOut w.heap.size w.heap.size out _ hB1).mono ?_
      rintro e w2 ⟨rfl, hb2⟩
      go_wp2
      go_ret
      refine ⟨_, _, _, rfl, ?_, hR1.below hbl hb2, grownBy_of_below hg1 (Nat.le_refl _) hb2⟩
      unfold TxPost
      rw [HE.out]
      exact ⟨rfl, rfl, rfl⟩
    · have HE : Hid (decT s.data.toList [] 0 = .err e) := Lib.hid (by rw [← HD.out, q3 out])
      clear q3
      go_wp2_with fail
      refine (readOut w.heap.size w.heap.size out _ hB1).mono ?_
      rintro e' w2 ⟨rfl, hb2⟩
      go_wp2
      go_ret
      refine ⟨_, _, _, rfl, ?_, hR1.below hbl hb2, grownBy_of_below hg1 (Nat.le_refl _) hb2⟩
      unfold TxPost
      rw [HE.out]
      exact ⟨rfl, by omega⟩

theorem txPost_ok_of (s v : ByteArray) (a' : Nat) (h : TxPost s v a' 0) : v = strOf ((decT s.data.toList [] 0).val []) ∧ a' = (decT s.data.toList [] 0).len ∧ (decT s.data.toList [] 0).e = 0 := by
  unfold TxPost at h
  cases hd : decT s.data.toList [] 0 with
  | ok x k => rw [hd] at h; simp only [Rd.val, Rd.len, Rd.e]; exact ⟨h.1, h.2.1, trivial⟩
  | err e => rw [hd] at h; exact absurd rfl h.2
theorem txPost_err_of (s v : ByteArray) (a' : Nat) (f : Int) (hf : f ≠ 0) (h : TxPost s v a' f) : strOf ((decT s.data.toList [] 0).val []) = ⟨#[]⟩ ∧ (decT s.data.toList [] 0).len = 0 ∧ (decT s.data.toList [] 0).e = f := by
  unfold TxPost at h
  cases hd : decT s.data.toList [] 0 with
  | ok x k => rw [hd] at h; exact absurd h.2.2 hf
  | err e => rw [hd] at h; simp only [Rd.val, Rd.len, Rd.e]; exact ⟨rfl, trivial, h.1.symm⟩

/-- The result of ReadText as values. -/
def readTextV (l : List UInt8) : Value := .tuple #[.string (strOf ((decT l [] 0).val [])), .int .i64 ((decT l [] 0).len : Int), .int .i64 (decT l [] 0).e]

set_option maxRecDepth 100000 in
set_option maxHeartbeats 1000000 in
theorem results_string (b : Nat) (s : ByteArray) (hs : s.size ≤ 9223372036854775807) (w : World) (h : Rdr b s 0 0 w) :
    Calls Try.prog 40 #[.pointer (some ⟨b, 0, none⟩), .func (.func 41) #[.pointer (some ⟨b, 0, none⟩)] #[]] w fun e w' => e = .returned (readTextV s.data.toList) ∧ w.grownBy w' (some b) := by
  unfold readTextV
  go_enter Try.func40, Try.ntmps40
  go_wp2_with fail
  refine (textR_any b s hs _ h).mono ?_
  rintro e w1 ⟨v, a', f', rfl, hp, hR, hO⟩
  obtain ⟨c0, c1, c2, f1, f2⟩ := hR.cells
  have hOd : ∀ n, w.grownBy (w1.drewN n) (some b) := fun n => ⟨hO.os, hO.tape, hO.output, hO.size, hO.block⟩
  have HO := Lib.hid hOd
  clear hOd
  by_cases hf : f' = 0
  · subst hf
    have HP := Lib.hid (txPost_ok_of s v a' hp)
    clear hp
    go_wp2
    go_quiet (fail)
    go_wp2
    go_ret3
    rw [HP.out.1.symm, HP.out.2.1.symm, HP.out.2.2]
    exact ⟨rfl, HO.out _⟩
  · have hd : (f' != 0) = true := by simpa using hf
    have HP := Lib.hid (txPost_err_of s v a' f' hf hp)
    clear hp hf
    go_wp2
    go_quiet (fail)
    go_wp2
    go_ret3
    rw [HP.out.1, HP.out.2.1, HP.out.2.2]
    exact ⟨rfl, HO.out _⟩

set_option maxHeartbeats 1000000 in
theorem readText_any (s : ByteArray) (hs : s.size ≤ 9223372036854775807) (w : World) :
    Calls Try.prog 18 #[.string s] w fun e w' => e = .returned (readTextV s.data.toList) ∧ Below w.heap.size w w' := by
  have hR : Rdr w.heap.size s 0 0 (w.alloc (.cells #[.string s, .int .i64 0, .int .i64 0] TR)) := World.alloc_heap_new w _
  go_enter Try.func18, Try.ntmps18
  go_wp2_with fail
  refine (results_string w.heap.size s hs _ hR).mono ?_
  rintro e w1 ⟨rfl, hO⟩
  unfold readTextV
  go_wp2
  go_ret3
  exact ⟨rfl, ((Below.refl _ w).alloc (Nat.le_refl _) _).grown hO (by simp) (fun k hk => by cases hk; exact Nat.le_refl _)⟩

end Go.Proofs.Ytdnjjppidolnbaa
