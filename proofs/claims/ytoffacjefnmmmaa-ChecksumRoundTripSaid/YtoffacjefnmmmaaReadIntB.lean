/-
  What codec.ReadInt returns, for every string.
-/
import Derived.Test.YtoffacjefnmmmaaReadInt
namespace Go.Proofs.Ytoffacjefnmmmaa
open Go.RowKit

def Rd.len {α : Type} : Rd α → Nat
  | .ok _ k => k
  | .err _ => 0
def Rd.e {α : Type} : Rd α → Int
  | .ok _ _ => 0
  | .err e => (e : Int)
def Rd.val {α : Type} (d : α) : Rd α → α
  | .ok x _ => x
  | .err _ => d

theorem intPost_ok_of (s : ByteArray) (n : Int) (a' : Nat) (h : IntPost s 0 n a' 0) : n = (decInt s.data.toList).val 0 ∧ a' = (decInt s.data.toList).len ∧ (decInt s.data.toList).e = 0 := by
  unfold IntPost at h
  rw [List.drop_zero] at h
  cases hd : decInt s.data.toList with
  | ok x k => rw [hd] at h; simp only [Rd.val, Rd.len, Rd.e]; exact ⟨h.1, by omega, trivial⟩
  | err e => rw [hd] at h; exact absurd rfl h.2
theorem intPost_err_of (s : ByteArray) (n : Int) (a' : Nat) (f : Int) (hf : f ≠ 0) (h : IntPost s 0 n a' f) : (decInt s.data.toList).val 0 = 0 ∧ (decInt s.data.toList).len = 0 ∧ (decInt s.data.toList).e = f := by
  unfold IntPost at h
  rw [List.drop_zero] at h
  cases hd : decInt s.data.toList with
  | ok x k => rw [hd] at h; exact absurd h.2.2 hf
  | err e => rw [hd] at h; simp only [Rd.val, Rd.len, Rd.e]; exact ⟨trivial, trivial, h.1.symm⟩

set_option maxRecDepth 100000 in
set_option maxHeartbeats 1000000 in
theorem results_int (b : Nat) (s : ByteArray) (hs : s.size ≤ 9223372036854775807) (w : World) (h : Rdr b s 0 0 w) :
    Calls Try.prog 52 #[.pointer (some ⟨b, 0, none⟩), .func (.func 53) #[.pointer (some ⟨b, 0, none⟩)] #[]] w fun e w' =>
      e = .returned (.tuple #[.int .i64 ((decInt s.data.toList).val 0), .int .i64 ((decInt s.data.toList).len : Int), .int .i64 (decInt s.data.toList).e]) ∧ OnlyB b w w' := by
  go_enter Try.func52, Try.ntmps52
  go_wp2_with fail
  refine (integer_any b s 0 (Nat.zero_le _) hs _ h).mono ?_
  rintro e w1 ⟨n, a', f', rfl, hp, hR, hO⟩
  obtain ⟨c0, c1, c2, f1, f2⟩ := hR.cells
  by_cases hf : f' = 0
  · subst hf
    have HP := Lib.hid (intPost_ok_of s n a' hp)
    clear hp
    go_wp2
    go_quiet (fail)
    go_wp2
    go_ret3
    rw [HP.out.1, HP.out.2.1, HP.out.2.2]
    exact ⟨rfl, hO.drew _⟩
  · have hd : (f' != 0) = true := by simpa using hf
    have HP := Lib.hid (intPost_err_of s n a' f' hf hp)
    clear hp hf
    go_wp2
    go_quiet (fail)
    go_wp2
    go_ret3
    rw [HP.out.1, HP.out.2.1, HP.out.2.2]
    exact ⟨rfl, hO.drew _⟩

set_option maxHeartbeats 1000000 in
theorem readInt_any (s : ByteArray) (hs : s.size ≤ 9223372036854775807) (w : World) :
    Calls Try.prog 38 #[.string s] w fun e w' =>
      e = .returned (.tuple #[.int .i64 ((decInt s.data.toList).val 0), .int .i64 ((decInt s.data.toList).len : Int), .int .i64 (decInt s.data.toList).e]) ∧ Below w.heap.size w w' := by
  have hR : Rdr w.heap.size s 0 0 (w.alloc (.cells #[.string s, .int .i64 0, .int .i64 0] TR)) := World.alloc_heap_new w _
  go_enter Try.func38, Try.ntmps38
  go_wp2_with fail
  refine (results_int w.heap.size s hs _ hR).mono ?_
  rintro e w1 ⟨rfl, hO⟩
  go_wp2
  go_ret3
  exact ⟨rfl, ((Below.refl _ w).alloc (Nat.le_refl _) _).trans (hO.below (Nat.le_refl _) (by simp))⟩

end Go.Proofs.Ytoffacjefnmmmaa
