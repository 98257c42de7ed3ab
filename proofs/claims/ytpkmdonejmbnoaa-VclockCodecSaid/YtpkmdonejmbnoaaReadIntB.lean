/-
  What codec.ReadInt returns, for every string.
-/
import Derived.Test.YtpkmdonejmbnoaaReadInt
namespace Go.Proofs.Ytpkmdonejmbnoaa
open Go.RowKit

def Rd.len {α : Type} : Rd α → Nat
  | .ok _ k => k
  | .err _ => 0
def Rd.e {α : Type} : Rd α → Int
  | .ok _ _ => 0
  | .err e => (e : Int)
def Rd.val {α : Type} (d : α) : Rd α → α
  | .ok x _ => x
  | .err _ => d

theorem intPost_ok_of (s : ByteArray) (n : Int) (a' : Nat) (h : IntPost s 0 n a' 0) : n = (decInt s.data.toList).val 0 ∧ a' = (decInt s.data.toList).len ∧ (decInt s.data.toList).e = 0 := by
  unfold IntPost at h
  rw [List.drop_zero] at h
  cases hd : decInt s.data.toList with
  | ok x k => rw [hd] at h; simp only [Rd.val, Rd.len, Rd.e]; exact ⟨h.1, by omega, trivial⟩
  | err e => rw [hd] at h; exact absurd rfl h.2
theorem intPost_err_of (s : ByteArray) (n : Int) (a' : Nat) (f : Int) (hf : f ≠ 0) (h : IntPost s 0 n a' f) : (decInt s.data.toList).val 0 = 0 ∧ (decInt s.data.toList).len = 0 ∧ (decInt s.data.toList).e = f := by
  unfold IntPost at h
  rw [List.drop_zero] at h
  cases hd : decInt s.data.toList with
  | ok x k => rw [hd] at h; exact absurd h.2.2 hf
  | err e => rw [hd] at h; simp only [Rd.val, Rd.len, Rd.e]; exact ⟨trivial, trivial, h.1.symm⟩

end Go.Proofs.Ytpkmdonejmbnoaa
