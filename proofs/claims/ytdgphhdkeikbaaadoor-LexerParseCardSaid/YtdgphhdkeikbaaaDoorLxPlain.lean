/-
  The tokens of a text, as plain functions over bytes.
-/
import Derived.Test.YtdgphhdkeikbaaaDoorExBase
namespace Go.Proofs.YtdgphhdkeikbaaaDoor
set_option linter.unusedSimpArgs false
set_option linter.unusedVariables false
open Go.RowKit

abbrev LBy := List UInt8
def isDg (c : UInt8) : Bool := decide (48 ≤ c) && decide (c ≤ 57)
def isSp (c : UInt8) : Bool := c == 32 || c == 9 || c == 10
def signL : List LBy := [[38, 38], [124, 124], [61, 61], [33, 61], [60, 61], [62, 61], [60], [62], [43], [45], [42], [47], [37], [33], [61], [40], [41], [123], [125], [44], [59]]
def sgF (ss : List LBy) (l : LBy) : Nat := ((ss.find? (fun s => s.isPrefixOf l)).getD []).length
def sgN (l : LBy) : Nat := sgF signL l
def wdN (l : LBy) : Nat := (l.takeWhile isNmC).length
def dgN (l : LBy) : Nat := (l.takeWhile isDg).length
def rdN (l : LBy) : Nat := l.foldl (fun a c => a * 10 + (c.toNat - 48)) 0
/-- kind, text, value, offset -/
structure Tk where
  k : Int
  t : ByteArray
  v : Int
  a : Nat
deriving DecidableEq
inductive T1 where
  | er (e : Int)
  | tk (k : Int) (n v : Nat)
deriving DecidableEq
def one (l : LBy) : T1 := match l with
  | [] => .er 3
  | c :: r =>
    if isLow c = true then (if 30 < wdN (c :: r) then .er 5 else .tk 1 (wdN (c :: r)) 0)
    else if isDg c = true then (if wdN (c :: r) ≠ dgN (c :: r) ∨ (1 < dgN (c :: r) ∧ c = 48) then .er 3
      else if 1099511627776 < rdN ((c :: r).take (dgN (c :: r))) then .er 2 else .tk 2 (dgN (c :: r)) (rdN ((c :: r).take (dgN (c :: r)))))
    else if sgN (c :: r) = 0 then .er 3 else .tk 3 (sgN (c :: r)) 0
def bB (l : LBy) : ByteArray := ⟨l.toArray⟩
def isCm (c : UInt8) : Bool := decide (c ≠ 10)
abbrev LxR := List Tk × Nat × Int
/-- The tokens, by an accumulator: what comes behind acc. -/
def lx : Nat → LBy → Nat → List Tk → LxR
  | 0, _, _, _ => ([], 0, 0)
  | _ + 1, [], at_, acc => (acc ++ [⟨0, .empty, 0, at_⟩], 0, 0)
  | f + 1, c :: r, at_, acc =>
    if isSp c = true then lx f r (at_ + 1) acc
    else if c = 35 then lx f ((c :: r).dropWhile isCm) (at_ + ((c :: r).takeWhile isCm).length) acc
    else match one (c :: r) with
      | .er e => ([], at_, e)
      | .tk k n v => lx f ((c :: r).drop n) (at_ + n) (acc ++ [⟨k, bB ((c :: r).take n), v, at_⟩])
def lexL (l : LBy) : LxR := lx (l.length + 1) l 0 []
def lexT (s : ByteArray) : LxR := if 4000 < s.size then ([], 0, 4) else lexL s.data.toList

theorem lx_low_nm {c : UInt8} (h : isLow c = true) : isNmC c = true := by simp [isNmC, h]
theorem dg_nm {c : UInt8} (h : isDg c = true) : isNmC c = true := by
  unfold isDg at h
  simp only [isNmC, h, Bool.or_true, Bool.true_or]
theorem dg_low {c : UInt8} (h : isDg c = true) : isLow c = false := by
  simp only [isDg, isLow, Bool.and_eq_true, decide_eq_true_eq, Bool.and_eq_false_iff, decide_eq_false_iff_not, UInt8.le_iff_toNat_le] at h ⊢
  have : (48 : UInt8).toNat = 48 := rfl
  have : (57 : UInt8).toNat = 57 := rfl
  have : (97 : UInt8).toNat = 97 := rfl
  have : (122 : UInt8).toNat = 122 := rfl
  omega
theorem nm_lt {c : UInt8} (h : isNmC c = true) : c.toNat < 128 := by
  simp only [isNmC, isLow, Bool.or_eq_true, Bool.and_eq_true, decide_eq_true_eq, UInt8.le_iff_toNat_le, beq_iff_eq] at h
  have e1 : (57 : UInt8).toNat = 57 := rfl
  have e2 : (122 : UInt8).toNat = 122 := rfl
  rcases h with (h | h) | h
  · omega
  · omega
  · subst h; decide
theorem wdN_pos {c : UInt8} {r : LBy} (h : isNmC c = true) : 1 ≤ wdN (c :: r) := by
  unfold wdN; rw [List.takeWhile_cons, if_pos h]; simp
theorem dgN_pos {c : UInt8} {r : LBy} (h : isDg c = true) : 1 ≤ dgN (c :: r) := by
  unfold dgN; rw [List.takeWhile_cons, if_pos h]; simp
theorem wdN_le (l : LBy) : wdN l ≤ l.length := by
  unfold wdN
  exact (List.takeWhile_prefix _).length_le
theorem dgN_le (l : LBy) : dgN l ≤ l.length := by
  unfold dgN
  exact (List.takeWhile_prefix _).length_le
theorem sgF_le (ss : List LBy) (l : LBy) : sgF ss l ≤ l.length := by
  unfold sgF
  cases h : ss.find? (fun s => s.isPrefixOf l) with
  | none => simp
  | some x =>
    have := List.find?_some h
    simp only [List.isPrefixOf_iff_prefix] at this
    exact this.length_le
/-- A token has a byte at least, and lies in the text. -/
theorem one_tk {l : LBy} {k : Int} {n v : Nat} (h : one l = .tk k n v) : 1 ≤ n ∧ n ≤ l.length := by
  cases l with
  | nil => cases h
  | cons c r =>
    unfold one at h
    simp only at h
    by_cases h1 : isLow c = true
    · rw [if_pos h1] at h
      split at h
      · cases h
      · injection h with _ h _
        exact ⟨h ▸ wdN_pos (lx_low_nm h1), h ▸ wdN_le _⟩
    · rw [if_neg h1] at h
      by_cases h2 : isDg c = true
      · rw [if_pos h2] at h
        split at h
        · cases h
        · split at h
          · cases h
          · injection h with _ h _
            exact ⟨h ▸ dgN_pos h2, h ▸ dgN_le _⟩
      · rw [if_neg h2] at h
        split at h
        · cases h
        · rename_i h3
          injection h with _ h _
          exact ⟨by omega, h ▸ sgF_le _ _⟩
/-- More fuel changes nothing. -/
theorem lx_fuel (f : Nat) : ∀ (l : LBy) (a : Nat) (acc : List Tk) (g : Nat), l.length < f → f ≤ g → lx g l a acc = lx f l a acc := by
  induction f with
  | zero => intro l a acc g h; omega
  | succ f ih =>
    intro l a acc g h hg
    obtain ⟨g, rfl⟩ : ∃ m, g = m + 1 := ⟨g - 1, by omega⟩
    cases l with
    | nil => rfl
    | cons c r =>
      simp only [List.length_cons] at h
      unfold lx
      by_cases h1 : isSp c = true
      · rw [if_pos h1, if_pos h1]
        exact ih _ _ _ _ (by omega) (by omega)
      · rw [if_neg h1, if_neg h1]
        by_cases h2 : c = 35
        · rw [if_pos h2, if_pos h2]
          refine ih _ _ _ _ ?_ (by omega)
          have : (c :: r).dropWhile isCm = r.dropWhile isCm := by rw [List.dropWhile_cons, if_pos (by subst h2; decide)]
          rw [this]
          have := (List.dropWhile_suffix isCm (l := r)).length_le
          omega
        · rw [if_neg h2, if_neg h2]
          cases h3 : one (c :: r) with
          | er e => rfl
          | tk k n v =>
            have := one_tk h3
            refine ih _ _ _ _ ?_ (by omega)
            simp only [List.length_drop, List.length_cons]
            omega
theorem lexL_eq (l : LBy) (g : Nat) (h : l.length < g) : lx g l 0 [] = lexL l := lx_fuel (l.length + 1) l 0 [] g (by omega) (by omega)
/-- One step, wherever the fuel is enough. -/
theorem lx_step {f : Nat} {l : LBy} {a : Nat} {acc : List Tk} (h : l.length < f) : lx f l a acc = lx (l.length + 1) l a acc := lx_fuel (l.length + 1) l a acc f (by omega) (by omega)
abbrev lxx (l : LBy) (a : Nat) (acc : List Tk) : LxR := lx (l.length + 1) l a acc
theorem lxx_nil (a : Nat) (acc : List Tk) : lxx [] a acc = (acc ++ [⟨0, .empty, 0, a⟩], 0, 0) := rfl
theorem lxx_sp {c : UInt8} {r : LBy} (h : isSp c = true) (a : Nat) (acc : List Tk) : lxx (c :: r) a acc = lxx r (a + 1) acc := by
  show lx (r.length + 1 + 1) (c :: r) a acc = _
  rw [lx, if_pos h]
theorem lxx_cm {l : LBy} (h : l.head? = some 35) (a : Nat) (acc : List Tk) : lxx l a acc = lxx (l.dropWhile isCm) (a + (l.takeWhile isCm).length) acc := by
  cases l with
  | nil => cases h
  | cons c r =>
    obtain rfl : c = 35 := by simpa using h
    show lx (r.length + 1 + 1) ((35 : UInt8) :: r) a acc = _
    rw [lx, if_neg (by decide), if_pos rfl]
    refine lx_step ?_
    have : ((35 : UInt8) :: r).dropWhile isCm = r.dropWhile isCm := by rw [List.dropWhile_cons, if_pos (by decide)]
    rw [this]
    have := (List.dropWhile_suffix isCm (l := r)).length_le
    omega
theorem lxx_er {c : UInt8} {r : LBy} {e : Int} (h1 : isSp c = false) (h2 : c ≠ 35) (h : one (c :: r) = .er e) (a : Nat) (acc : List Tk) : lxx (c :: r) a acc = ([], a, e) := by
  show lx (r.length + 1 + 1) (c :: r) a acc = _
  rw [lx, if_neg (by rw [h1]; decide), if_neg h2, h]
theorem lxx_tk {c : UInt8} {r : LBy} {k : Int} {n v : Nat} (h1 : isSp c = false) (h2 : c ≠ 35) (h : one (c :: r) = .tk k n v) (a : Nat) (acc : List Tk) : lxx (c :: r) a acc = lxx ((c :: r).drop n) (a + n) (acc ++ [⟨k, bB ((c :: r).take n), v, a⟩]) := by
  show lx (r.length + 1 + 1) (c :: r) a acc = _
  rw [lx, if_neg (by rw [h1]; decide), if_neg h2, h]
  refine lx_step ?_
  have := one_tk h
  simp only [List.length_drop, List.length_cons] at this ⊢
  omega
end Go.Proofs.YtdgphhdkeikbaaaDoor
