/-
  The plain mathematics of the order: encodings differ at a byte before either ends, and there they are ordered like the values.
-/
import Derived.Test.YtdnjjppidolnbaaRound
import Derived.Lib.Small
namespace Go.Proofs.Ytdnjjppidolnbaa
open Go.RowKit

/-- p and q differ at a byte before either ends, and p has the smaller one there. -/
def LtB (p q : List UInt8) : Prop := ∃ z a b p' q', p = z ++ a :: p' ∧ q = z ++ b :: q' ∧ a.toNat < b.toNat
theorem LtB.head {a b : UInt8} (p q : List UInt8) (h : a.toNat < b.toNat) : LtB (a :: p) (b :: q) := ⟨[], a, b, p, q, rfl, rfl, h⟩
theorem LtB.common {p q : List UInt8} (h : LtB p q) (z : List UInt8) : LtB (z ++ p) (z ++ q) := by
  obtain ⟨y, a, b, p', q', rfl, rfl, hab⟩ := h
  exact ⟨z ++ y, a, b, p', q', by simp, by simp, hab⟩
theorem LtB.app {p q : List UInt8} (h : LtB p q) (r s : List UInt8) : LtB (p ++ r) (q ++ s) := by
  obtain ⟨y, a, b, p', q', rfl, rfl, hab⟩ := h
  exact ⟨y, a, b, p' ++ r, q' ++ s, by simp, by simp, hab⟩

theorem cmp_common (z a b : List UInt8) : Lib.compareBytes (z ++ a) (z ++ b) = Lib.compareBytes a b := by
  induction z with
  | nil => rfl
  | cons c z ih =>
    rw [List.cons_append, List.cons_append, Lib.compareBytes]
    have hc : ¬ c < c := by rw [UInt8.lt_iff_toNat_lt]; omega
    rw [if_neg hc, if_neg hc, ih]
theorem cmp_self (a : List UInt8) : Lib.compareBytes a a = 0 := by
  have := cmp_common a [] []
  rw [List.append_nil] at this
  rw [this]; rfl
theorem cmp_lt {p q : List UInt8} (h : LtB p q) : Lib.compareBytes p q = -1 := by
  obtain ⟨y, a, b, p', q', rfl, rfl, hab⟩ := h
  rw [cmp_common, Lib.compareBytes, if_pos (by rw [UInt8.lt_iff_toNat_lt]; exact hab)]
theorem cmp_gt {p q : List UInt8} (h : LtB p q) : Lib.compareBytes q p = 1 := by
  obtain ⟨y, a, b, p', q', rfl, rfl, hab⟩ := h
  rw [cmp_common, Lib.compareBytes, if_neg (by rw [UInt8.lt_iff_toNat_lt]; omega), if_pos (by rw [UInt8.lt_iff_toNat_lt]; exact hab)]

theorem prefix_common (z a b : List UInt8) : (z ++ a).isPrefixOf (z ++ b) = a.isPrefixOf b := by
  induction z with
  | nil => rfl
  | cons c z ih => simp [ih]
theorem not_prefix {p q : List UInt8} (h : LtB p q) : q.isPrefixOf p = false ∧ p.isPrefixOf q = false := by
  obtain ⟨y, a, b, p', q', rfl, rfl, hab⟩ := h
  have hne : a ≠ b := by rintro rfl; omega
  constructor
  · rw [prefix_common]
    simp [List.isPrefixOf, hne.symm]
  · rw [prefix_common]
    simp [List.isPrefixOf, hne]

/-! ### Integers -/

theorem ofD_cons (a : UInt8) (r : List UInt8) : ofD (a :: r) = a.toNat * 256 ^ r.length + ofD r := by
  have := ofD_append [a] r
  rw [List.singleton_append] at this
  rw [this]
  simp [ofD]
theorem ltB_of_ofD (l m : List UInt8) (hl : l.length = m.length) (h : ofD l < ofD m) : LtB l m := by
  induction l generalizing m with
  | nil =>
    cases m with
    | nil => omega
    | cons => simp at hl
  | cons a r ih =>
    cases m with
    | nil => simp at hl
    | cons b t =>
      simp only [List.length_cons] at hl
      have hl' : r.length = t.length := by omega
      rw [ofD_cons, ofD_cons, hl'] at h
      by_cases hab : a.toNat < b.toNat
      · exact LtB.head _ _ hab
      · by_cases he : a.toNat = b.toNat
        · have : a = b := UInt8.toNat_inj.1 he
          subst this
          exact (ih t hl' (by omega)).common [a]
        · exfalso
          have h1 : b.toNat + 1 ≤ a.toNat := by omega
          have h2 := Nat.mul_le_mul_right (256 ^ t.length) h1
          rw [Nat.add_mul] at h2
          have := ofD_lt t
          omega
theorem inv_toNat (c : UInt8) : (c ^^^ 255).toNat = 255 - c.toNat := by
  have := inv_byte c
  have := byte_lt c
  omega
theorem ltB_inv {p q : List UInt8} (h : LtB p q) : LtB (q.map (· ^^^ 255)) (p.map (· ^^^ 255)) := by
  obtain ⟨y, a, b, p', q', rfl, rfl, hab⟩ := h
  refine ⟨y.map (· ^^^ 255), b ^^^ 255, a ^^^ 255, q'.map (· ^^^ 255), p'.map (· ^^^ 255), by simp, by simp, ?_⟩
  rw [inv_toNat, inv_toNat]
  have := byte_lt a
  have := byte_lt b
  omega
theorem mag_length_mono {m n : Nat} (h : m ≤ n) : (mag m).length ≤ (mag n).length :=
  mag_length_le (Nat.lt_of_le_of_lt h (lt_of_mag_length (Nat.le_refl _)))

theorem ltB_pos {m n : Nat} (h : m < n) (hn : n ≤ 4611686018427387904) : LtB (encM m 0) (encM n 0) := by
  have hm8 := mag8 (m := m) (by omega)
  have hn8 := mag8 (m := n) (by omega)
  have hmono := mag_length_mono (Nat.le_of_lt h)
  have e1 := (head_all ⟨(mag m).length, by omega⟩).1
  have e2 := (head_all ⟨(mag n).length, by omega⟩).1
  simp only at e1 e2
  unfold encM
  by_cases hl : (mag m).length = (mag n).length
  · rw [hl]
    refine LtB.common (z := [_]) ?_
    rw [map_xor_zero, map_xor_zero]
    exact ltB_of_ofD _ _ hl (by rw [ofD_mag, ofD_mag]; exact h)
  · exact LtB.head _ _ (by omega)
theorem ltB_neg {m n : Nat} (h : m < n) (hn : n ≤ 4611686018427387904) : LtB (encM n 255) (encM m 255) := by
  have hm8 := mag8 (m := m) (by omega)
  have hn8 := mag8 (m := n) (by omega)
  have hmono := mag_length_mono (Nat.le_of_lt h)
  have e1 := (head_all ⟨(mag m).length, by omega⟩).2
  have e2 := (head_all ⟨(mag n).length, by omega⟩).2
  simp only at e1 e2
  unfold encM
  by_cases hl : (mag m).length = (mag n).length
  · rw [hl]
    refine LtB.common (z := [_]) ?_
    exact ltB_inv (ltB_of_ofD _ _ hl (by rw [ofD_mag, ofD_mag]; exact h))
  · exact LtB.head _ _ (by omega)
theorem ltB_int {x y : Int} (h : x < y) (hx : InR x) (hy : InR y) : LtB (encInt x) (encInt y) := by
  have hmx := magOf_le hx
  have hmy := magOf_le hy
  unfold encInt
  rcases invOf_cases x with ⟨ex, h0x⟩ | ⟨ex, h0x⟩
  · have ey : invOf y = 0 := by unfold invOf; rw [if_neg (by omega)]
    rw [ex, ey]
    refine ltB_pos ?_ hmy
    unfold magOf
    rw [if_neg (by omega), if_neg (by omega)]
    omega
  · rcases invOf_cases y with ⟨ey, h0y⟩ | ⟨ey, h0y⟩
    · rw [ex, ey]
      have hx8 := mag8 (m := magOf x) (by omega)
      have hy8 := mag8 (m := magOf y) (by omega)
      have e1 := (head_all ⟨(mag (magOf x)).length, by omega⟩).2
      have e2 := (head_all ⟨(mag (magOf y)).length, by omega⟩).1
      simp only at e1 e2
      unfold encM
      exact LtB.head _ _ (by omega)
    · rw [ex, ey]
      refine ltB_neg ?_ hmx
      unfold magOf
      rw [if_pos (by omega), if_pos (by omega)]
      omega

theorem int_order (x y : Int) (hx : InR x) (hy : InR y) : Lib.compareBytes (encInt x) (encInt y) = Lib.compareInt x y := by
  unfold Lib.compareInt
  by_cases h1 : x < y
  · rw [if_pos h1]; exact cmp_lt (ltB_int h1 hx hy)
  · rw [if_neg h1]
    by_cases h2 : x > y
    · rw [if_pos h2]; exact cmp_gt (ltB_int h2 hy hx)
    · rw [if_neg h2, show x = y from by omega]; exact cmp_self _

/-! ### Lists -/

def cmpZ : List Int → List Int → Int
  | [], [] => 0
  | [], _ :: _ => -1
  | _ :: _, [] => 1
  | x :: a, y :: b => if x < y then -1 else if y < x then 1 else cmpZ a b

theorem encInt_head (n : Int) (h : InR n) : ∃ c r, encInt n = c :: r ∧ 119 ≤ c.toNat := by
  refine ⟨_, _, rfl, ?_⟩
  have h8 := mag8 (m := magOf n) (by have := magOf_le h; omega)
  have e := head_all ⟨(mag (magOf n)).length, by omega⟩
  simp only at e
  rcases invOf_cases n with ⟨ei, _⟩ | ⟨ei, _⟩
  · rw [ei]; have := e.1; omega
  · rw [ei]; have := e.2; omega

/-- Two lists are equal, or their encodings differ before either ends; and so with what follows the integers. -/
theorem list_tri (a b : List Int) (ha : AllR a) (hb : AllR b) : (a = b ∧ cmpZ a b = 0) ∨ (LtB (encList a) (encList b) ∧ cmpZ a b = -1) ∨ (LtB (encList b) (encList a) ∧ cmpZ a b = 1) := by
  induction a generalizing b with
  | nil =>
    cases b with
    | nil => exact .inl ⟨rfl, rfl⟩
    | cons y b =>
      obtain ⟨c, r, e, hc⟩ := encInt_head y (hb y (by simp))
      refine .inr (.inl ⟨?_, rfl⟩)
      rw [encList_cons, e]
      exact LtB.head (a := 1) [] _ (by simp; omega)
  | cons x a ih =>
    cases b with
    | nil =>
      obtain ⟨c, r, e, hc⟩ := encInt_head x (ha x (by simp))
      refine .inr (.inr ⟨?_, rfl⟩)
      rw [encList_cons, e]
      exact LtB.head (a := 1) [] _ (by simp; omega)
    | cons y b =>
      have hx := ha x (by simp)
      have hy := hb y (by simp)
      rw [encList_cons, encList_cons, cmpZ]
      by_cases h1 : x < y
      · rw [if_pos h1]
        exact .inr (.inl ⟨(ltB_int h1 hx hy).app _ _, rfl⟩)
      · rw [if_neg h1]
        by_cases h2 : y < x
        · rw [if_pos h2]
          exact .inr (.inr ⟨(ltB_int h2 hy hx).app _ _, rfl⟩)
        · rw [if_neg h2]
          obtain rfl : x = y := by omega
          rcases ih b (fun n hn => ha n (by simp [hn])) (fun n hn => hb n (by simp [hn])) with ⟨rfl, h⟩ | ⟨h, h'⟩ | ⟨h, h'⟩
          · exact .inl ⟨rfl, h⟩
          · exact .inr (.inl ⟨h.common _, h'⟩)
          · exact .inr (.inr ⟨h.common _, h'⟩)

theorem list_order (a b : List Int) (ha : AllR a) (hb : AllR b) : Lib.compareBytes (encList a) (encList b) = cmpZ a b := by
  rcases list_tri a b ha hb with ⟨rfl, h⟩ | ⟨h, h'⟩ | ⟨h, h'⟩
  · rw [h]; exact cmp_self _
  · rw [h']; exact cmp_lt h
  · rw [h']; exact cmp_gt h
theorem list_prefix (a b : List Int) (ha : AllR a) (hb : AllR b) : Lib.hasPrefix (encList a) (encList b) = decide (a = b) := by
  unfold Lib.hasPrefix
  rcases list_tri a b ha hb with ⟨rfl, h⟩ | ⟨h, h'⟩ | ⟨h, h'⟩
  · simp
  · have hne : a ≠ b := by
      rintro rfl
      have h1 := cmp_lt h
      rw [cmp_self] at h1
      omega
    rw [(not_prefix h).1]; simp [hne]
  · have hne : a ≠ b := by
      rintro rfl
      have h1 := cmp_lt h
      rw [cmp_self] at h1
      omega
    rw [(not_prefix h).2]; simp [hne]

/-- The encodings of integers one after the other, without the end of the list. -/
theorem flat_order (a b : List Int) (ha : AllR a) (hb : AllR b) : Lib.compareBytes (a.flatMap encInt) (b.flatMap encInt) = cmpZ a b := by
  induction a generalizing b with
  | nil =>
    cases b with
    | nil => rfl
    | cons y b =>
      obtain ⟨c, r, e, hc⟩ := encInt_head y (hb y (by simp))
      rw [List.flatMap_cons, e]; rfl
  | cons x a ih =>
    cases b with
    | nil =>
      obtain ⟨c, r, e, hc⟩ := encInt_head x (ha x (by simp))
      rw [List.flatMap_cons, e]; rfl
    | cons y b =>
      have hx := ha x (by simp)
      have hy := hb y (by simp)
      rw [List.flatMap_cons, List.flatMap_cons, cmpZ]
      by_cases h1 : x < y
      · rw [if_pos h1]; exact cmp_lt ((ltB_int h1 hx hy).app _ _)
      · rw [if_neg h1]
        by_cases h2 : y < x
        · rw [if_pos h2]; exact cmp_gt ((ltB_int h2 hy hx).app _ _)
        · rw [if_neg h2]
          obtain rfl : x = y := by omega
          rw [cmp_common]
          exact ih b (fun n hn => ha n (by simp [hn])) (fun n hn => hb n (by simp [hn]))

/-! ### Texts -/

theorem encText_cons (c : UInt8) (t : List UInt8) : encText (c :: t) = (if c = 0 then [0, 255] else [c]) ++ encText t := by simp [encText, escText_cons]
theorem zero_toNat_lt {c : UInt8} (h : c ≠ 0) : 0 < c.toNat := by
  rcases Nat.eq_zero_or_pos c.toNat with h' | h'
  · exact absurd (UInt8.toNat_inj.1 (by simpa using h')) h
  · exact h'

theorem text_tri (t u : List UInt8) : (t = u ∧ Lib.compareBytes t u = 0) ∨ (LtB (encText t) (encText u) ∧ Lib.compareBytes t u = -1) ∨ (LtB (encText u) (encText t) ∧ Lib.compareBytes t u = 1) := by
  induction t generalizing u with
  | nil =>
    cases u with
    | nil => exact .inl ⟨rfl, rfl⟩
    | cons d u =>
      refine .inr (.inl ⟨?_, rfl⟩)
      rw [encText_cons]
      by_cases hd : d = 0
      · rw [if_pos hd]
        exact (LtB.head (a := 1) (b := 255) [] _ (by decide)).common [0]
      · rw [if_neg hd]
        exact LtB.head (a := 0) [1] _ (zero_toNat_lt hd)
  | cons c t ih =>
    cases u with
    | nil =>
      refine .inr (.inr ⟨?_, rfl⟩)
      rw [encText_cons]
      by_cases hc : c = 0
      · rw [if_pos hc]
        exact (LtB.head (a := 1) (b := 255) [] _ (by decide)).common [0]
      · rw [if_neg hc]
        exact LtB.head (a := 0) [1] _ (zero_toNat_lt hc)
    | cons d u =>
      rw [encText_cons, encText_cons, Lib.compareBytes]
      by_cases h1 : c.toNat < d.toNat
      · rw [if_pos (by rw [UInt8.lt_iff_toNat_lt]; exact h1)]
        have hd : d ≠ 0 := by rintro rfl; simp at h1
        refine .inr (.inl ⟨?_, rfl⟩)
        rw [if_neg hd]
        by_cases hc : c = 0
        · rw [if_pos hc]; exact LtB.head _ _ (zero_toNat_lt hd)
        · rw [if_neg hc]; exact LtB.head _ _ h1
      · rw [if_neg (by rw [UInt8.lt_iff_toNat_lt]; exact h1)]
        by_cases h2 : d.toNat < c.toNat
        · rw [if_pos (by rw [UInt8.lt_iff_toNat_lt]; exact h2)]
          have hc : c ≠ 0 := by rintro rfl; simp at h2
          refine .inr (.inr ⟨?_, rfl⟩)
          rw [if_neg hc]
          by_cases hd : d = 0
          · rw [if_pos hd]; exact LtB.head _ _ (zero_toNat_lt hc)
          · rw [if_neg hd]; exact LtB.head _ _ h2
        · rw [if_neg (by rw [UInt8.lt_iff_toNat_lt]; exact h2)]
          obtain rfl : c = d := UInt8.toNat_inj.1 (by omega)
          rcases ih u with ⟨rfl, h⟩ | ⟨h, h'⟩ | ⟨h, h'⟩
          · exact .inl ⟨rfl, h⟩
          · exact .inr (.inl ⟨h.common _, h'⟩)
          · exact .inr (.inr ⟨h.common _, h'⟩)
theorem text_order (t u : List UInt8) : Lib.compareBytes (encText t) (encText u) = Lib.compareBytes t u := by
  rcases text_tri t u with ⟨rfl, h⟩ | ⟨h, h'⟩ | ⟨h, h'⟩
  · rw [h]; exact cmp_self _
  · rw [h']; exact cmp_lt h
  · rw [h']; exact cmp_gt h
theorem text_prefix (t u : List UInt8) : Lib.hasPrefix (encText t) (encText u) = decide (t = u) := by
  unfold Lib.hasPrefix
  rcases text_tri t u with ⟨rfl, h⟩ | ⟨h, h'⟩ | ⟨h, h'⟩
  · simp
  · have hne : t ≠ u := by
      rintro rfl
      rw [cmp_self] at h'
      omega
    rw [(not_prefix h).1]; simp [hne]
  · have hne : t ≠ u := by
      rintro rfl
      rw [cmp_self] at h'
      omega
    rw [(not_prefix h).2]; simp [hne]

end Go.Proofs.Ytdnjjppidolnbaa
