/-
  The plain mathematics of codec's encodings (no program in it): big-endian digits of a natural number, the encodings of integers, texts and lists, what reads them, and that both agree.
-/
import Derived.Lib.BitFns
import Derived.Lib.UnsafeStr
namespace Go.Proofs.Ytpkmdonejmbnoaa

/-- The digits of m to the base 256, the most significant one first; 0 has none. -/
def mag (m : Nat) : List UInt8 := if _h : m = 0 then [] else mag (m / 256) ++ [UInt8.ofNat (m % 256)]
termination_by m
decreasing_by omega

theorem mag_zero : mag 0 = [] := by rw [mag]; simp
theorem mag_pos {m : Nat} (h : m ≠ 0) : mag m = mag (m / 256) ++ [UInt8.ofNat (m % 256)] := by rw [mag]; simp [h]

/-- The number with given digits. -/
def ofD (l : List UInt8) : Nat := l.foldl (fun n b => n * 256 + b.toNat) 0
theorem ofD_nil : ofD [] = 0 := rfl
theorem ofD_snoc (l : List UInt8) (b : UInt8) : ofD (l ++ [b]) = ofD l * 256 + b.toNat := by simp [ofD]

theorem byte_lt (b : UInt8) : b.toNat < 256 := b.toNat_lt
theorem ofNat_toNat_lt {n : Nat} (h : n < 256) : (UInt8.ofNat n).toNat = n := by simp; omega

theorem ofD_mag (m : Nat) : ofD (mag m) = m := by
  induction m using Nat.strongRecOn with
  | ind m ih =>
    by_cases h : m = 0
    · subst h; rw [mag_zero]; rfl
    · rw [mag_pos h, ofD_snoc, ih (m / 256) (by omega), ofNat_toNat_lt (by omega)]; omega

theorem list_snoc {α : Type} (l : List α) (h : l ≠ []) : ∃ i x, l = i ++ [x] := ⟨l.dropLast, l.getLast h, (List.dropLast_concat_getLast h).symm⟩

/-- No digit 0 at the front. -/
def Canon (l : List UInt8) : Prop := ∀ b r, l = b :: r → b ≠ 0

theorem mag_canon (m : Nat) : Canon (mag m) := by
  induction m using Nat.strongRecOn with
  | ind m ih =>
    intro b r hb
    by_cases h : m = 0
    · subst h; rw [mag_zero] at hb; cases hb
    · rw [mag_pos h] at hb
      by_cases h2 : m / 256 = 0
      · rw [h2, mag_zero] at hb
        simp at hb
        rw [← hb.1]
        intro e
        have := congrArg UInt8.toNat e
        simp at this
        omega
      · cases hm : mag (m / 256) with
        | nil =>
          have := ofD_mag (m / 256)
          rw [hm] at this
          simp [ofD] at this
          omega
        | cons c t =>
          rw [hm] at hb
          simp at hb
          exact hb.1 ▸ ih (m / 256) (by omega) c t hm

theorem mag_ofD (l : List UInt8) (h : Canon l) : mag (ofD l) = l := by
  generalize hn : l.length = n
  induction n generalizing l with
  | zero => rw [List.length_eq_zero_iff.1 hn]; exact mag_zero
  | succ n ih =>
    obtain ⟨i, x, rfl⟩ := list_snoc l (by intro e; simp [e] at hn)
    have hi : Canon i := by
      intro b r e
      exact h b (r ++ [x]) (by rw [e]; rfl)
    have e1 := ih i hi (by simpa using hn)
    have hx := byte_lt x
    have hpos : ofD (i ++ [x]) ≠ 0 := by
      rw [ofD_snoc]
      cases i with
      | nil =>
        have := h x [] rfl
        intro e
        apply this
        have e2 : x.toNat = 0 := by omega
        exact UInt8.toNat_inj.1 (by simpa using e2)
      | cons b r =>
        intro e
        have : ofD (b :: r) = 0 := by omega
        rw [this, mag_zero] at e1
        cases e1
    rw [mag_pos hpos, ofD_snoc]
    rw [show (ofD i * 256 + x.toNat) / 256 = ofD i from by omega, e1, show (ofD i * 256 + x.toNat) % 256 = x.toNat from by omega]
    simp

theorem mag_length_pos {m : Nat} (h : m ≠ 0) : (mag m).length = (mag (m / 256)).length + 1 := by rw [mag_pos h]; simp

theorem ofD_lt (l : List UInt8) : ofD l < 256 ^ l.length := by
  generalize hn : l.length = n
  induction n generalizing l with
  | zero => rw [List.length_eq_zero_iff.1 hn]; simp [ofD]
  | succ n ih =>
    obtain ⟨i, x, rfl⟩ := list_snoc l (by intro e; simp [e] at hn)
    have := ih i (by simpa using hn)
    have hx := byte_lt x
    rw [ofD_snoc, Nat.pow_succ]
    omega

theorem mag_length_le {m k : Nat} (h : m < 256 ^ k) : (mag m).length ≤ k := by
  induction k generalizing m with
  | zero => simp at h; subst h; rw [mag_zero]; simp
  | succ k ih =>
    by_cases h0 : m = 0
    · subst h0; rw [mag_zero]; simp
    · rw [mag_length_pos h0]
      have := ih (m := m / 256) (by rw [Nat.pow_succ] at h; omega)
      omega

theorem lt_of_mag_length {m k : Nat} (h : (mag m).length ≤ k) : m < 256 ^ k := by
  have h1 := ofD_lt (mag m)
  rw [ofD_mag] at h1
  exact Nat.lt_of_lt_of_le h1 (Nat.pow_le_pow_right (by omega) h)

/-- The digit with weight 256^i. -/
theorem mag_digit (m i : Nat) (h : i < (mag m).length) : (mag m)[(mag m).length - 1 - i]? = some (UInt8.ofNat (m / 256 ^ i % 256)) := by
  induction i generalizing m with
  | zero =>
    have h0 : m ≠ 0 := by intro e; subst e; rw [mag_zero] at h; simp at h
    rw [mag_pos h0]
    simp
  | succ i ih =>
    have h0 : m ≠ 0 := by intro e; subst e; rw [mag_zero] at h; simp at h
    have hl := mag_length_pos h0
    have := ih (m / 256) (by omega)
    rw [Nat.div_div_eq_div_mul, Nat.mul_comm, ← Nat.pow_succ] at this
    rw [hl, mag_pos h0, ← this, List.getElem?_append_left (by omega)]
    congr 1
    omega

theorem bitLenAux_zero (f : Nat) : Lib.bitLenAux f 0 = 0 := by cases f <;> simp [Lib.bitLenAux]
theorem bitLenAux_pos {f x : Nat} (h : x ≠ 0) : Lib.bitLenAux (f + 1) x = 1 + Lib.bitLenAux f (x / 2) := by simp [Lib.bitLenAux, h]
theorem bitLenAux_le (k f x : Nat) (h : x < 2 ^ k) : Lib.bitLenAux f x ≤ k := by
  induction k generalizing f x with
  | zero => simp at h; subst h; rw [bitLenAux_zero]; omega
  | succ k ih =>
    by_cases h0 : x = 0
    · subst h0; rw [bitLenAux_zero]; omega
    · cases f with
      | zero => simp [Lib.bitLenAux]
      | succ f =>
        rw [bitLenAux_pos h0]
        have := ih f (x / 2) (by rw [Nat.pow_succ] at h; omega)
        omega
theorem bitLenAux_byte (f x : Nat) (h : 256 ≤ x) : Lib.bitLenAux (f + 8) x = 8 + Lib.bitLenAux f (x / 256) := by
  rw [show f + 8 = f + 1 + 1 + 1 + 1 + 1 + 1 + 1 + 1 from rfl]
  rw [bitLenAux_pos (by omega), bitLenAux_pos (by omega), bitLenAux_pos (by omega), bitLenAux_pos (by omega), bitLenAux_pos (by omega), bitLenAux_pos (by omega), bitLenAux_pos (by omega), bitLenAux_pos (by omega)]
  simp only [Nat.div_div_eq_div_mul, Nat.reduceMul]
  omega

theorem digits_aux (j x : Nat) (h : x < 256 ^ j) : (Lib.bitLenAux (8 * j) x + 7) / 8 = (mag x).length := by
  induction j generalizing x with
  | zero => simp at h; subst h; rw [mag_zero, bitLenAux_zero]; rfl
  | succ j ih =>
    by_cases h0 : x = 0
    · subst h0; rw [mag_zero, bitLenAux_zero]; rfl
    · rw [mag_length_pos h0]
      by_cases h1 : x < 256
      · rw [show x / 256 = 0 from by omega, mag_zero]
        have a := bitLenAux_le 8 (8 * (j + 1)) x (by omega)
        have b : 1 ≤ Lib.bitLenAux (8 * (j + 1)) x := by
          rw [show 8 * (j + 1) = (8 * j + 7) + 1 from by omega, bitLenAux_pos h0]; omega
        simp
        omega
      · have := ih (x / 256) (by rw [Nat.pow_succ] at h; omega)
        rw [← this, show 8 * (j + 1) = 8 * j + 8 from by omega, bitLenAux_byte _ _ (by omega)]
        omega
theorem digits_eq (x : Nat) (h : x ≤ 18446744073709551615) : (Lib.bitLen x + 7) / 8 = (mag x).length := digits_aux 8 x (by omega)

/-! ### Integers -/

def InR (n : Int) : Prop := -4611686018427387904 ≤ n ∧ n ≤ 4611686018427387904
instance (n : Int) : Decidable (InR n) := by unfold InR; infer_instance

/-- The number of digits, and the digits, each turned around if 'inv' is 255. -/
def encM (m : Nat) (inv : UInt8) : List UInt8 := (UInt8.ofNat (128 + (mag m).length) ^^^ inv) :: (mag m).map (· ^^^ inv)
def magOf (n : Int) : Nat := if n < 0 then (-n - 1).toNat else n.toNat
def invOf (n : Int) : UInt8 := if n < 0 then 255 else 0
def encInt (n : Int) : List UInt8 := encM (magOf n) (invOf n)

theorem magOf_le {n : Int} (h : InR n) : magOf n ≤ 4611686018427387904 := by unfold InR at h; unfold magOf; split <;> omega
theorem mag8 {m : Nat} (h : m ≤ 18446744073709551615) : (mag m).length ≤ 8 := mag_length_le (by omega)
theorem encM_length (m : Nat) (inv : UInt8) : (encM m inv).length = (mag m).length + 1 := by simp [encM]
theorem encInt_length_le {n : Int} (h : InR n) : (encInt n).length ≤ 9 := by
  have := mag8 (m := magOf n) (by have := magOf_le h; omega)
  rw [encInt, encM_length]; omega
theorem encInt_length_pos (n : Int) : 1 ≤ (encInt n).length := by rw [encInt, encM_length]; omega

/-- What a reader finds: a value and the number of bytes that it takes, or an error. -/
inductive Rd (α : Type) where
  | ok (x : α) (k : Nat)
  | err (e : Nat)

def invC (c : UInt8) : UInt8 := if c < 128 then 255 else 0
def kOf (c : UInt8) : Nat := (c ^^^ invC c).toNat - 128
def sgn (c : UInt8) (m : Nat) : Int := if c < 128 then -(m : Int) - 1 else m
def digs (c : UInt8) (r : List UInt8) : List UInt8 := (r.take (kOf c)).map (· ^^^ invC c)
def decInt : List UInt8 → Rd Int
  | [] => .err 11
  | c :: r =>
    if 8 < kOf c then .err 12
    else if r.length < kOf c then .err 11
    else if (mag (ofD (digs c r))).length = kOf c ∧ ofD (digs c r) ≤ 4611686018427387904 ∧ InR (sgn c (ofD (digs c r))) then .ok (sgn c (ofD (digs c r))) (1 + kOf c)
    else .err 12

theorem xor_xor (a b : UInt8) : (a ^^^ b) ^^^ b = a := by rw [UInt8.xor_assoc, UInt8.xor_self, UInt8.xor_zero]
theorem map_xor_xor (l : List UInt8) (b : UInt8) : (l.map (· ^^^ b)).map (· ^^^ b) = l := by
  rw [List.map_map]
  conv => rhs; rw [← List.map_id l]
  apply List.map_congr_left
  intro x _
  exact xor_xor x b

theorem head_facts : ∀ k : Fin 9, (invC (UInt8.ofNat (128 + k.val) ^^^ 0) = 0 ∧ kOf (UInt8.ofNat (128 + k.val) ^^^ 0) = k.val) ∧ (invC (UInt8.ofNat (128 + k.val) ^^^ 255) = 255 ∧ kOf (UInt8.ofNat (128 + k.val) ^^^ 255) = k.val) := by decide +kernel
theorem sgn_pos {c : UInt8} (h : invC c = 0) (m : Nat) : sgn c m = m := by
  unfold invC at h; unfold sgn
  split at h
  · cases h
  · rename_i h1; rw [if_neg h1]
theorem sgn_neg {c : UInt8} (h : invC c = 255) (m : Nat) : sgn c m = -(m : Int) - 1 := by
  unfold invC at h; unfold sgn
  split at h
  · rename_i h1; rw [if_pos h1]
  · cases h

theorem dec_encM (m : Nat) (inv : UInt8) (hinv : inv = 0 ∨ inv = 255) (hm : m ≤ 4611686018427387904) (rest : List UInt8) :
    ∃ c, invC c = inv ∧ kOf c = (mag m).length ∧ encM m inv ++ rest = c :: ((mag m).map (· ^^^ inv) ++ rest) ∧ digs c ((mag m).map (· ^^^ inv) ++ rest) = mag m := by
  have h8 := mag8 (m := m) (by omega)
  have hf := head_facts ⟨(mag m).length, by omega⟩
  refine ⟨UInt8.ofNat (128 + (mag m).length) ^^^ inv, ?_, ?_, rfl, ?_⟩
  · rcases hinv with rfl | rfl
    · exact hf.1.1
    · exact hf.2.1
  · rcases hinv with rfl | rfl
    · exact hf.1.2
    · exact hf.2.2
  · have hk : kOf (UInt8.ofNat (128 + (mag m).length) ^^^ inv) = (mag m).length := by
      rcases hinv with rfl | rfl
      · exact hf.1.2
      · exact hf.2.2
    have hi : invC (UInt8.ofNat (128 + (mag m).length) ^^^ inv) = inv := by
      rcases hinv with rfl | rfl
      · exact hf.1.1
      · exact hf.2.1
    unfold digs
    rw [hk, hi, List.take_append_of_le_length (by simp), List.take_of_length_le (by simp), map_xor_xor]

theorem invOf_cases (n : Int) : (invOf n = 0 ∧ 0 ≤ n) ∨ (invOf n = 255 ∧ n < 0) := by unfold invOf; split <;> simp <;> omega

theorem decInt_encInt (n : Int) (h : InR n) (rest : List UInt8) : decInt (encInt n ++ rest) = .ok n (encInt n).length := by
  have hm := magOf_le h
  have h8 := mag8 (m := magOf n) (by omega)
  obtain ⟨c, h1, h2, h3, h4⟩ := dec_encM (magOf n) (invOf n) (by rcases invOf_cases n with h | h <;> simp [h.1]) hm rest
  have hs : sgn c (magOf n) = n := by
    rcases invOf_cases n with ⟨e, hn⟩ | ⟨e, hn⟩
    · rw [sgn_pos (h1.trans e)]; unfold magOf; rw [if_neg (by omega)]; omega
    · rw [sgn_neg (h1.trans e)]; unfold magOf; rw [if_pos hn]; omega
  unfold encInt
  rw [h3, decInt]
  rw [h4, h2, ofD_mag, hs, if_neg (by omega), if_neg (by simp), if_pos ⟨rfl, hm, h⟩, encM_length, Nat.add_comm]

theorem head_back_all : ∀ c : Fin 256, ¬ 8 < kOf (UInt8.ofNat c.val) → UInt8.ofNat (128 + kOf (UInt8.ofNat c.val)) ^^^ invC (UInt8.ofNat c.val) = UInt8.ofNat c.val := by decide +kernel
theorem head_back (c : UInt8) (h : ¬ 8 < kOf c) : UInt8.ofNat (128 + kOf c) ^^^ invC c = c := by
  have e : UInt8.ofNat c.toNat = c := UInt8.ofNat_toNat
  have := head_back_all ⟨c.toNat, byte_lt c⟩
  simp only [e] at this
  exact this h

theorem decInt_canonical {l : List UInt8} {n : Int} {k : Nat} (h : decInt l = .ok n k) : InR n ∧ 1 ≤ k ∧ k ≤ l.length ∧ encInt n = l.take k := by
  cases l with
  | nil => simp [decInt] at h
  | cons c r =>
    rw [decInt] at h
    by_cases a : 8 < kOf c
    · rw [if_pos a] at h; cases h
    · rw [if_neg a] at h
      by_cases b : r.length < kOf c
      · rw [if_pos b] at h; cases h
      · rw [if_neg b] at h
        by_cases d : (mag (ofD (digs c r))).length = kOf c ∧ ofD (digs c r) ≤ 4611686018427387904 ∧ InR (sgn c (ofD (digs c r)))
        · rw [if_pos d] at h
          injection h with h1 h2
          obtain ⟨d1, d2, d3⟩ := d
          have hl : (digs c r).length = kOf c := by simp [digs]; omega
          have hcanon : mag (ofD (digs c r)) = digs c r := by
            apply mag_ofD
            intro b t e hb
            -- a digit 0 at the front would make the number too short
            subst hb
            have e2 : ofD (digs c r) = ofD t := by rw [e]; simp [ofD]
            have e3 := ofD_lt t
            rw [← e2] at e3
            have := mag_length_le e3
            rw [d1, ← hl, e] at this
            simp only [List.length_cons] at this
            omega
          refine ⟨h1 ▸ d3, by omega, by simp; omega, ?_⟩
          subst h2
          rw [Nat.add_comm 1, List.take_succ_cons]
          subst h1
          have key : magOf (sgn c (ofD (digs c r))) = ofD (digs c r) ∧ invOf (sgn c (ofD (digs c r))) = invC c := by
            unfold sgn invC magOf invOf
            by_cases hc : c < 128
            · simp only [hc, if_true]
              rw [if_pos (by omega), if_pos (by omega)]
              exact ⟨by omega, rfl⟩
            · simp only [hc, if_false]
              rw [if_neg (by omega), if_neg (by omega)]
              exact ⟨by omega, rfl⟩
          unfold encInt
          rw [key.1, key.2]
          unfold encM
          rw [hcanon, hl]
          have hd : (digs c r).map (· ^^^ invC c) = r.take (kOf c) := by unfold digs; exact map_xor_xor _ _
          rw [hd, head_back c a]
        · rw [if_neg d] at h; cases h

end Go.Proofs.Ytpkmdonejmbnoaa
