/-
  The plain mathematics of checksum (no program in it): the two sums of a string, their closed forms, what a concatenation, a changed byte and an exchange do to them, the frame of a string and what reads it.
-/
import Derived.Test.YtoffacjefnmmmaaPlain
namespace Go.Proofs.Ytoffacjefnmmmaa

/-- The two sums behind one byte, and behind a string. -/
def step2 (t : Nat × Nat) (c : UInt8) : Nat × Nat := ((t.1 + c.toNat) % 65521, (t.2 + (t.1 + c.toNat) % 65521) % 65521)
def adl (t : Nat × Nat) (l : List UInt8) : Nat × Nat := l.foldl step2 t
def csOf (t : Nat × Nat) : Nat := t.2 * 65536 + t.1
def sumN (l : List UInt8) : Nat := csOf (adl (1, 0) l)
def Ok2 (t : Nat × Nat) : Prop := t.1 < 65521 ∧ t.2 < 65521

theorem adl_nil (t : Nat × Nat) : adl t [] = t := rfl
theorem adl_cons (t : Nat × Nat) (c : UInt8) (l : List UInt8) : adl t (c :: l) = adl (step2 t c) l := rfl
theorem adl_snoc (t : Nat × Nat) (l : List UInt8) (c : UInt8) : adl t (l ++ [c]) = step2 (adl t l) c := by simp [adl]
theorem adl_append (t : Nat × Nat) (l r : List UInt8) : adl t (l ++ r) = adl (adl t l) r := by simp [adl]
theorem step2_ok (t : Nat × Nat) (c : UInt8) : Ok2 (step2 t c) := ⟨Nat.mod_lt _ (by decide), Nat.mod_lt _ (by decide)⟩
theorem adl_ok (t : Nat × Nat) (l : List UInt8) (h : Ok2 t) : Ok2 (adl t l) := by
  induction l generalizing t with
  | nil => exact h
  | cons c r ih => exact ih _ (step2_ok t c)
theorem ok0 : Ok2 (1, 0) := ⟨by decide, by decide⟩
theorem sum_ok (l : List UInt8) : Ok2 (adl (1, 0) l) := adl_ok _ _ ok0
theorem csOf_lt {t : Nat × Nat} (h : Ok2 t) : csOf t < 4294967296 := by unfold csOf; have := h.1; have := h.2; omega
theorem csOf_mod {t : Nat × Nat} (h : Ok2 t) : csOf t % 65536 = t.1 := by unfold csOf; have := h.1; omega
theorem csOf_div {t : Nat × Nat} (h : Ok2 t) : csOf t / 65536 = t.2 := by unfold csOf; have := h.1; omega
theorem csOf_inj {t u : Nat × Nat} (ht : Ok2 t) (hu : Ok2 u) (h : csOf t = csOf u) : t = u := by
  have a := csOf_mod ht; have b := csOf_div ht
  rw [h, csOf_mod hu] at a
  rw [h, csOf_div hu] at b
  exact Prod.ext a.symm b.symm

/-! ### Closed forms -/

def sA : List UInt8 → Nat
  | [] => 0
  | c :: r => c.toNat + sA r
def sB : List UInt8 → Nat
  | [] => 0
  | c :: r => (r.length + 1) * c.toNat + sB r

theorem adl_fst (a b : Nat) (l : List UInt8) (ha : a < 65521) : (adl (a, b) l).1 = (a + sA l) % 65521 := by
  induction l generalizing a b with
  | nil => simp [adl, sA]; omega
  | cons c r ih =>
    rw [adl_cons]
    unfold step2
    rw [ih _ _ (Nat.mod_lt _ (by decide))]
    simp only [sA]
    omega
theorem mod_aux (b L a c s : Nat) : ((b + (a + c) % 65521) % 65521 + L * ((a + c) % 65521) + s) % 65521 = (b + (L + 1) * a + ((L + 1) * c + s)) % 65521 := by
  obtain ⟨q, hq⟩ : ∃ q, (a + c) / 65521 = q := ⟨_, rfl⟩
  obtain ⟨m, hm⟩ : ∃ m, (a + c) % 65521 = m := ⟨_, rfl⟩
  have hr : a + c = 65521 * q + m := by omega
  rw [hm]
  have h1 := Nat.succ_mul L a
  have h2 := Nat.succ_mul L c
  have h3 : L * a + L * c = 65521 * (L * q) + L * m := by rw [← Nat.mul_add, hr, Nat.mul_add, Nat.mul_left_comm]
  simp only [Nat.succ_eq_add_one] at h1 h2
  rw [h1, h2]
  generalize L * a = x1 at *
  generalize L * c = x2 at *
  generalize L * q = x3 at *
  generalize L * m = x4 at *
  omega
theorem adl_snd (a b : Nat) (l : List UInt8) (hb : b < 65521) : (adl (a, b) l).2 = (b + l.length * a + sB l) % 65521 := by
  induction l generalizing a b with
  | nil => simp [adl, sB]; omega
  | cons c r ih =>
    rw [adl_cons]
    unfold step2
    rw [ih _ _ (Nat.mod_lt _ (by decide))]
    simp only [sB, List.length_cons]
    exact mod_aux b r.length a c.toNat (sB r)

/-! ### Concatenation -/

/-- What Combine makes of the two sums of two strings, the second of which has n bytes. -/
def comb (t u : Nat × Nat) (n : Nat) : Nat × Nat :=
  ((t.1 + u.1 + 65520) % 65521, (((t.2 + u.2 + n * t.1 : Nat) : Int) - (n : Int)).emod 65521 |>.toNat)
theorem comb_snd (t u : Nat × Nat) (n : Nat) : ((comb t u n).2 : Int) = (((t.2 + u.2 + n * t.1 : Nat) : Int) - (n : Int)) % 65521 := by
  unfold comb
  show ((Int.toNat ((((t.2 + u.2 + n * t.1 : Nat) : Int) - (n : Int)) % 65521) : Nat) : Int) = _
  generalize (((t.2 + u.2 + n * t.1 : Nat) : Int) - (n : Int)) = z
  omega
theorem comb_ok (t u : Nat × Nat) (n : Nat) : Ok2 (comb t u n) := by
  refine ⟨Nat.mod_lt _ (by decide), ?_⟩
  have := comb_snd t u n
  generalize (((t.2 + u.2 + n * t.1 : Nat) : Int) - (n : Int)) = z at this
  omega
theorem comb_adl (x y : List UInt8) : comb (adl (1, 0) x) (adl (1, 0) y) y.length = adl (1, 0) (x ++ y) := by
  rw [adl_append]
  have ho := sum_ok x
  generalize adl (1, 0) x = t at ho ⊢
  obtain ⟨a, b⟩ := t
  have ha : a < 65521 := ho.1
  have hb : b < 65521 := ho.2
  have f1 := adl_fst 1 0 y (by decide)
  have f2 := adl_snd 1 0 y (by decide)
  have g1 := adl_fst a b y ha
  have g2 := adl_snd a b y hb
  refine Prod.ext ?_ ?_
  · show (a + (adl (1, 0) y).1 + 65520) % 65521 = _
    rw [f1, g1]
    omega
  · have hc := comb_snd (a, b) (adl (1, 0) y) y.length
    have e : (comb (a, b) (adl (1, 0) y) y.length).2 = (adl (a, b) y).2 := by
      apply Int.ofNat.inj
      show ((comb (a, b) (adl (1, 0) y) y.length).2 : Int) = _
      rw [hc, f2, g2]
      show (((b + (0 + y.length * 1 + sB y) % 65521 + y.length * a : Nat) : Int) - (y.length : Int)) % 65521 = ((b + y.length * a + sB y) % 65521 : Nat)
      generalize y.length * a = z
      omega
    exact e

/-! ### A changed byte, an exchange -/

theorem sA_set (l : List UInt8) (i : Nat) (c : UInt8) (h : i < l.length) : sA (l.set i c) + l[i].toNat = sA l + c.toNat := by
  induction l generalizing i with
  | nil => simp at h
  | cons x r ih =>
    cases i with
    | zero => simp [sA]; omega
    | succ i =>
      have := ih i (by simpa using h)
      simp [sA]
      omega
theorem sB_set (l : List UInt8) (i : Nat) (c : UInt8) (h : i < l.length) : sB (l.set i c) + (l.length - i) * l[i].toNat = sB l + (l.length - i) * c.toNat := by
  induction l generalizing i with
  | nil => simp at h
  | cons x r ih =>
    cases i with
    | zero => simp [sB]; omega
    | succ i =>
      have := ih i (by simpa using h)
      simp only [sB, List.set_cons_succ, List.getElem_cons_succ, List.length_set, List.length_cons]
      rw [show r.length + 1 - (i + 1) = r.length - i from by omega]
      omega

theorem sB_set' (l : List UInt8) (i : Nat) (c : UInt8) (n : Nat) (x : UInt8) (hn : l.length = n) (hx : l[i]? = some x) : sB (l.set i c) + (n - i) * x.toNat = sB l + (n - i) * c.toNat := by
  obtain ⟨h, hx⟩ := List.getElem?_eq_some_iff.1 hx
  subst hn; subst hx
  exact sB_set l i c h

theorem sumN_set_ne (l : List UInt8) (i : Nat) (c : UInt8) (h : i < l.length) (hc : c ≠ l[i]) : sumN (l.set i c) ≠ sumN l := by
  intro e
  have e2 := congrArg Prod.fst (csOf_inj (sum_ok _) (sum_ok _) e)
  rw [adl_fst _ _ _ (by decide), adl_fst _ _ _ (by decide)] at e2
  have h3 := sA_set l i c h
  have h4 := byte_lt c
  have h5 := byte_lt l[i]
  apply hc
  apply UInt8.toNat_inj.1
  omega

theorem swap_aux (X Y Z p q n i k : Nat) (hik : i < k) (hk : k < n) (hd : k - i ≤ 256) (hne : p ≠ q) (b1 : p < 256) (b2 : q < 256) (h1 : Y + (n - i) * p = Z + (n - i) * q) (h2 : X + (n - k) * q = Y + (n - k) * p) (e2 : (0 + n * 1 + X) % 65521 = (0 + n * 1 + Z) % 65521) : False := by
  obtain ⟨d, hd1⟩ : ∃ d, k = i + d := ⟨k - i, by omega⟩
  obtain ⟨m, hm⟩ : ∃ m, n - k = m := ⟨_, rfl⟩
  have hi : n - i = m + d := by omega
  rw [hi] at h1
  rw [hm] at h2
  rw [Nat.add_mul, Nat.add_mul] at h1
  have hd2 : 1 ≤ d := by omega
  have hd3 : d ≤ 256 := by omega
  clear hi hm
  rcases Nat.lt_or_gt_of_ne hne with hlt | hgt
  · obtain ⟨f, rfl⟩ : ∃ f, q = p + f := ⟨q - p, by omega⟩
    have hf : 1 ≤ d * f := Nat.mul_pos (by omega) (by omega)
    have hf2 : d * f ≤ 256 * 255 := Nat.mul_le_mul hd3 (by omega)
    rw [Nat.mul_add d p f] at h1
    generalize d * f = g at *
    generalize d * p = u at *
    generalize m * p = v at *
    generalize m * (p + f) = v2 at *
    omega
  · obtain ⟨f, rfl⟩ : ∃ f, p = q + f := ⟨p - q, by omega⟩
    have hf : 1 ≤ d * f := Nat.mul_pos (by omega) (by omega)
    have hf2 : d * f ≤ 256 * 255 := Nat.mul_le_mul hd3 (by omega)
    rw [Nat.mul_add d q f] at h1
    generalize d * f = g at *
    generalize d * q = u at *
    generalize m * q = v at *
    generalize m * (q + f) = v2 at *
    omega

theorem sumN_swap_ne (l : List UInt8) (i k : Nat) (hik : i < k) (hk : k < l.length) (hd : k - i ≤ 256) (hc : l[i] ≠ l[k]) : sumN ((l.set i l[k]).set k l[i]) ≠ sumN l := by
  intro e
  have e2 := congrArg Prod.snd (csOf_inj (sum_ok _) (sum_ok _) e)
  rw [adl_snd _ _ _ (by decide), adl_snd _ _ _ (by decide)] at e2
  have h1 := sB_set l i l[k] (by omega)
  have h2 := sB_set' (l.set i l[k]) k l[i] l.length l[k] (by simp) (by rw [List.getElem?_set_ne (by omega)]; exact List.getElem?_eq_getElem hk)
  rw [List.length_set, List.length_set] at e2
  exact swap_aux _ _ _ _ _ _ _ _ hik hk hd (fun h => hc (UInt8.toNat_inj.1 h)) (byte_lt _) (byte_lt _) h1 h2 e2

/-! ### Frames -/

/-- The four bytes of a checksum, the most significant one first. -/
def be4 (n : Nat) : List UInt8 := [UInt8.ofNat (n / 16777216), UInt8.ofNat (n / 65536 % 256), UInt8.ofNat (n / 256 % 256), UInt8.ofNat (n % 256)]
theorem be4_length (n : Nat) : (be4 n).length = 4 := rfl
theorem be4_inj {m n : Nat} (hm : m < 4294967296) (hn : n < 4294967296) (h : be4 m = be4 n) : m = n := by
  unfold be4 at h
  injection h with a h
  injection h with b h
  injection h with c h
  injection h with d h
  have a' := congrArg UInt8.toNat a
  have b' := congrArg UInt8.toNat b
  have c' := congrArg UInt8.toNat c
  have d' := congrArg UInt8.toNat d
  rw [ofNat_toNat_lt (by omega), ofNat_toNat_lt (by omega)] at a' b' c' d'
  omega

def headL (l : List UInt8) : List UInt8 := encInt (l.length : Int)
/-- What the checksum of a frame protects. -/
def protL (l : List UInt8) : List UInt8 := headL l ++ l
def frameL (l : List UInt8) : List UInt8 := protL l ++ be4 (sumN (protL l))
def sealL (l : List UInt8) : List UInt8 := if 100000 < l.length then [] else frameL l
def sealE (l : List UInt8) : Int := if 100000 < l.length then 4 else 0

/-- What Open finds in a string: the string in the frame and the size of this, or an error. -/
def openR (l : List UInt8) : Rd (List UInt8) :=
  match decInt l with
  | .err e => .err e
  | .ok n k =>
    if n < 0 ∨ 100000 < n then .err 12
    else if l.length < k + n.toNat + 4 then .err 11
    else if (l.drop (k + n.toNat)).take 4 = be4 (sumN (l.take (k + n.toNat))) then .ok ((l.drop k).take n.toNat) (k + n.toNat + 4)
    else .err 13

theorem inR_len {l : List UInt8} (h : l.length ≤ 4611686018427387904) : InR (l.length : Int) := by unfold InR; omega
theorem headL_length_le {l : List UInt8} (h : l.length ≤ 4611686018427387904) : 1 ≤ (headL l).length ∧ (headL l).length ≤ 9 := ⟨encInt_length_pos _, encInt_length_le (inR_len h)⟩
theorem frameL_length (l : List UInt8) : (frameL l).length = (headL l).length + l.length + 4 := by simp [frameL, protL, be4_length]; omega

/-- What Open makes of a head that tells the length n, n bytes, four bytes, and a rest. -/
theorem openR_of (t f4 rest : List UInt8) (h : t.length ≤ 100000) (h4 : f4.length = 4) :
    openR (headL t ++ t ++ f4 ++ rest) = if f4 = be4 (sumN (protL t)) then .ok t ((headL t).length + t.length + 4) else .err 13 := by
  unfold openR
  rw [List.append_assoc, List.append_assoc]
  have hd := decInt_encInt (t.length : Int) (inR_len (by omega)) (t ++ (f4 ++ rest))
  unfold headL at *
  rw [hd]
  simp only []
  rw [if_neg (by omega), if_neg (by simp; omega)]
  have e1 : (encInt (t.length : Int) ++ (t ++ (f4 ++ rest))).take ((encInt (t.length : Int)).length + t.length) = protL t := by
    unfold protL headL
    rw [← List.append_assoc, List.take_append_of_le_length (by simp), List.take_of_length_le (by simp)]
  have e2 : ((encInt (t.length : Int) ++ (t ++ (f4 ++ rest))).drop ((encInt (t.length : Int)).length + t.length)).take 4 = f4 := by
    rw [← List.append_assoc, List.drop_append_of_le_length (by simp), List.drop_of_length_le (by simp), List.nil_append, List.take_append_of_le_length (by omega), List.take_of_length_le (by omega)]
  have e3 : ((encInt (t.length : Int) ++ (t ++ (f4 ++ rest))).drop (encInt (t.length : Int)).length).take t.length = t := by
    rw [List.drop_left, List.take_left]
  simp only [Int.toNat_natCast]
  rw [e1, e2, e3]

theorem openR_frame (t rest : List UInt8) (h : t.length ≤ 100000) : openR (frameL t ++ rest) = .ok t (frameL t).length := by
  have e := openR_of t (be4 (sumN (protL t))) rest h (be4_length _)
  rw [if_pos rfl] at e
  rw [frameL_length]
  exact e

theorem openR_canonical {l t : List UInt8} {k : Nat} (h : openR l = .ok t k) : t.length ≤ 100000 ∧ k = (frameL t).length ∧ k ≤ l.length ∧ l.take k = frameL t := by
  unfold openR at h
  cases hd : decInt l with
  | err e => rw [hd] at h; cases h
  | ok n a =>
    rw [hd] at h
    simp only [] at h
    by_cases c1 : n < 0 ∨ 100000 < n
    · rw [if_pos c1] at h; cases h
    rw [if_neg c1] at h
    by_cases c2 : l.length < a + n.toNat + 4
    · rw [if_pos c2] at h; cases h
    rw [if_neg c2] at h
    by_cases c3 : (l.drop (a + n.toNat)).take 4 = be4 (sumN (l.take (a + n.toNat)))
    · rw [if_pos c3] at h
      injection h with h1 h2
      obtain ⟨d1, d2, d3, d4⟩ := decInt_canonical hd
      have hlen : t.length = n.toNat := by rw [← h1]; simp; omega
      have hhead : headL t = l.take a := by unfold headL; rw [hlen, ← d4]; congr 1; omega
      have hprot : protL t = l.take (a + n.toNat) := by
        unfold protL
        rw [hhead, ← h1, List.take_add]
      have hf : frameL t = l.take k := by
        unfold frameL
        rw [hprot, ← c3, ← h2]
        exact (List.take_add (l := l) (i := a + n.toNat) (j := 4)).symm
      have hk : k ≤ l.length := by omega
      exact ⟨by omega, by rw [hf]; simp; omega, hk, hf.symm⟩
    · rw [if_neg c3] at h; cases h

/-- A frame one of whose bytes behind the head is changed. -/
theorem openR_damage (t : List UInt8) (j : Nat) (c x : UInt8) (h : t.length ≤ 100000) (hx : (frameL t)[(headL t).length + j]? = some x) (hc : c ≠ x) : openR ((frameL t).set ((headL t).length + j) c) = .err 13 := by
  unfold frameL protL at hx ⊢
  rw [List.append_assoc, List.getElem?_append_right (by omega), Nat.add_sub_cancel_left] at hx
  rw [List.append_assoc, List.set_append_right (h := by omega), Nat.add_sub_cancel_left]
  by_cases hj : j < t.length
  · rw [List.getElem?_append_left hj, List.getElem?_eq_getElem hj] at hx
    rw [List.set_append_left (h := hj)]
    have e1 : headL t = headL (t.set j c) := by unfold headL; rw [List.length_set]
    have := openR_of (t.set j c) (be4 (sumN (headL t ++ t))) [] (by rw [List.length_set]; exact h) (be4_length _)
    rw [List.append_nil, List.append_assoc, ← e1] at this
    rw [this, if_neg]
    intro e
    have e2 := be4_inj (csOf_lt (sum_ok _)) (csOf_lt (sum_ok _)) e
    unfold protL at e2
    rw [← e1] at e2
    have e3 : headL t ++ t.set j c = (headL t ++ t).set ((headL t).length + j) c := by rw [List.set_append_right (h := by omega), Nat.add_sub_cancel_left]
    rw [e3] at e2
    have hlt : (headL t).length + j < (headL t ++ t).length := by simp; omega
    have h5 : (headL t ++ t)[(headL t).length + j]? = some x := by rw [List.getElem?_append_right (by omega), Nat.add_sub_cancel_left, List.getElem?_eq_getElem hj]; exact hx
    refine sumN_set_ne (headL t ++ t) ((headL t).length + j) c hlt ?_ e2.symm
    intro e4
    rw [List.getElem?_eq_getElem hlt] at h5
    injection h5 with h5
    exact hc (e4.trans h5)
  · rw [List.getElem?_append_right (by omega)] at hx
    rw [List.set_append_right (h := by omega)]
    have := openR_of t ((be4 (sumN (headL t ++ t))).set (j - t.length) c) [] h (by rw [List.length_set]; exact be4_length _)
    rw [List.append_nil, List.append_assoc] at this
    rw [this, if_neg]
    intro e
    obtain ⟨hlt, hx⟩ := List.getElem?_eq_some_iff.1 hx
    apply hc
    rw [← hx]
    have e2 : ((be4 (sumN (headL t ++ t))).set (j - t.length) c)[j - t.length]? = (be4 (sumN (protL t)))[j - t.length]? := by rw [e]
    rw [List.getElem?_set_self hlt] at e2
    unfold protL at e2
    rw [List.getElem?_eq_getElem hlt] at e2
    injection e2

theorem decInt_short (n : Int) (h : InR n) (m : Nat) (hm : m < (encInt n).length) : decInt ((encInt n).take m) = .err 11 := by
  have hmm := magOf_le h
  have h8 := mag8 (m := magOf n) (by omega)
  obtain ⟨c, h1, h2, h3, h4⟩ := dec_encM (magOf n) (invOf n) (by rcases invOf_cases n with h | h <;> simp [h.1]) hmm []
  rw [List.append_nil, List.append_nil] at h3
  unfold encInt at hm ⊢
  have hl := encM_length (magOf n) (invOf n)
  rw [h3]
  cases m with
  | zero => rfl
  | succ m =>
    rw [List.take_succ_cons, decInt]
    rw [h2, if_neg (by omega), if_pos]
    simp
    omega

/-- A proper beginning of a frame. -/
theorem openR_short (t : List UInt8) (m : Nat) (h : t.length ≤ 100000) (hm : m < (frameL t).length) : openR ((frameL t).take m) = .err 11 := by
  have hr := inR_len (l := t) (by omega)
  have hl := frameL_length t
  by_cases hk : m < (headL t).length
  · have e : (frameL t).take m = (headL t).take m := by
      unfold frameL protL
      rw [List.append_assoc, List.take_append_of_le_length (by omega)]
    rw [e]
    unfold openR headL
    rw [decInt_short _ hr m hk]
  · have e : (frameL t).take m = headL t ++ (t ++ be4 (sumN (protL t))).take (m - (headL t).length) := by
      unfold frameL
      unfold protL
      rw [List.append_assoc, List.take_append, List.take_of_length_le (by omega)]
    unfold openR
    rw [e]
    have hd := decInt_encInt (t.length : Int) hr ((t ++ be4 (sumN (protL t))).take (m - (headL t).length))
    unfold headL at hd ⊢
    rw [hd]
    simp only []
    rw [if_neg (by omega), if_pos]
    unfold headL at hl hk
    simp only [List.length_append, List.length_take, be4_length, Int.toNat_natCast]
    omega

theorem decInt_err11 {l : List UInt8} {e : Nat} (h : decInt l = .err e) : e = 11 ∨ e = 12 := by
  cases l with
  | nil => rw [decInt] at h; cases h; exact .inl rfl
  | cons c r =>
    rw [decInt] at h
    split at h
    · cases h; exact .inr rfl
    · split at h
      · cases h; exact .inl rfl
      · split at h
        · cases h
        · cases h; exact .inr rfl

end Go.Proofs.Ytoffacjefnmmmaa
