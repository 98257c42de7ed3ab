/-
  The plain mathematics of timers (no program in it): which lists are queues; what adding, removing, finding and expiring give.
-/
import Derived.Lib.Hide
namespace Go.Proofs.Ytcmcgcogahkamaa

/-- A timer: its time, its kind, its index. -/
abbrev Tm : Type := Int × Int × Int
def indN (k : Int) : Int := if k = 1 then 16 else if k = 2 then 32 else if k = 3 then 16 else 0
def oneE (t : Tm) : Int := if indN t.2.1 = 0 then 8 else if t.2.2 < 0 ∨ indN t.2.1 ≤ t.2.2 ∨ t.1 < 1 ∨ 1099511627776 < t.1 then 2 else 0
def LesP (s t : Tm) : Prop := s.1 < t.1 ∨ (s.1 = t.1 ∧ (s.2.1 < t.2.1 ∨ (s.2.1 = t.2.1 ∧ s.2.2 < t.2.2)))
instance (s t : Tm) : Decidable (LesP s t) := by unfold LesP; infer_instance
def lesB (s t : Tm) : Bool := decide (LesP s t)
theorem lesB_iff {s t : Tm} : lesB s t = true ↔ LesP s t := by simp [lesB]
theorem lesB_no {s t : Tm} : lesB s t = false ↔ ¬ LesP s t := by simp [lesB]
def keyB (t : Tm) (k i : Int) : Bool := t.2.1 == k && t.2.2 == i
theorem keyB_iff {t : Tm} {k i : Int} : keyB t k i = true ↔ t.2.1 = k ∧ t.2.2 = i := by simp [keyB]
theorem keyB_no {t : Tm} {k i : Int} : keyB t k i = false ↔ ¬ (t.2.1 = k ∧ t.2.2 = i) := by rw [← Bool.not_eq_true, keyB_iff]
def cmp1 (x y : Int) : Int := if x < y then -1 else if y < x then 1 else 0
def or3 (x y z : Int) : Int := if x ≠ 0 then x else if y ≠ 0 then y else z
def cmpT (s t : Tm) : Int := or3 (cmp1 s.1 t.1) (cmp1 s.2.1 t.2.1) (cmp1 s.2.2 t.2.2)
theorem cmp1_cases (x y : Int) : (cmp1 x y = -1 ∧ x < y) ∨ (cmp1 x y = 1 ∧ y < x) ∨ (cmp1 x y = 0 ∧ x = y) := by
  unfold cmp1
  by_cases h : x < y
  · rw [if_pos h]; exact .inl ⟨rfl, h⟩
  · rw [if_neg h]
    by_cases h2 : y < x
    · rw [if_pos h2]; exact .inr (.inl ⟨rfl, h2⟩)
    · rw [if_neg h2]; exact .inr (.inr ⟨rfl, by omega⟩)
theorem cmpT_cases (s t : Tm) : (cmpT s t = -1 ∧ LesP s t) ∨ (cmpT s t = 1 ∧ LesP t s) ∨ (cmpT s t = 0 ∧ s = t) := by
  obtain ⟨a, b, c⟩ := s
  obtain ⟨x, y, z⟩ := t
  unfold cmpT LesP
  dsimp only
  rcases cmp1_cases a x with ⟨e, h⟩ | ⟨e, h⟩ | ⟨e, h⟩
  · rw [e]; exact .inl ⟨rfl, .inl h⟩
  · rw [e]; exact .inr (.inl ⟨rfl, .inl h⟩)
  · subst h
    rw [e]
    rcases cmp1_cases b y with ⟨e, h⟩ | ⟨e, h⟩ | ⟨e, h⟩
    · rw [e]; exact .inl ⟨rfl, .inr ⟨rfl, .inl h⟩⟩
    · rw [e]; exact .inr (.inl ⟨rfl, .inr ⟨rfl, .inl h⟩⟩)
    · subst h
      rw [e]
      rcases cmp1_cases c z with ⟨e, h⟩ | ⟨e, h⟩ | ⟨e, h⟩
      · rw [e]; exact .inl ⟨rfl, .inr ⟨rfl, .inr ⟨rfl, h⟩⟩⟩
      · rw [e]; exact .inr (.inl ⟨rfl, .inr ⟨rfl, .inr ⟨rfl, h⟩⟩⟩)
      · subst h
        rw [e]; exact .inr (.inr ⟨rfl, rfl⟩)
theorem les_irr (s : Tm) : ¬ LesP s s := by unfold LesP; omega
theorem les_asym {s t : Tm} (h : LesP s t) : ¬ LesP t s := by unfold LesP at *; omega
theorem les_trans {r s t : Tm} (h : LesP r s) (k : LesP s t) : LesP r t := by unfold LesP at *; omega
theorem les_tri (s t : Tm) : LesP s t ∨ LesP t s ∨ s = t := by
  rcases cmpT_cases s t with h | h | h
  · exact .inl h.2
  · exact .inr (.inl h.2)
  · exact .inr (.inr h.2)
theorem cmpT_pos {s t : Tm} : 0 < cmpT s t ↔ LesP t s := by
  rcases cmpT_cases s t with ⟨e, h⟩ | ⟨e, h⟩ | ⟨e, h⟩ <;> rw [e]
  · exact ⟨fun h1 => by omega, fun h1 => absurd h (les_asym h1)⟩
  · exact ⟨fun _ => h, fun _ => by omega⟩
  · subst h; exact ⟨fun h1 => by omega, fun h1 => absurd h1 (les_irr _)⟩
theorem cmpT_neg {s t : Tm} : cmpT s t < 0 ↔ LesP s t := by
  rcases cmpT_cases s t with ⟨e, h⟩ | ⟨e, h⟩ | ⟨e, h⟩ <;> rw [e]
  · exact ⟨fun _ => h, fun _ => by omega⟩
  · exact ⟨fun h1 => by omega, fun h1 => absurd h (les_asym h1)⟩
  · subst h; exact ⟨fun h1 => by omega, fun h1 => absurd h1 (les_irr _)⟩
def KeyNe (s t : Tm) : Prop := ¬ (s.2.1 = t.2.1 ∧ s.2.2 = t.2.2)

/-! ### Check -/

def lowT (pre : List Tm) (t : Tm) : Bool := match pre.getLast? with
  | none => false
  | some p => !lesB p t
def hasK (l : List Tm) (k i : Int) : Bool := l.any fun s => keyB s k i
def chkT : List Tm → List Tm → Int
  | _, [] => 0
  | pre, t :: r => if oneE t ≠ 0 then oneE t else if lowT pre t = true then 9 else if hasK pre t.2.1 t.2.2 = true then 6 else chkT (pre ++ [t]) r
/-- What Check returns. -/
def chkE (ts : List Tm) : Int := chkT [] ts
def Queue (ts : List Tm) : Prop := (∀ t ∈ ts, oneE t = 0) ∧ ts.Pairwise LesP ∧ ts.Pairwise KeyNe
theorem hasK_iff {l : List Tm} {k i : Int} : hasK l k i = true ↔ ∃ s ∈ l, s.2.1 = k ∧ s.2.2 = i := by
  unfold hasK
  rw [List.any_eq_true]
  constructor
  · rintro ⟨s, hs, h⟩; exact ⟨s, hs, keyB_iff.1 h⟩
  · rintro ⟨s, hs, h⟩; exact ⟨s, hs, keyB_iff.2 h⟩
theorem lowT_no {pre : List Tm} {t : Tm} (hp : pre.Pairwise LesP) : lowT pre t = false ↔ ∀ s ∈ pre, LesP s t := by
  unfold lowT
  cases h : pre.getLast? with
  | none =>
    have : pre = [] := List.getLast?_eq_none_iff.1 h
    subst this
    simp
  | some p =>
    obtain ⟨q, rfl⟩ := List.getLast?_eq_some_iff.1 h
    rw [List.pairwise_append] at hp
    dsimp only
    rw [Bool.not_eq_false', lesB_iff]
    constructor
    · intro h1 s hs
      rcases List.mem_append.1 hs with hs | hs
      · exact les_trans (hp.2.2 s hs p (by simp)) h1
      · obtain rfl : s = p := by simpa using hs
        exact h1
    · intro h1
      exact h1 p (by simp)
theorem chkT_iff {ts : List Tm} : ∀ {pre : List Tm}, pre.Pairwise LesP → pre.Pairwise KeyNe → (chkT pre ts = 0 ↔ (∀ t ∈ ts, oneE t = 0) ∧ (pre ++ ts).Pairwise LesP ∧ (pre ++ ts).Pairwise KeyNe) := by
  induction ts with
  | nil =>
    intro pre h1 h2
    simp [chkT, h1, h2]
  | cons t r ih =>
    intro pre h1 h2
    rw [chkT]
    have hsplit : pre ++ t :: r = (pre ++ [t]) ++ r := by simp
    by_cases ho : oneE t ≠ 0
    · rw [if_pos ho]
      exact ⟨fun h => absurd h ho, fun h => absurd (h.1 t (by simp)) ho⟩
    · rw [if_neg ho]
      have ho : oneE t = 0 := by simpa using ho
      cases hl : lowT pre t with
      | true =>
        rw [if_pos rfl]
        refine ⟨fun h => (by cases h), fun h => ?_⟩
        have : lowT pre t = false := (lowT_no h1).2 (fun s hs => (List.pairwise_append.1 h.2.1).2.2 s hs t (by simp))
        rw [hl] at this
        cases this
      | false =>
        rw [if_neg (by simp)]
        have hl := (lowT_no h1).1 hl
        cases hk : hasK pre t.2.1 t.2.2 with
        | true =>
          rw [if_pos rfl]
          refine ⟨fun h => (by cases h), fun h => ?_⟩
          obtain ⟨s, hs, h3⟩ := hasK_iff.1 hk
          exact absurd h3 ((List.pairwise_append.1 h.2.2).2.2 s hs t (by simp))
        | false =>
          rw [if_neg (by simp)]
          have hk : ∀ s ∈ pre, KeyNe s t := by
            intro s hs h3
            have : hasK pre t.2.1 t.2.2 = true := hasK_iff.2 ⟨s, hs, h3⟩
            rw [hk] at this
            cases this
          have k1 : (pre ++ [t]).Pairwise LesP := List.pairwise_append.2 ⟨h1, List.pairwise_singleton _ _, (by intro s hs u hu; rw [List.mem_singleton] at hu; rw [hu]; exact hl s hs)⟩
          have k2 : (pre ++ [t]).Pairwise KeyNe := List.pairwise_append.2 ⟨h2, List.pairwise_singleton _ _, (by intro s hs u hu; rw [List.mem_singleton] at hu; rw [hu]; exact hk s hs)⟩
          rw [ih k1 k2, hsplit]
          simp [ho]
theorem chkE_iff {ts : List Tm} : chkE ts = 0 ↔ Queue ts := by
  unfold chkE Queue
  rw [chkT_iff List.Pairwise.nil List.Pairwise.nil]
  simp
theorem Queue.sub {ts us : List Tm} (h : Queue ts) (hs : us.Sublist ts) : Queue us := ⟨fun t ht => h.1 t (hs.subset ht), h.2.1.sublist hs, h.2.2.sublist hs⟩

def gt (ts : List Tm) (k : Nat) : Tm := ts[k]?.getD (0, 0, 0)
theorem gt_mem {ts : List Tm} {k : Nat} (h : k < ts.length) : gt ts k ∈ ts := by
  unfold gt
  rw [List.getElem?_eq_getElem h]
  exact List.getElem_mem h
theorem mem_gt {ts : List Tm} {t : Tm} (h : t ∈ ts) : ∃ k, k < ts.length ∧ gt ts k = t := by
  obtain ⟨k, hk, e⟩ := List.getElem_of_mem h
  exact ⟨k, hk, by unfold gt; rw [List.getElem?_eq_getElem hk, e]; rfl⟩
theorem gt_eq {ts : List Tm} {k : Nat} (h : k < ts.length) : ts[k]? = some (gt ts k) := by
  unfold gt
  rw [List.getElem?_eq_getElem h]
  rfl
theorem drop_consT (ts : List Tm) (k : Nat) (h : k < ts.length) : ts.drop k = gt ts k :: ts.drop (k + 1) := by
  rw [List.drop_eq_getElem_cons h]; simp [gt, h]
theorem take_snocT (ts : List Tm) (k : Nat) (h : k < ts.length) : ts.take (k + 1) = ts.take k ++ [gt ts k] := by
  rw [List.take_succ_eq_append_getElem h]; simp [gt, h]
theorem tms_ext {a b : List Tm} (h : a.length = b.length) (hh : ∀ j, j < a.length → gt a j = gt b j) : a = b := by
  apply List.ext_getElem h
  intro i h1 h2
  have := hh i h1
  unfold gt at this
  simpa [h1, h2] using this
theorem gt_take {ts : List Tm} {n j : Nat} (h : j < n) : gt (ts.take n) j = gt ts j := by
  unfold gt
  rw [List.getElem?_take, if_pos h]
theorem gt_drop {ts : List Tm} {n j : Nat} : gt (ts.drop n) j = gt ts (n + j) := by
  unfold gt
  rw [List.getElem?_drop]
theorem lowT_at {ts : List Tm} {k : Nat} {t : Tm} (hk : k ≤ ts.length) : lowT (ts.take k) t = (decide (0 < k) && !lesB (gt ts (k - 1)) t) := by
  cases k with
  | zero => simp [lowT]
  | succ k =>
    rw [take_snocT ts k (by omega)]
    simp [lowT]
theorem chk_bad {ts : List Tm} {k : Nat} {t : Tm} (h : k < ts.length) (he : gt ts k = t) (hb : oneE t ≠ 0) (hi : chkE ts = chkT (ts.take k) (ts.drop k)) : chkE ts = oneE t := by
  rw [hi, drop_consT ts k h, he, chkT, if_pos hb]
theorem chk_low {ts : List Tm} {k : Nat} {t : Tm} (h : k < ts.length) (he : gt ts k = t) (hb : oneE t = 0) (h0 : 0 < k) (hl : lesB (gt ts (k - 1)) t = false) (hi : chkE ts = chkT (ts.take k) (ts.drop k)) : chkE ts = 9 := by
  rw [hi, drop_consT ts k h, he, chkT, if_neg (by simp [hb]), if_pos (by rw [lowT_at (by omega), hl]; simp [h0])]
theorem chk_dup {ts : List Tm} {k : Nat} {t : Tm} (h : k < ts.length) (he : gt ts k = t) (hb : oneE t = 0) (hl : 0 < k → lesB (gt ts (k - 1)) t = true) (hd : hasK (ts.take k) t.2.1 t.2.2 = true) (hi : chkE ts = chkT (ts.take k) (ts.drop k)) : chkE ts = 6 := by
  have : lowT (ts.take k) t = false := by
    rw [lowT_at (by omega)]
    by_cases h0 : 0 < k
    · rw [hl h0]; simp
    · simp [h0]
  rw [hi, drop_consT ts k h, he, chkT, if_neg (by simp [hb]), if_neg (by simp [this]), if_pos hd]
theorem chk_next {ts : List Tm} {k : Nat} {t : Tm} (h : k < ts.length) (he : gt ts k = t) (hb : oneE t = 0) (hl : 0 < k → lesB (gt ts (k - 1)) t = true) (hd : hasK (ts.take k) t.2.1 t.2.2 = false) (hi : chkE ts = chkT (ts.take k) (ts.drop k)) : chkE ts = chkT (ts.take (k + 1)) (ts.drop (k + 1)) := by
  have : lowT (ts.take k) t = false := by
    rw [lowT_at (by omega)]
    by_cases h0 : 0 < k
    · rw [hl h0]; simp
    · simp [h0]
  rw [hi, drop_consT ts k h, he, chkT, if_neg (by simp [hb]), if_neg (by simp [this]), if_neg (by simp [hd]), take_snocT ts k h, he]
theorem chk_end {ts : List Tm} {k : Nat} (h : ts.length ≤ k) (hi : chkE ts = chkT (ts.take k) (ts.drop k)) : chkE ts = 0 := by
  rw [hi, List.drop_eq_nil_of_le h]
  rfl
theorem hasK_snoc {l : List Tm} {t : Tm} {k i : Int} : hasK (l ++ [t]) k i = (hasK l k i || keyB t k i) := by simp [hasK]
theorem hasK_take {ts : List Tm} {k : Nat} {a b : Int} (h : hasK (ts.take k) a b = true) : hasK ts a b = true := by
  obtain ⟨s, hs, h⟩ := hasK_iff.1 h
  exact hasK_iff.2 ⟨s, List.mem_of_mem_take hs, h⟩

/-! ### What the other functions return -/

def woL (ts : List Tm) (k i : Int) : List Tm := ts.filter fun t => !keyB t k i
def plc (o : List Tm) (t : Tm) : Nat := (o.takeWhile fun s => lesB s t).length
def insL (o : List Tm) (t : Tm) : List Tm := o.take (plc o t) ++ t :: o.drop (plc o t)
def addE (ts : List Tm) (t : Tm) : Int := if chkE ts ≠ 0 then 1 else oneE t
def addQ (ts : List Tm) (t : Tm) : List Tm := if addE ts t = 0 then insL (woL ts t.2.1 t.2.2) t else []
def rmvL (ts : List Tm) (k i : Int) : List Tm := if chkE ts = 0 then woL ts k i else []
def fndB (ts : List Tm) (k i : Int) : Bool := decide (chkE ts = 0) && hasK ts k i
def fndT (ts : List Tm) (k i : Int) : Int := if chkE ts = 0 then ((ts.find? fun t => keyB t k i).getD (0, 0, 0)).1 else 0
def nxtB (ts : List Tm) : Bool := decide (chkE ts = 0) && decide (0 < ts.length)
def nxtT (ts : List Tm) : Int := if chkE ts = 0 then (gt ts 0).1 else 0
def dueN (ts : List Tm) (now : Int) : Nat := (ts.takeWhile fun t => decide (t.1 ≤ now)).length
def dueL (ts : List Tm) (now : Int) : List Tm := if chkE ts = 0 then ts.take (dueN ts now) else []
def rstL (ts : List Tm) (now : Int) : List Tm := if chkE ts = 0 then ts.drop (dueN ts now) else []

theorem len_takeWhile {p : Tm → Bool} {ts : List Tm} {i : Nat} (hi : i ≤ ts.length) (h1 : ∀ j, j < i → p (gt ts j) = true) (h2 : i < ts.length → p (gt ts i) = false) : (ts.takeWhile p).length = i := by
  have e1 : ts.takeWhile p = ts.take i := by
    conv => lhs; rw [← List.take_append_drop i ts]
    rw [List.takeWhile_append_of_pos (fun t ht => by
      obtain ⟨j, hj, rfl⟩ := mem_gt ht
      rw [List.length_take] at hj
      rw [gt_take (by omega)]
      exact h1 j (by omega))]
    by_cases hlt : i < ts.length
    · rw [drop_consT ts i hlt, List.takeWhile_cons, h2 hlt]
      simp
    · rw [List.drop_eq_nil_of_le (by omega)]
      simp
  rw [e1, List.length_take]
  omega
theorem woL_length (ts : List Tm) (k i : Int) : (woL ts k i).length ≤ ts.length := List.length_filter_le _ _
theorem plc_le (o : List Tm) (t : Tm) : plc o t ≤ o.length := by
  unfold plc
  exact (List.takeWhile_sublist _).length_le
theorem insL_length (o : List Tm) (t : Tm) : (insL o t).length = o.length + 1 := by
  have := plc_le o t
  unfold insL
  simp
  omega
theorem dueN_le (ts : List Tm) (now : Int) : dueN ts now ≤ ts.length := (List.takeWhile_sublist _).length_le
/-- The place that a search finds. -/
theorem plc_of {o : List Tm} {t : Tm} {i : Nat} (ho : ∀ s ∈ o, KeyNe s t) (hi : i ≤ o.length) (h1 : ∀ j, j < i → ¬ LesP t (gt o j)) (h2 : i < o.length → LesP t (gt o i)) : plc o t = i := by
  unfold plc
  refine len_takeWhile hi (fun j hj => ?_) (fun hlt => lesB_no.2 (les_asym (h2 hlt)))
  rw [lesB_iff]
  rcases les_tri (gt o j) t with h | h | h
  · exact h
  · exact absurd h (h1 j hj)
  · exact absurd (by rw [h]; exact ⟨rfl, rfl⟩) (ho _ (gt_mem (by omega : j < o.length)))
theorem woL_queue {ts : List Tm} {k i : Int} (h : Queue ts) : Queue (woL ts k i) := h.sub List.filter_sublist
theorem woL_ne {ts : List Tm} {t : Tm} : ∀ s ∈ woL ts t.2.1 t.2.2, KeyNe s t := by
  intro s hs hk
  have := (List.mem_filter.1 hs).2
  rw [keyB_iff.2 hk] at this
  cases this
theorem woL_snoc {l : List Tm} {t : Tm} {k i : Int} : woL (l ++ [t]) k i = if keyB t k i = true then woL l k i else woL l k i ++ [t] := by
  unfold woL
  rw [List.filter_append]
  cases h : keyB t k i <;> simp [h]
theorem add_ok {ts : List Tm} {t : Tm} (h : addE ts t = 0) : chkE ts = 0 ∧ oneE t = 0 := by
  unfold addE at h
  by_cases hc : chkE ts ≠ 0
  · rw [if_pos hc] at h; cases h
  · rw [if_neg hc] at h; exact ⟨by simpa using hc, h⟩

end Go.Proofs.Ytcmcgcogahkamaa
