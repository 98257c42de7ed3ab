/-
  The plain mathematics of waiters (no program in it): which lists are queues; what pushing, finding, removing, granting and listing the tasks give.
-/
import Derived.Lib.Hide
namespace Go.Proofs.Ytonjempbphnimaa

/-- A waiter: its task, operation, value, priority, case. -/
abbrev Wl : Type := Int × Int × Int × Int × Int
def gw (ts : List Wl) (k : Nat) : Wl := ts[k]?.getD (0, 0, 0, 0, 0)
theorem gw_mem {ts : List Wl} {k : Nat} (h : k < ts.length) : gw ts k ∈ ts := by
  unfold gw
  rw [List.getElem?_eq_getElem h]
  exact List.getElem_mem h
theorem mem_gw {ts : List Wl} {t : Wl} (h : t ∈ ts) : ∃ k, k < ts.length ∧ gw ts k = t := by
  obtain ⟨k, hk, e⟩ := List.getElem_of_mem h
  exact ⟨k, hk, by unfold gw; rw [List.getElem?_eq_getElem hk, e]; rfl⟩
theorem gw_eq {ts : List Wl} {k : Nat} (h : k < ts.length) : ts[k]? = some (gw ts k) := by
  unfold gw
  rw [List.getElem?_eq_getElem h]
  rfl
theorem drop_consW (ts : List Wl) (k : Nat) (h : k < ts.length) : ts.drop k = gw ts k :: ts.drop (k + 1) := by
  rw [List.drop_eq_getElem_cons h]; simp [gw, h]
theorem take_snocW (ts : List Wl) (k : Nat) (h : k < ts.length) : ts.take (k + 1) = ts.take k ++ [gw ts k] := by
  rw [List.take_succ_eq_append_getElem h]; simp [gw, h]
theorem wls_ext {a b : List Wl} (h : a.length = b.length) (hh : ∀ j, j < a.length → gw a j = gw b j) : a = b := by
  apply List.ext_getElem h
  intro i h1 h2
  have := hh i h1
  unfold gw at this
  simpa [h1, h2] using this
theorem gw_take {ts : List Wl} {n j : Nat} (h : j < n) : gw (ts.take n) j = gw ts j := by
  unfold gw
  rw [List.getElem?_take, if_pos h]
theorem gw_drop {ts : List Wl} {n j : Nat} : gw (ts.drop n) j = gw ts (n + j) := by
  unfold gw
  rw [List.getElem?_drop]
theorem len_takeWhileW {p : Wl → Bool} {ts : List Wl} {i : Nat} (hi : i ≤ ts.length) (h1 : ∀ j, j < i → p (gw ts j) = true) (h2 : i < ts.length → p (gw ts i) = false) : (ts.takeWhile p).length = i := by
  have e1 : ts.takeWhile p = ts.take i := by
    conv => lhs; rw [← List.take_append_drop i ts]
    rw [List.takeWhile_append_of_pos (fun t ht => by
      obtain ⟨j, hj, rfl⟩ := mem_gw ht
      rw [List.length_take] at hj
      rw [gw_take (by omega)]
      exact h1 j (by omega))]
    by_cases hlt : i < ts.length
    · rw [drop_consW ts i hlt, List.takeWhile_cons, h2 hlt]
      simp
    · rw [List.drop_eq_nil_of_le (by omega)]
      simp
  rw [e1, List.length_take]
  omega

/-! ### Valid waiters -/

def tskP (x : Int) : Prop := 0 ≤ x ∧ x < 16
instance (x : Int) : Decidable (tskP x) := by unfold tskP; infer_instance
def okW (w : Wl) : Bool := decide (tskP w.1 ∧ (1 ≤ w.2.1 ∧ w.2.1 ≤ 99) ∧ (-1099511627776 ≤ w.2.2.1 ∧ w.2.2.1 ≤ 1099511627776) ∧ (0 ≤ w.2.2.2.1 ∧ w.2.2.2.1 ≤ 9) ∧ (-1 ≤ w.2.2.2.2 ∧ w.2.2.2.2 < 6))
theorem okW_iff {w : Wl} : okW w = true ↔ (tskP w.1 ∧ (1 ≤ w.2.1 ∧ w.2.1 ≤ 99) ∧ (-1099511627776 ≤ w.2.2.1 ∧ w.2.2.1 ≤ 1099511627776) ∧ (0 ≤ w.2.2.2.1 ∧ w.2.2.2.1 ≤ 9) ∧ (-1 ≤ w.2.2.2.2 ∧ w.2.2.2.2 < 6)) := by simp [okW]
theorem okW_no {w : Wl} (h : ¬ (tskP w.1 ∧ (1 ≤ w.2.1 ∧ w.2.1 ≤ 99) ∧ (-1099511627776 ≤ w.2.2.1 ∧ w.2.2.1 ≤ 1099511627776) ∧ (0 ≤ w.2.2.2.1 ∧ w.2.2.2.1 ≤ 9) ∧ (-1 ≤ w.2.2.2.2 ∧ w.2.2.2.2 < 6))) : okW w = false := by
  unfold okW
  rw [decide_eq_false_iff_not]
  exact h
/-- The ways through the tests of a waiter, one behind the other. -/
theorem okW_cases (a b c d f : Int) : (okW (a, b, c, d, f) = false ∧ ¬ tskP a) ∨ (okW (a, b, c, d, f) = false ∧ tskP a ∧ ¬ 1 ≤ b) ∨ (okW (a, b, c, d, f) = false ∧ tskP a ∧ 1 ≤ b ∧ ¬ b ≤ 99) ∨ (okW (a, b, c, d, f) = false ∧ tskP a ∧ 1 ≤ b ∧ b ≤ 99 ∧ ¬ -1099511627776 ≤ c) ∨
    (okW (a, b, c, d, f) = false ∧ tskP a ∧ 1 ≤ b ∧ b ≤ 99 ∧ -1099511627776 ≤ c ∧ ¬ c ≤ 1099511627776) ∨ (okW (a, b, c, d, f) = false ∧ tskP a ∧ 1 ≤ b ∧ b ≤ 99 ∧ -1099511627776 ≤ c ∧ c ≤ 1099511627776 ∧ ¬ 0 ≤ d) ∨
    (okW (a, b, c, d, f) = false ∧ tskP a ∧ 1 ≤ b ∧ b ≤ 99 ∧ -1099511627776 ≤ c ∧ c ≤ 1099511627776 ∧ 0 ≤ d ∧ ¬ d ≤ 9) ∨ (okW (a, b, c, d, f) = false ∧ tskP a ∧ 1 ≤ b ∧ b ≤ 99 ∧ -1099511627776 ≤ c ∧ c ≤ 1099511627776 ∧ 0 ≤ d ∧ d ≤ 9 ∧ ¬ -1 ≤ f) ∨
    (okW (a, b, c, d, f) = false ∧ tskP a ∧ 1 ≤ b ∧ b ≤ 99 ∧ -1099511627776 ≤ c ∧ c ≤ 1099511627776 ∧ 0 ≤ d ∧ d ≤ 9 ∧ -1 ≤ f ∧ ¬ f < 6) ∨ (okW (a, b, c, d, f) = true ∧ tskP a ∧ 1 ≤ b ∧ b ≤ 99 ∧ -1099511627776 ≤ c ∧ c ≤ 1099511627776 ∧ 0 ≤ d ∧ d ≤ 9 ∧ -1 ≤ f ∧ f < 6) := by
  by_cases h1 : tskP a
  case neg => exact (.inl ⟨okW_no (fun h => h1 h.1), h1⟩)
  by_cases h2 : 1 ≤ b
  case neg => exact .inr ((.inl ⟨okW_no (fun h => h2 h.2.1.1), h1, h2⟩))
  by_cases h3 : b ≤ 99
  case neg => exact .inr (.inr ((.inl ⟨okW_no (fun h => h3 h.2.1.2), h1, h2, h3⟩)))
  by_cases h4 : -1099511627776 ≤ c
  case neg => exact .inr (.inr (.inr ((.inl ⟨okW_no (fun h => h4 h.2.2.1.1), h1, h2, h3, h4⟩))))
  by_cases h5 : c ≤ 1099511627776
  case neg => exact .inr (.inr (.inr (.inr ((.inl ⟨okW_no (fun h => h5 h.2.2.1.2), h1, h2, h3, h4, h5⟩)))))
  by_cases h6 : 0 ≤ d
  case neg => exact .inr (.inr (.inr (.inr (.inr ((.inl ⟨okW_no (fun h => h6 h.2.2.2.1.1), h1, h2, h3, h4, h5, h6⟩))))))
  by_cases h7 : d ≤ 9
  case neg => exact .inr (.inr (.inr (.inr (.inr (.inr ((.inl ⟨okW_no (fun h => h7 h.2.2.2.1.2), h1, h2, h3, h4, h5, h6, h7⟩)))))))
  by_cases h8 : -1 ≤ f
  case neg => exact .inr (.inr (.inr (.inr (.inr (.inr (.inr ((.inl ⟨okW_no (fun h => h8 h.2.2.2.2.1), h1, h2, h3, h4, h5, h6, h7, h8⟩))))))))
  by_cases h9 : f < 6
  case neg => exact .inr (.inr (.inr (.inr (.inr (.inr (.inr (.inr ((.inl ⟨okW_no (fun h => h9 h.2.2.2.2.2), h1, h2, h3, h4, h5, h6, h7, h8, h9⟩)))))))))
  exact .inr (.inr (.inr (.inr (.inr (.inr (.inr (.inr (.inr (⟨okW_iff.2 ⟨h1, ⟨h2, h3⟩, ⟨h4, h5⟩, ⟨h6, h7⟩, ⟨h8, h9⟩⟩, h1, h2, h3, h4, h5, h6, h7, h8, h9⟩)))))))))

/-! ### Check -/

def lowW (k : Int) (pre : List Wl) (t : Wl) : Bool := match pre.getLast? with
  | none => false
  | some p => decide (k = 2) && decide (p.2.2.2.1 < t.2.2.2.1)
def wchk (k : Int) : List Wl → List Wl → Int
  | _, [] => 0
  | pre, t :: r => if okW t = false then 2 else if lowW k pre t = true then 9 else wchk k (pre ++ [t]) r
def kindP (k : Int) : Prop := k = 1 ∨ k = 2
instance (k : Int) : Decidable (kindP k) := by unfold kindP; infer_instance
/-- What Check returns. -/
def wchE (k : Int) (ts : List Wl) : Int := if ¬ kindP k then 8 else if 96 < ts.length then 4 else wchk k [] ts
def PrioGe (s t : Wl) : Prop := t.2.2.2.1 ≤ s.2.2.2.1
def QueueW (k : Int) (ts : List Wl) : Prop := (∀ t ∈ ts, okW t = true) ∧ (k = 2 → ts.Pairwise PrioGe)
theorem lowW_at {k : Int} {ts : List Wl} {i : Nat} {t : Wl} (hk : i ≤ ts.length) : lowW k (ts.take i) t = (decide (k = 2) && (decide (0 < i) && decide ((gw ts (i - 1)).2.2.2.1 < t.2.2.2.1))) := by
  cases i with
  | zero => simp [lowW]
  | succ i =>
    rw [take_snocW ts i (by omega)]
    simp [lowW]
theorem lowW_no {k : Int} {pre : List Wl} {t : Wl} (hp : k = 2 → pre.Pairwise PrioGe) : lowW k pre t = false ↔ (k = 2 → ∀ s ∈ pre, PrioGe s t) := by
  unfold lowW
  cases h : pre.getLast? with
  | none =>
    have : pre = [] := List.getLast?_eq_none_iff.1 h
    subst this
    simp
  | some p =>
    obtain ⟨q, rfl⟩ := List.getLast?_eq_some_iff.1 h
    by_cases hk : k = 2
    · have hp := hp hk
      rw [List.pairwise_append] at hp
      simp only [hk, decide_true, Bool.true_and, decide_eq_false_iff_not, forall_const]
      constructor
      · intro h1 s hs
        rcases List.mem_append.1 hs with hs | hs
        · have := hp.2.2 s hs p (by simp)
          unfold PrioGe at *
          omega
        · obtain rfl : s = p := by simpa using hs
          unfold PrioGe
          omega
      · intro h1
        have := h1 p (by simp)
        unfold PrioGe at this
        omega
    · simp [hk]
theorem wchk_iff {k : Int} {ts : List Wl} : ∀ {pre : List Wl}, (k = 2 → pre.Pairwise PrioGe) → (wchk k pre ts = 0 ↔ (∀ t ∈ ts, okW t = true) ∧ (k = 2 → (pre ++ ts).Pairwise PrioGe)) := by
  induction ts with
  | nil =>
    intro pre h1
    simp only [wchk, List.append_nil, true_iff]
    exact ⟨fun t ht => by simp at ht, h1⟩
  | cons t r ih =>
    intro pre h1
    rw [wchk]
    have hsplit : pre ++ t :: r = (pre ++ [t]) ++ r := by simp
    cases ho : okW t with
    | false =>
      rw [if_pos rfl]
      exact ⟨fun h => (by cases h), fun h => (by have := h.1 t (by simp); rw [ho] at this; cases this)⟩
    | true =>
      rw [if_neg (by simp)]
      cases hl : lowW k pre t with
      | true =>
        rw [if_pos rfl]
        refine ⟨fun h => (by cases h), fun h => ?_⟩
        have : lowW k pre t = false := (lowW_no h1).2 (fun hk s hs => (List.pairwise_append.1 (h.2 hk)).2.2 s hs t (by simp))
        rw [hl] at this
        cases this
      | false =>
        rw [if_neg (by simp)]
        have hl := (lowW_no h1).1 hl
        have k1 : k = 2 → (pre ++ [t]).Pairwise PrioGe := fun hk => List.pairwise_append.2 ⟨h1 hk, List.pairwise_singleton _ _, (by intro s hs u hu; rw [List.mem_singleton] at hu; rw [hu]; exact hl hk s hs)⟩
        rw [ih k1, hsplit]
        simp [ho]
theorem wchE_iff {k : Int} {ts : List Wl} : wchE k ts = 0 ↔ kindP k ∧ ts.length ≤ 96 ∧ QueueW k ts := by
  unfold wchE QueueW
  by_cases h1 : kindP k
  · rw [if_neg (by simpa using h1)]
    by_cases h2 : 96 < ts.length
    · rw [if_pos h2]
      exact ⟨fun h => (by cases h), fun h => (by omega)⟩
    · rw [if_neg h2, wchk_iff (fun _ => List.Pairwise.nil)]
      simp only [List.nil_append]
      exact ⟨fun h => ⟨h1, by omega, h⟩, fun h => h.2.2⟩
  · rw [if_pos h1]
    exact ⟨fun h => (by cases h), fun h => absurd h.1 h1⟩
theorem wch_bad {k : Int} {ts : List Wl} {i : Nat} {t : Wl} (h : i < ts.length) (he : gw ts i = t) (hb : okW t = false) (hi : wchE k ts = wchk k (ts.take i) (ts.drop i)) : wchE k ts = 2 := by
  rw [hi, drop_consW ts i h, he, wchk, if_pos hb]
theorem wch_low {k : Int} {ts : List Wl} {i : Nat} {t : Wl} (h : i < ts.length) (he : gw ts i = t) (hb : okW t = true) (hk : k = 2) (h0 : 0 < i) (hl : (gw ts (i - 1)).2.2.2.1 < t.2.2.2.1) (hi : wchE k ts = wchk k (ts.take i) (ts.drop i)) : wchE k ts = 9 := by
  rw [hi, drop_consW ts i h, he, wchk, if_neg (by simp [hb]), if_pos (by rw [lowW_at (by omega)]; simp [hk, h0, hl])]
theorem wch_next {k : Int} {ts : List Wl} {i : Nat} {t : Wl} (h : i < ts.length) (he : gw ts i = t) (hb : okW t = true) (hl : k = 2 → 0 < i → ¬ (gw ts (i - 1)).2.2.2.1 < t.2.2.2.1) (hi : wchE k ts = wchk k (ts.take i) (ts.drop i)) : wchE k ts = wchk k (ts.take (i + 1)) (ts.drop (i + 1)) := by
  have : lowW k (ts.take i) t = false := by
    rw [lowW_at (by omega)]
    by_cases hk : k = 2
    · by_cases h0 : 0 < i
      · have := hl hk h0; simp [this]
      · simp [h0]
    · simp [hk]
  rw [hi, drop_consW ts i h, he, wchk, if_neg (by simp [hb]), if_neg (by simp [this]), take_snocW ts i h, he]
theorem wch_end {k : Int} {ts : List Wl} {i : Nat} (h : ts.length ≤ i) (hi : wchE k ts = wchk k (ts.take i) (ts.drop i)) : wchE k ts = 0 := by
  rw [hi, List.drop_eq_nil_of_le h]
  rfl

/-! ### What the other functions return -/

/-- The first place at which p holds, or -1. -/
def IxW (ts : List Wl) (p : Wl → Bool) (k : Int) : Prop := (k = -1 ∧ ∀ j, j < ts.length → p (gw ts j) = false) ∨ ∃ i : Nat, i < ts.length ∧ k = i ∧ p (gw ts i) = true ∧ ∀ j, j < i → p (gw ts j) = false
theorem IxW.any {ts : List Wl} {p : Wl → Bool} {k : Int} (h : IxW ts p k) : decide (0 ≤ k) = ts.any p := by
  rcases h with ⟨rfl, h⟩ | ⟨i, hi, rfl, h, _⟩
  · rw [show ts.any p = false from List.any_eq_false.2 fun t ht => by
      obtain ⟨j, hj, rfl⟩ := mem_gw ht
      rw [h j hj]
      simp]
    rfl
  · rw [show ts.any p = true from List.any_eq_true.2 ⟨_, gw_mem hi, h⟩]
    simp
theorem IxW.uniq {ts : List Wl} {p : Wl → Bool} {k l : Int} (h : IxW ts p k) (h' : IxW ts p l) : k = l := by
  rcases h with ⟨rfl, h⟩ | ⟨i, hi, rfl, h, h2⟩
  · rcases h' with ⟨rfl, _⟩ | ⟨j, hj, rfl, h', _⟩
    · rfl
    · rw [h j hj] at h'; cases h'
  · rcases h' with ⟨rfl, h'⟩ | ⟨j, hj, rfl, h', h2'⟩
    · rw [h' i hi] at h; cases h
    · by_cases e1 : i < j
      · rw [h2' i e1] at h; cases h
      · by_cases e2 : j < i
        · rw [h2 j e2] at h'; cases h'
        · have : i = j := by omega
          rw [this]
theorem ixW_some (ts : List Wl) (p : Wl → Bool) : ∃ k, IxW ts p k := by
  by_cases h : ∃ i, i < ts.length ∧ p (gw ts i) = true
  · have key : ∀ n, (∃ i, i < n ∧ i < ts.length ∧ p (gw ts i) = true) → ∃ i, i < ts.length ∧ p (gw ts i) = true ∧ ∀ j, j < i → p (gw ts j) = false := by
      intro n
      induction n with
      | zero => rintro ⟨i, hi, _⟩; omega
      | succ n ih =>
        rintro ⟨i, hi, h1, h2⟩
        by_cases hs : ∃ i, i < n ∧ i < ts.length ∧ p (gw ts i) = true
        · exact ih hs
        · have hin : i = n := by
            by_cases e : i = n
            · exact e
            · exact absurd ⟨i, by omega, h1, h2⟩ hs
          subst hin
          refine ⟨i, h1, h2, fun j hj => ?_⟩
          cases hp : p (gw ts j) with
          | false => rfl
          | true => exact absurd ⟨j, hj, by omega, hp⟩ hs
    obtain ⟨i, h1, h2⟩ := h
    obtain ⟨i', h1, h2, h3⟩ := key (i + 1) ⟨i, by omega, h1, h2⟩
    exact ⟨i', .inr ⟨i', h1, rfl, h2, h3⟩⟩
  · refine ⟨-1, .inl ⟨rfl, fun j hj => ?_⟩⟩
    cases hp : p (gw ts j) with
    | false => rfl
    | true => exact absurd ⟨j, hj, hp⟩ h
def isTk (t : Int) (w : Wl) : Bool := decide (w.1 = t)
/-- The place of a waiter in a queue. -/
def plcW (k : Int) (ts : List Wl) (p : Int) : Nat := if k = 1 then ts.length else (ts.takeWhile fun s => decide (p ≤ s.2.2.2.1)).length
def insW (o : List Wl) (n : Nat) (t : Wl) : List Wl := o.take n ++ t :: o.drop n
def pshE (k : Int) (ts : List Wl) (t : Wl) : Int := if wchE k ts ≠ 0 then wchE k ts else if okW t = false then 2 else if ts.length = 96 then 4 else 0
def pshQ (k : Int) (ts : List Wl) (t : Wl) : List Wl := if pshE k ts t = 0 then insW ts (plcW k ts t.2.2.2.1) t else []
def rmW (ts : List Wl) (t : Int) : List Wl := ts.filter fun w => !isTk t w
/-- What is granted, what is not, whether it has stopped, what is left. -/
def stG (skip : Bool) (s : List Wl × List Wl × Bool × Int) (w : Wl) : List Wl × List Wl × Bool × Int :=
  if s.2.2.1 = false ∧ 0 ≤ w.2.2.1 ∧ w.2.2.1 ≤ s.2.2.2 then (s.1 ++ [w], s.2.1, false, s.2.2.2 - w.2.2.1) else (s.1, s.2.1 ++ [w], !skip, s.2.2.2)
def grS (skip : Bool) (u : Int) (ts : List Wl) : List Wl × List Wl × Bool × Int := ts.foldl (stG skip) ([], [], false, u)
def grG (skip : Bool) (u : Int) (ts : List Wl) : List Wl := (grS skip u ts).1
def grO (skip : Bool) (u : Int) (ts : List Wl) : List Wl := (grS skip u ts).2.1
def grN (skip : Bool) (u : Int) (ts : List Wl) : Int := (grS skip u ts).2.2.2
theorem grS_snoc (skip : Bool) (u : Int) (ts : List Wl) (w : Wl) : grS skip u (ts ++ [w]) = stG skip (grS skip u ts) w := by simp [grS]
theorem plcW_le (k : Int) (o : List Wl) (p : Int) : plcW k o p ≤ o.length := by
  unfold plcW
  split
  · exact Nat.le_refl _
  · exact (List.takeWhile_sublist _).length_le
theorem insW_length (o : List Wl) (n : Nat) (t : Wl) (h : n ≤ o.length) : (insW o n t).length = o.length + 1 := by
  unfold insW
  simp
  omega
theorem rmW_length (ts : List Wl) (t : Int) : (rmW ts t).length ≤ ts.length := List.length_filter_le _ _
theorem rmW_snoc {l : List Wl} {w : Wl} {t : Int} : rmW (l ++ [w]) t = if isTk t w = true then rmW l t else rmW l t ++ [w] := by
  unfold rmW
  rw [List.filter_append]
  cases h : isTk t w <;> simp [h]
theorem psh_ok {k : Int} {ts : List Wl} {t : Wl} (h : pshE k ts t = 0) : wchE k ts = 0 ∧ okW t = true ∧ ts.length < 96 := by
  unfold pshE at h
  by_cases hc : wchE k ts ≠ 0
  · rw [if_pos hc] at h; exact absurd h hc
  · rw [if_neg hc] at h
    have hc : wchE k ts = 0 := by simpa using hc
    by_cases ho : okW t = false
    · rw [if_pos ho] at h; cases h
    · rw [if_neg ho] at h
      by_cases hl : ts.length = 96
      · rw [if_pos hl] at h; cases h
      · exact ⟨hc, by simpa using ho, by have := (wchE_iff.1 hc).2.1; omega⟩
/-- The tasks in the order of their first waiters. -/
def tskL (ts : List Wl) : List Int := ts.foldl (fun s w => if w.1 ∈ s then s else s ++ [w.1]) []
theorem tskL_snoc (ts : List Wl) (w : Wl) : tskL (ts ++ [w]) = if w.1 ∈ tskL ts then tskL ts else tskL ts ++ [w.1] := by
  unfold tskL
  rw [List.foldl_append]
  rfl
theorem tskL_mem {ts : List Wl} {x : Int} : x ∈ tskL ts ↔ ∃ w ∈ ts, w.1 = x := by
  have key : ∀ n, n ≤ ts.length → (x ∈ tskL (ts.take n) ↔ ∃ w ∈ ts.take n, w.1 = x) := by
    intro n
    induction n with
    | zero => intro _; simp [tskL]
    | succ n ih =>
      intro hn
      rw [take_snocW ts n (by omega), tskL_snoc]
      have ih := ih (by omega)
      by_cases hm : (gw ts n).1 ∈ tskL (ts.take n)
      · rw [if_pos hm, ih]
        constructor
        · rintro ⟨w, hw, e⟩; exact ⟨w, List.mem_append_left _ hw, e⟩
        · rintro ⟨w, hw, e⟩
          rcases List.mem_append.1 hw with hw | hw
          · exact ⟨w, hw, e⟩
          · obtain rfl : w = gw ts n := by simpa using hw
            rw [e] at hm
            exact ih.1 hm
      · rw [if_neg hm, List.mem_append, ih]
        constructor
        · rintro (⟨w, hw, e⟩ | h)
          · exact ⟨w, List.mem_append_left _ hw, e⟩
          · exact ⟨gw ts n, by simp, by simpa using Eq.symm (List.mem_singleton.1 h)⟩
        · rintro ⟨w, hw, e⟩
          rcases List.mem_append.1 hw with hw | hw
          · exact .inl ⟨w, hw, e⟩
          · obtain rfl : w = gw ts n := by simpa using hw
            exact .inr (by simp [e])
  have := key ts.length (Nat.le_refl _)
  rwa [List.take_length] at this
theorem tskL_length (ts : List Wl) : (tskL ts).length ≤ ts.length := by
  have key : ∀ n, n ≤ ts.length → (tskL (ts.take n)).length ≤ n := by
    intro n
    induction n with
    | zero => intro _; simp [tskL]
    | succ n ih =>
      intro hn
      rw [take_snocW ts n (by omega), tskL_snoc]
      have ih := ih (by omega)
      split
      · omega
      · simp; omega
  have := key ts.length (Nat.le_refl _)
  rwa [List.take_length] at this

end Go.Proofs.Ytonjempbphnimaa
