/-
  The plain mathematics of linear extensions (no program in it): how many predecessors of an element are left; the extensions that begin with a list.
-/
import Derived.Test.YtbfeiegjhcjbnaaPoPlain
namespace Go.Proofs.Ytbfeiegjhcjbnaa

/-- The elements that fulfil a condition. -/
def selN (N : Nat) (p : Nat → Bool) : List Nat := (List.range N).filter p
theorem selN_yes {k : Nat} {p : Nat → Bool} (h : p k = true) : selN (k + 1) p = selN k p ++ [k] := by
  unfold selN
  rw [List.range_succ, List.filter_append]
  simp [h]
theorem selN_no {k : Nat} {p : Nat → Bool} (h : p k = false) : selN (k + 1) p = selN k p := by
  unfold selN
  rw [List.range_succ, List.filter_append]
  simp [h]
theorem selN_length (N : Nat) (p : Nat → Bool) : (selN N p).length ≤ N := by
  unfold selN
  have := List.length_filter_le p (List.range N)
  simpa using this
theorem mem_selN {N : Nat} {p : Nat → Bool} {x : Nat} : x ∈ selN N p ↔ x < N ∧ p x = true := by
  unfold selN
  simp
theorem selN_pair (N : Nat) (p : Nat → Bool) : (selN N p).Pairwise (· < ·) := by
  unfold selN
  exact List.Pairwise.filter _ List.pairwise_lt_range
theorem selN_pre {N k : Nat} (p : Nat → Bool) (h : k ≤ N) : selN k p <+: selN N p := by
  unfold selN
  obtain ⟨d, rfl⟩ : ∃ d, N = k + d := ⟨N - k, by omega⟩
  rw [List.range_add, List.filter_append]
  exact List.prefix_append _ _
theorem nodup_length_le : ∀ (N : Nat) (l : List Nat), l.Nodup → (∀ x, x ∈ l → x < N) → l.length ≤ N
  | 0, l, _, h => by
    cases l with
    | nil => simp
    | cons a l => exact absurd (h a (by simp)) (by omega)
  | N + 1, l, hn, h => by
    have h1 := nodup_length_le N (l.erase N) (hn.erase N) (fun x hx => by
      have h2 := (List.Nodup.mem_erase_iff hn).1 hx
      have := h x h2.2
      omega)
    have := List.length_erase (l := l) (a := N)
    split at this <;> omega

/-- How many predecessors of element j are left; -1 if it is used. -/
def lefV (N : Nat) (f : Nat → Nat → Bool) (out : List Nat) (j : Nat) : Int := if out.contains j then -1 else (((List.range N).countP fun a => f a j && !out.contains a : Nat) : Int)
/-- Element j may be used next. -/
def freeF (N : Nat) (f : Nat → Nat → Bool) (out : List Nat) (j : Nat) : Bool := !out.contains j && (List.range N).all fun a => !f a j || out.contains a
theorem lefV_bound (N : Nat) (f : Nat → Nat → Bool) (out : List Nat) (j : Nat) : -1 ≤ lefV N f out j ∧ lefV N f out j ≤ N := by
  unfold lefV
  have h := List.countP_le_length (p := fun a => f a j && !out.contains a) (l := List.range N)
  rw [List.length_range] at h
  split <;> omega
theorem lefV_free {N : Nat} {f : Nat → Nat → Bool} {out : List Nat} {j : Nat} : (lefV N f out j == 0) = freeF N f out j := by
  unfold lefV freeF
  cases h : out.contains j with
  | true => rfl
  | false =>
    rw [if_neg (by simp), Bool.eq_iff_iff, beq_iff_eq, Int.natCast_eq_zero, List.countP_eq_zero]
    simp only [Bool.not_false, Bool.true_and, List.all_eq_true]
    constructor
    · intro hh a ha
      have := hh a ha
      cases h1 : f a j <;> cases h2 : out.contains a <;> simp_all
    · intro hh a ha
      have := hh a ha
      cases h1 : f a j <;> cases h2 : out.contains a <;> simp_all
theorem free_spec {N : Nat} {f : Nat → Nat → Bool} {out : List Nat} {j : Nat} (hL : Low2 N f) (h : freeF N f out j = true) : j ∉ out ∧ ∀ a, f a j = true → a ∈ out := by
  unfold freeF at h
  simp only [Bool.and_eq_true, List.all_eq_true, List.mem_range] at h
  refine ⟨by simpa using h.1, fun a ha => ?_⟩
  have := h.2 a (hL a j ha).1
  rw [ha] at this
  simpa using this
theorem free_of {N : Nat} {f : Nat → Nat → Bool} {out : List Nat} {j : Nat} (h1 : j ∉ out) (h2 : ∀ a, f a j = true → a ∈ out) : freeF N f out j = true := by
  unfold freeF
  simp only [Bool.and_eq_true, List.all_eq_true, List.mem_range]
  refine ⟨by simpa using h1, fun a _ => ?_⟩
  cases h : f a j with
  | false => rfl
  | true => simpa using h2 a h

/-- The numbers of predecessors, as they are counted row by row. -/
def cntK (f : Nat → Nat → Bool) (k j : Nat) : Int := (((List.range k).countP fun a => f a j : Nat) : Int)
def cntJ (f : Nat → Nat → Bool) (k c j : Nat) : Int := cntK f k j + if j < c ∧ f k j = true then 1 else 0
theorem cntK_zero (f : Nat → Nat → Bool) (j : Nat) : cntK f 0 j = 0 := rfl
theorem cntJ_zero (f : Nat → Nat → Bool) (k j : Nat) : cntJ f k 0 j = cntK f k j := by unfold cntJ; rw [if_neg (by omega)]; omega
theorem cntK_bound (f : Nat → Nat → Bool) (k j : Nat) : 0 ≤ cntK f k j ∧ cntK f k j ≤ k := by
  unfold cntK
  have h := List.countP_le_length (p := fun a => f a j) (l := List.range k)
  rw [List.length_range] at h
  omega
theorem cntJ_bound (f : Nat → Nat → Bool) (k c j : Nat) : 0 ≤ cntJ f k c j ∧ cntJ f k c j ≤ k + 1 := by
  unfold cntJ
  have := cntK_bound f k j
  split <;> omega
theorem cntJ_full {N : Nat} {f : Nat → Nat → Bool} {k j : Nat} (hj : j < N) : cntJ f k N j = cntK f (k + 1) j := by
  unfold cntJ cntK
  rw [List.range_succ, List.countP_append]
  cases h : f k j <;> simp [hj, h]
theorem cntJ_yes {f : Nat → Nat → Bool} {k c j : Nat} (h : f k c = true) : cntJ f k (c + 1) j = if j = c then cntJ f k c c + 1 else cntJ f k c j := by
  unfold cntJ
  by_cases e : j = c
  · subst e
    simp [h]
  · rw [if_neg e]
    by_cases hl : j < c
    · simp [hl, show j < c + 1 by omega]
    · simp [hl, show ¬ j < c + 1 by omega]
theorem cntJ_no {f : Nat → Nat → Bool} {k c j : Nat} (h : f k c = false) : cntJ f k (c + 1) j = cntJ f k c j := by
  unfold cntJ
  by_cases e : j = c
  · subst e
    simp [h]
  · by_cases hl : j < c
    · simp [hl, show j < c + 1 by omega]
    · simp [hl, show ¬ j < c + 1 by omega]
theorem lefV_nil (N : Nat) (f : Nat → Nat → Bool) (j : Nat) : lefV N f [] j = cntK f N j := by
  unfold lefV cntK
  simp

/-- What is known of a beginning of an extension. -/
structure OrdP (N : Nat) (f : Nat → Nat → Bool) (out : List Nat) : Prop where
  nodup : out.Nodup
  lt : ∀ x, x ∈ out → x < N
  down : ∀ a b, f a b = true → b ∈ out → a ∈ out
theorem OrdP.nil (N : Nat) (f : Nat → Nat → Bool) : OrdP N f [] := ⟨List.nodup_nil, fun x h => by simp at h, fun a b _ h => by simp at h⟩
theorem OrdP.snoc {N : Nat} {f : Nat → Nat → Bool} {out : List Nat} {u : Nat} (h : OrdP N f out) (hL : Low2 N f) (hu : u < N) (hf : freeF N f out u = true) : OrdP N f (out ++ [u]) := by
  obtain ⟨f1, f2⟩ := free_spec hL hf
  refine ⟨?_, fun x hx => ?_, fun a b hab hb => ?_⟩
  · rw [List.nodup_append]
    refine ⟨h.nodup, by simp, fun a ha b hb => ?_⟩
    simp at hb
    subst hb
    rintro rfl
    exact f1 ha
  · rcases List.mem_append.1 hx with hx | hx
    · exact h.lt x hx
    · simp at hx
      omega
  · rcases List.mem_append.1 hb with hb | hb
    · exact List.mem_append_left _ (h.down a b hab hb)
    · simp at hb
      subst hb
      exact List.mem_append_left _ (f2 a hab)
theorem OrdP.length_le {N : Nat} {f : Nat → Nat → Bool} {out : List Nat} (h : OrdP N f out) : out.length ≤ N := nodup_length_le N out h.nodup h.lt

/-- The numbers, while element u has just been used and its row is gone through up to column c. -/
def lefW (N : Nat) (f : Nat → Nat → Bool) (out : List Nat) (u c j : Nat) : Int := (if j = u then -1 else lefV N f out j) - if j < c ∧ f u j = true then 1 else 0
theorem lefW_bound (N : Nat) (f : Nat → Nat → Bool) (out : List Nat) (u c j : Nat) : -2 ≤ lefW N f out u c j ∧ lefW N f out u c j ≤ N := by
  unfold lefW
  have := lefV_bound N f out j
  split <;> split <;> omega
theorem lefW_zero (N : Nat) (f : Nat → Nat → Bool) (out : List Nat) (u j : Nat) : lefW N f out u 0 j = if j = u then -1 else lefV N f out j := by
  unfold lefW
  rw [if_neg (show ¬ (j < 0 ∧ f u j = true) by omega)]
  omega
theorem lefW_yes {N : Nat} {f : Nat → Nat → Bool} {out : List Nat} {u c j : Nat} (h : f u c = true) : lefW N f out u (c + 1) j = if j = c then lefW N f out u c c - 1 else lefW N f out u c j := by
  unfold lefW
  by_cases e : j = c
  · subst e
    simp [h]
  · rw [if_neg e]
    by_cases hl : j < c
    · simp [hl, show j < c + 1 by omega]
    · simp [hl, show ¬ j < c + 1 by omega]
theorem lefW_no {N : Nat} {f : Nat → Nat → Bool} {out : List Nat} {u c j : Nat} (h : f u c = false) : lefW N f out u (c + 1) j = lefW N f out u c j := by
  unfold lefW
  by_cases e : j = c
  · subst e
    simp [h]
  · by_cases hl : j < c
    · simp [hl, show j < c + 1 by omega]
    · simp [hl, show ¬ j < c + 1 by omega]
theorem countP_less {f : Nat → Nat → Bool} {out : List Nat} {u j : Nat} (hu : u ∉ out) : ∀ l : List Nat, l.Nodup → (l.countP fun a => f a j && !out.contains a) = (l.countP fun a => f a j && !(out ++ [u]).contains a) + if u ∈ l ∧ f u j = true then 1 else 0
  | [], _ => by simp
  | a :: l, hn => by
    obtain ⟨n1, n2⟩ := List.nodup_cons.1 hn
    have ih := countP_less (f := f) (j := j) hu l n2
    rw [List.countP_cons, List.countP_cons, ih]
    by_cases e : a = u
    · subst e
      have e1 : out.contains a = false := by simpa using hu
      have e2 : (out ++ [a]).contains a = true := by simp
      rw [if_neg (show ¬ (a ∈ l ∧ f a j = true) from fun h => n1 h.1), e1, e2]
      cases h : f a j <;> simp
    · have e1 : (out ++ [u]).contains a = out.contains a := by
        rw [Bool.eq_iff_iff, List.contains_iff_mem, List.contains_iff_mem]
        simp [e]
      rw [e1]
      have e2 : (u ∈ a :: l ∧ f u j = true) ↔ (u ∈ l ∧ f u j = true) := by
        rw [List.mem_cons]
        constructor
        · rintro ⟨rfl | h, h2⟩
          · exact absurd rfl e
          · exact ⟨h, h2⟩
        · rintro ⟨h, h2⟩
          exact ⟨.inr h, h2⟩
      simp only [e2]
      omega
theorem lefW_done {N : Nat} {f : Nat → Nat → Bool} {out : List Nat} {u j : Nat} (hL : Low2 N f) (ho : OrdP N f out) (hu : u < N) (hf : freeF N f out u = true) (hj : j < N) : lefW N f out u N j = lefV N f (out ++ [u]) j := by
  obtain ⟨f1, f2⟩ := free_spec hL hf
  have huu : f u u = false := by
    cases h : f u u with
    | false => rfl
    | true => exact absurd (f2 u h) f1
  unfold lefW
  by_cases e : j = u
  · subst e
    rw [if_pos rfl, huu]
    unfold lefV
    simp
  · rw [if_neg e]
    unfold lefV
    by_cases hjo : j ∈ out
    · have h1 : f u j = false := by
        cases h : f u j with
        | false => rfl
        | true => exact absurd (ho.down u j h hjo) f1
      have c1 : out.contains j = true := by simpa using hjo
      have c2 : (out ++ [u]).contains j = true := by simp [hjo]
      rw [c1, c2, h1]
      simp
    · have c1 : out.contains j = false := by simpa using hjo
      have c2 : (out ++ [u]).contains j = false := by simp [hjo, e]
      rw [c1, c2]
      simp only [Bool.false_eq_true, if_false]
      rw [countP_less (j := j) f1 (List.range N) List.nodup_range]
      have hm : u ∈ List.range N := List.mem_range.2 hu
      generalize (List.range N).countP (fun a => f a j && !(out ++ [u]).contains a) = z
      by_cases h : f u j = true
      · rw [if_pos ⟨hm, h⟩, if_pos ⟨hj, h⟩]
        omega
      · rw [if_neg (fun hh => h hh.2), if_neg (fun hh => h hh.2)]
        omega

/-- The extensions that begin with out, if m elements are left. -/
def extN (N : Nat) (f : Nat → Nat → Bool) : Nat → List Nat → List (List Nat)
  | 0, out => [out]
  | m + 1, out => (selN N (freeF N f out)).flatMap fun x => extN N f m (out ++ [x])
/-- Those whose next element is one of these. -/
def extL (N : Nat) (f : Nat → Nat → Bool) (m : Nat) (out xs : List Nat) : List (List Nat) := xs.flatMap fun x => extN N f m (out ++ [x])
theorem extN_succ (N : Nat) (f : Nat → Nat → Bool) (m : Nat) (out : List Nat) : extN N f (m + 1) out = extL N f m out (selN N (freeF N f out)) := rfl
theorem extL_nil (N : Nat) (f : Nat → Nat → Bool) (m : Nat) (out : List Nat) : extL N f m out [] = [] := rfl
theorem extL_snoc (N : Nat) (f : Nat → Nat → Bool) (m : Nat) (out xs : List Nat) (x : Nat) : extL N f m out (xs ++ [x]) = extL N f m out xs ++ extN N f m (out ++ [x]) := by simp [extL]
theorem extL_pre {N : Nat} {f : Nat → Nat → Bool} {m : Nat} {out xs : List Nat} {x : Nat} {q : List (List Nat)} (hx : xs ++ [x] <+: selN N (freeF N f out)) (hq : q <+: extN N f m (out ++ [x])) : extL N f m out xs ++ q <+: extN N f (m + 1) out := by
  obtain ⟨t, ht⟩ := hx
  obtain ⟨s, hs⟩ := hq
  refine ⟨s ++ extL N f m out t, ?_⟩
  rw [extN_succ, ← ht]
  unfold extL
  rw [List.flatMap_append, List.flatMap_append, List.flatMap_cons, List.flatMap_nil, List.append_nil, ← hs]
  simp

end Go.Proofs.Ytbfeiegjhcjbnaa
