/-
  The plain mathematics of the program's topological order: how many predecessors of a node are not in the order yet.
-/
import Derived.Test.YtcggmonnajggcaaOrderPlain
import Derived.Test.YtcggmonnajggcaaDevPlain
namespace Go.Proofs.Ytcggmonnajggcaa

/-- A list over the nodes. -/
def tabN (N : Nat) (f : Nat → Int) : List Int := (List.range N).map f
theorem tabN_length (N : Nat) (f : Nat → Int) : (tabN N f).length = N := by simp [tabN]
theorem tabN_get {N : Nat} (f : Nat → Int) {j : Nat} (h : j < N) : (tabN N f)[j]? = some (f j) := by simp [tabN, h]
theorem tabN_set {N : Nat} {f g : Nat → Int} {y : Nat} {z : Int} (hz : g y = z) (hg : ∀ j, j ≠ y → g j = f j) : (tabN N f).set y z = tabN N g := by
  apply List.ext_getElem?
  intro v
  by_cases hv : v < N
  · rw [tabN_get _ hv]
    by_cases e : y = v
    · subst e
      rw [List.getElem?_set_self (by rw [tabN_length]; exact hv), hz]
    · rw [List.getElem?_set_ne e, tabN_get _ hv, hg v (fun h => e h.symm)]
  · rw [List.getElem?_eq_none (by rw [List.length_set, tabN_length]; omega), List.getElem?_eq_none (by rw [tabN_length]; omega)]
theorem tabN_ext {N : Nat} {f g : Nat → Int} (h : ∀ j, j < N → f j = g j) : tabN N f = tabN N g := by
  unfold tabN
  exact List.map_congr_left (fun x hx => h x (List.mem_range.1 hx))
theorem tabN_zero (N : Nat) : List.replicate N (0 : Int) = tabN N (fun _ => 0) := by
  apply List.ext_getElem?
  intro v
  by_cases hv : v < N
  · rw [tabN_get _ hv, List.getElem?_replicate, if_pos hv]
  · rw [List.getElem?_eq_none (by simp; omega), List.getElem?_eq_none (by rw [tabN_length]; omega)]

/-- How many edges to node j there are among the first q. -/
def inK (g : List (Nat × Nat)) (q j : Nat) : Int := ((g.take q).countP fun e => e.2 == j : Nat)
theorem inK_zero (g : List (Nat × Nat)) (j : Nat) : inK g 0 j = 0 := by simp [inK]
theorem inK_succ {g : List (Nat × Nat)} {q u v : Nat} (h : g[q]? = some (u, v)) (j : Nat) : inK g (q + 1) j = inK g q j + if v = j then 1 else 0 := by
  unfold inK
  rw [List.take_add_one, h]
  simp only [Option.toList_some, List.countP_append, List.countP_cons, List.countP_nil]
  by_cases e : v = j <;> simp [e]
theorem inK_bound (g : List (Nat × Nat)) (q j : Nat) : 0 ≤ inK g q j ∧ inK g q j ≤ g.length := by
  unfold inK
  have h1 := List.countP_le_length (p := fun e : Nat × Nat => e.2 == j) (l := g.take q)
  have h2 : (g.take q).length ≤ g.length := by simp; omega
  omega
/-- How many predecessors of node j are missing; -1 if it is in the order. -/
def missV (g : List (Nat × Nat)) (out : List Nat) (j : Nat) : Int := if out.contains j then -1 else (g.countP fun e => e.2 == j && !out.contains e.1 : Nat)
theorem missV_bound (g : List (Nat × Nat)) (out : List Nat) (j : Nat) : -1 ≤ missV g out j ∧ missV g out j ≤ g.length := by
  unfold missV
  have h1 := List.countP_le_length (p := fun e : Nat × Nat => e.2 == j && !out.contains e.1) (l := g)
  split <;> omega
theorem missV_nil (g : List (Nat × Nat)) (j : Nat) : missV g [] j = inK g g.length j := by
  unfold missV inK
  simp
theorem missV_free {g : List (Nat × Nat)} {out : List Nat} {j : Nat} : missV g out j = 0 ↔ freeB g out j = true := by
  unfold missV freeB
  by_cases h : out.contains j
  · rw [if_pos h, h]
    simp
  · rw [if_neg h]
    simp only [h, Bool.not_false, Bool.true_and]
    rw [Int.natCast_eq_zero, List.countP_eq_zero, List.all_eq_true]
    constructor
    · intro hh e he
      have := hh e he
      by_cases e1 : e.2 = j
      · simp [e1] at this
        simp [this]
      · simp [e1]
    · intro hh e he
      have := hh e he
      by_cases e1 : e.2 = j
      · simp [e1] at this
        simp [this]
      · simp [e1]
/-- The same, while node u has just been put into the order and its successors up to now have been told. -/
def missW (g : List (Nat × Nat)) (out : List Nat) (u : Nat) (pre : List Nat) (j : Nat) : Int := (if j = u then -1 else missV g out j) - (pre.count j : Nat)
theorem missW_bound (g : List (Nat × Nat)) (out : List Nat) (u : Nat) (pre : List Nat) (j : Nat) (h : pre.length ≤ 2000) (hg : g.length ≤ 2000) : -2001 ≤ missW g out u pre j ∧ missW g out u pre j ≤ 2000 := by
  unfold missW
  have h1 := List.count_le_length (l := pre) (a := j)
  have h2 := missV_bound g out j
  split <;> omega
theorem missW_start (N : Nat) (g : List (Nat × Nat)) (out : List Nat) (u : Nat) : (tabN N (missV g out)).set u (-1) = tabN N (missW g out u []) := by
  refine tabN_set ?_ (fun j hj => ?_)
  · simp [missW]
  · simp [missW, hj]
theorem missW_step (N : Nat) (g : List (Nat × Nat)) (out : List Nat) (u : Nat) (pre : List Nat) (y : Nat) : (tabN N (missW g out u pre)).set y (missW g out u pre y - 1) = tabN N (missW g out u (pre ++ [y])) := by
  refine tabN_set ?_ (fun j hj => ?_)
  · unfold missW
    rw [List.count_append]
    simp
    omega
  · unfold missW
    rw [List.count_append]
    simp [Ne.symm hj]
/-- With a node all its predecessors are in the order. -/
def DownC (g : List (Nat × Nat)) (out : List Nat) : Prop := ∀ e, e ∈ g → e.2 ∈ out → e.1 ∈ out
theorem free_spec {g : List (Nat × Nat)} {out : List Nat} {u : Nat} (h : freeB g out u = true) : u ∉ out ∧ ∀ e, e ∈ g → e.2 = u → e.1 ∈ out := by
  unfold freeB at h
  simp only [Bool.and_eq_true, List.all_eq_true] at h
  refine ⟨by simpa using h.1, fun e he e2 => ?_⟩
  have := h.2 e he
  simpa [e2] using this
theorem DownC.snoc {g : List (Nat × Nat)} {out : List Nat} {u : Nat} (h : DownC g out) (hf : freeB g out u = true) : DownC g (out ++ [u]) := by
  intro e he hm
  rw [List.mem_append] at hm ⊢
  rcases hm with hm | hm
  · exact .inl (h e he hm)
  · simp at hm
    exact .inl ((free_spec hf).2 e he hm)
theorem count_succ (g : List (Nat × Nat)) (u j : Nat) : (succN g u).count j = g.countP fun e => e.1 == u && e.2 == j := by
  unfold succN
  rw [List.count, List.countP_map, List.countP_filter]
  congr 1
  funext e
  simp only [Function.comp_def]
  rw [Bool.and_comm]
theorem missW_done {N : Nat} {g : List (Nat × Nat)} {out : List Nat} {u : Nat} (hd : DownC g out) (hf : freeB g out u = true) : tabN N (missW g out u (succN g u)) = tabN N (missV g (out ++ [u])) := by
  obtain ⟨f1, f2⟩ := free_spec hf
  refine tabN_ext (fun j _ => ?_)
  unfold missW
  rw [count_succ]
  by_cases hju : j = u
  · subst hju
    have h0 : (g.countP fun e => e.1 == j && e.2 == j) = 0 := by
      rw [List.countP_eq_zero]
      intro e he h
      simp only [Bool.and_eq_true, beq_iff_eq] at h
      exact f1 (h.1 ▸ f2 e he h.2)
    rw [h0]
    unfold missV
    simp
  · rw [if_neg hju]
    by_cases hjo : j ∈ out
    · have h0 : (g.countP fun e => e.1 == u && e.2 == j) = 0 := by
        rw [List.countP_eq_zero]
        intro e he h
        simp only [Bool.and_eq_true, beq_iff_eq] at h
        exact f1 (h.1 ▸ hd e he (h.2 ▸ hjo))
      rw [h0]
      unfold missV
      simp [hjo]
    · have e1 : missV g out j = (g.countP fun e => e.2 == j && !out.contains e.1 : Nat) := by unfold missV; simp [hjo]
      have e2 : missV g (out ++ [u]) j = (g.countP fun e => e.2 == j && !(out ++ [u]).contains e.1 : Nat) := by unfold missV; simp [hjo, hju]
      rw [e1, e2]
      have key : ∀ l : List (Nat × Nat), (l.countP fun e => e.2 == j && !out.contains e.1) = (l.countP fun e => e.2 == j && !(out ++ [u]).contains e.1) + (l.countP fun e => e.1 == u && e.2 == j) := by
        intro l
        induction l with
        | nil => rfl
        | cons a l ih =>
          simp only [List.countP_cons, ih]
          by_cases a1 : a.1 = u <;> by_cases a2 : a.2 = j
          · simp [a1, a2, f1]; omega
          · simp [a1, a2]
          · by_cases a3 : a.1 ∈ out <;> simp [a1, a2, a3] <;> omega
          · simp [a1, a2]
      rw [key g]
      omega
/-- The first node of which none is missing. -/
def idxZ (l : List Int) : Option Nat := l.findIdx? (fun x => x == 0)
theorem idx_next (N : Nat) (g : List (Nat × Nat)) (out : List Nat) : (∃ i, i < N ∧ nextF N g out = some i ∧ missV g out i = 0 ∧ ∀ j, j < i → missV g out j ≠ 0) ∨ (nextF N g out = none ∧ ∀ j, j < N → missV g out j ≠ 0) := by
  cases h : nextF N g out with
  | some i =>
    obtain ⟨h1, h2, h3⟩ := nextF_spec h
    exact .inl ⟨i, h1, rfl, missV_free.2 h2, fun j hj hz => by have := h3 j hj; rw [missV_free.1 hz] at this; cases this⟩
  | none =>
    refine .inr ⟨rfl, fun j hj hz => ?_⟩
    unfold nextF at h
    rw [List.find?_eq_none] at h
    exact h j (by simpa using hj) (missV_free.1 hz)
theorem nodup_length_le : ∀ (N : Nat) (l : List Nat), l.Nodup → (∀ x, x ∈ l → x < N) → l.length ≤ N
  | 0, l, _, h => by
    cases l with
    | nil => simp
    | cons a l => exact absurd (h a (by simp)) (by omega)
  | N + 1, l, hn, h => by
    have h1 := nodup_length_le N (l.erase N) (hn.erase N) (fun x hx => by
      have h2 := (List.Nodup.mem_erase_iff hn).1 hx
      have := h x h2.2
      omega)
    have := List.length_erase (l := l) (a := N)
    split at this <;> omega
/-- What is known of the order so far. -/
structure OrdSt (N : Nat) (g : List (Nat × Nat)) (out : List Nat) : Prop where
  nodup : out.Nodup
  lt : ∀ x, x ∈ out → x < N
  down : DownC g out
theorem OrdSt.nil (N : Nat) (g : List (Nat × Nat)) : OrdSt N g [] := ⟨List.nodup_nil, fun x h => by simp at h, fun e _ h => by simp at h⟩
theorem OrdSt.snoc {N : Nat} {g : List (Nat × Nat)} {out : List Nat} {u : Nat} (h : OrdSt N g out) (hu : u < N) (hf : freeB g out u = true) : OrdSt N g (out ++ [u]) := by
  refine ⟨?_, fun x hx => ?_, h.down.snoc hf⟩
  · rw [List.nodup_append]
    refine ⟨h.nodup, by simp, fun a ha b hb => ?_⟩
    simp at hb
    subst hb
    rintro rfl
    exact (free_spec hf).1 ha
  · rcases List.mem_append.1 hx with hx | hx
    · exact h.lt x hx
    · simp at hx
      omega
theorem OrdSt.length_le {N : Nat} {g : List (Nat × Nat)} {out : List Nat} (h : OrdSt N g out) : out.length ≤ N := nodup_length_le N out h.nodup h.lt
theorem OrdSt.length_lt {N : Nat} {g : List (Nat × Nat)} {out : List Nat} {u : Nat} (h : OrdSt N g out) (hu : u < N) (hf : freeB g out u = true) : out.length < N := by
  have := (h.snoc hu hf).length_le
  simp at this
  omega

end Go.Proofs.Ytcggmonnajggcaa
