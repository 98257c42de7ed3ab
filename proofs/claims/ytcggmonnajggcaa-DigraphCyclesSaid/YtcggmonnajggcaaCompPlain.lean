/-
  The plain mathematics of the classes of strongly connected nodes (no program in it), as they are gathered node by node.
-/
import Derived.Test.YtcggmonnajggcaaGraphPlain
namespace Go.Proofs.Ytcggmonnajggcaa

open Classical in
/-- Two nodes can be reached from each other. -/
noncomputable def mutB (g : List (Nat × Nat)) (i k : Nat) : Bool := decide (Rch g i k ∧ Rch g k i)
open Classical in
theorem mutB_iff {g : List (Nat × Nat)} {i k : Nat} : mutB g i k = true ↔ Rch g i k ∧ Rch g k i := by unfold mutB; exact decide_eq_true_iff
theorem mutB_symm {g : List (Nat × Nat)} {i k : Nat} (h : mutB g i k = true) : mutB g k i = true := by
  rw [mutB_iff] at *
  exact ⟨h.2, h.1⟩
theorem mutB_trans {g : List (Nat × Nat)} {i j k : Nat} (h : mutB g i j = true) (h2 : mutB g j k = true) : mutB g i k = true := by
  rw [mutB_iff] at *
  exact ⟨h.1.trans h2.1, h2.2.trans h.2⟩
theorem mutB_refl (g : List (Nat × Nat)) (i : Nat) : mutB g i i = true := by
  rw [mutB_iff]
  exact ⟨.refl, .refl⟩
open Classical in
theorem mutB_reach {N : Nat} {g : List (Nat × Nat)} {i k : Nat} {x y : Bool} (hi : i < N) (hk : k < N) (hx : (reachB N g i)[k]? = some x) (hy : (reachB N g k)[i]? = some y) : mutB g i k = (x && y) := by
  rw [reachB_get hk] at hx
  rw [reachB_get hi] at hy
  cases hx
  cases hy
  unfold mutB
  rw [Bool.eq_iff_iff]
  simp
open Classical in
theorem mutB_not {N : Nat} {g : List (Nat × Nat)} {i k : Nat} (hk : k < N) (hx : (reachB N g i)[k]? = some false) : mutB g i k = false := by
  rw [reachB_get hk] at hx
  have h : decide (Rch g i k) = false := by injection hx
  rw [decide_eq_false_iff_not] at h
  cases e : mutB g i k
  · rfl
  · exact absurd (mutB_iff.1 e).1 h

/-- The class of node i, as far as it lies between i and q. -/
noncomputable def clsK (g : List (Nat × Nat)) (i q : Nat) : List Nat := (List.range q).filter fun k => decide (i ≤ k) && mutB g i k
/-- A class of a node before i has this node. -/
noncomputable def doneB (g : List (Nat × Nat)) (i x : Nat) : Bool := (List.range i).any fun j => mutB g j x
/-- The classes of the nodes before i. -/
noncomputable def compsK (N : Nat) (g : List (Nat × Nat)) (i : Nat) : List (List Nat) := (List.range i).flatMap fun j => if doneB g j j then [] else [clsK g j N]
/-- What is marked when the class of i has been gathered up to q. -/
noncomputable def doneK (N : Nat) (g : List (Nat × Nat)) (i q : Nat) : List Bool := (List.range N).map fun x => doneB g i x || (decide (i ≤ x) && decide (x < q) && mutB g i x)

theorem clsK_start (g : List (Nat × Nat)) (i : Nat) : clsK g i i = [] := by
  unfold clsK
  rw [List.filter_eq_nil_iff]
  intro x hx
  rw [List.mem_range] at hx
  simp
  omega
theorem clsK_succ (g : List (Nat × Nat)) {i q : Nat} (h : i ≤ q) : clsK g i (q + 1) = clsK g i q ++ if mutB g i q then [q] else [] := by
  unfold clsK
  rw [List.range_succ, List.filter_append]
  congr 1
  by_cases e : mutB g i q = true
  · simp [h, e]
  · simp [e]
theorem clsK_length_le (g : List (Nat × Nat)) (i q : Nat) : (clsK g i q).length ≤ q := by
  unfold clsK
  exact Nat.le_trans (List.length_filter_le _ _) (by simp)
theorem compsK_succ (N : Nat) (g : List (Nat × Nat)) (i : Nat) : compsK N g (i + 1) = compsK N g i ++ if doneB g i i then [] else [clsK g i N] := by
  unfold compsK
  rw [List.range_succ, List.flatMap_append]
  simp
theorem compsK_length_le (N : Nat) (g : List (Nat × Nat)) (i : Nat) : (compsK N g i).length ≤ i := by
  induction i with
  | zero => simp [compsK]
  | succ i ih =>
    rw [compsK_succ, List.length_append]
    split <;> simp <;> omega
theorem doneB_succ (g : List (Nat × Nat)) (i x : Nat) : doneB g (i + 1) x = (doneB g i x || mutB g i x) := by
  unfold doneB
  rw [List.range_succ, List.any_append]
  simp
theorem doneB_of {g : List (Nat × Nat)} {i j x : Nat} (hj : j < i) (h : mutB g j x = true) : doneB g i x = true := by
  unfold doneB
  rw [List.any_eq_true]
  exact ⟨j, by simpa using hj, h⟩
theorem doneK_length (N : Nat) (g : List (Nat × Nat)) (i q : Nat) : (doneK N g i q).length = N := by simp [doneK]
theorem doneK_get {N x : Nat} (g : List (Nat × Nat)) (i q : Nat) (h : x < N) : (doneK N g i q)[x]? = some (doneB g i x || (decide (i ≤ x) && decide (x < q) && mutB g i x)) := by simp [doneK, h]
theorem doneK_self {N i : Nat} (g : List (Nat × Nat)) (h : i < N) : (doneK N g i i)[i]? = some (doneB g i i) := by
  rw [doneK_get g i i h]
  simp
theorem doneK_zero (N : Nat) (g : List (Nat × Nat)) : doneK N g 0 0 = List.replicate N false := by
  apply List.ext_getElem?
  intro v
  by_cases hv : v < N
  · rw [doneK_get _ _ _ hv, List.getElem?_replicate, if_pos hv]
    simp [doneB]
  · rw [List.getElem?_eq_none (by rw [doneK_length]; omega), List.getElem?_eq_none (by simp; omega)]
theorem doneK_ext {N : Nat} {g : List (Nat × Nat)} {i q i' q' : Nat} (h : ∀ x, x < N → (doneB g i x || (decide (i ≤ x) && decide (x < q) && mutB g i x)) = (doneB g i' x || (decide (i' ≤ x) && decide (x < q') && mutB g i' x))) : doneK N g i q = doneK N g i' q' := by
  apply List.ext_getElem?
  intro v
  by_cases hv : v < N
  · rw [doneK_get _ _ _ hv, doneK_get _ _ _ hv, h v hv]
  · rw [List.getElem?_eq_none (by rw [doneK_length]; omega), List.getElem?_eq_none (by rw [doneK_length]; omega)]
theorem doneK_skip {N : Nat} {g : List (Nat × Nat)} {i q : Nat} (h : mutB g i q = false) : doneK N g i (q + 1) = doneK N g i q := by
  apply doneK_ext
  intro x _
  by_cases e : x = q
  · subst e; rw [h]; simp
  · have : decide (x < q + 1) = decide (x < q) := by rw [decide_eq_decide]; omega
    rw [this]
theorem doneK_mark {N : Nat} {g : List (Nat × Nat)} {i q : Nat} (hiq : i ≤ q) (h : mutB g i q = true) : (doneK N g i q).set q true = doneK N g i (q + 1) := by
  apply List.ext_getElem?
  intro v
  by_cases hv : v < N
  · by_cases e : q = v
    · subst e
      rw [List.getElem?_set_self (by rw [doneK_length]; exact hv), doneK_get _ _ _ hv, h]
      simp [hiq]
    · rw [List.getElem?_set_ne e, doneK_get _ _ _ hv, doneK_get _ _ _ hv]
      have : decide (v < q + 1) = decide (v < q) := by rw [decide_eq_decide]; omega
      rw [this]
  · rw [List.getElem?_eq_none (by rw [List.length_set, doneK_length]; omega), List.getElem?_eq_none (by rw [doneK_length]; omega)]
theorem doneK_next {N : Nat} {g : List (Nat × Nat)} {i : Nat} (h : doneB g i i = false) : doneK N g i N = doneK N g (i + 1) (i + 1) := by
  apply doneK_ext
  intro x hx
  rw [doneB_succ]
  have hm : x < i → mutB g i x = false := fun hlt => by
    cases e : mutB g i x
    · rfl
    · rw [doneB_of hlt (mutB_symm e)] at h; cases h
  by_cases hxi : i ≤ x
  · have e2 : (decide (i + 1 ≤ x) && decide (x < i + 1)) = false := by simp
    rw [e2]
    simp [hxi, hx]
  · rw [hm (by omega)]
    have e2 : decide (i ≤ x) = false := by simp; omega
    have e3 : decide (i + 1 ≤ x) = false := by simp; omega
    rw [e2, e3]
    simp
theorem doneK_pass {N : Nat} {g : List (Nat × Nat)} {i : Nat} (h : doneB g i i = true) : doneK N g i i = doneK N g (i + 1) (i + 1) := by
  apply doneK_ext
  intro x _
  rw [doneB_succ]
  have e1 : (decide (i ≤ x) && decide (x < i)) = false := by simp
  have e2 : (decide (i + 1 ≤ x) && decide (x < i + 1)) = false := by simp
  rw [e1, e2]
  simp only [Bool.false_and, Bool.or_false]
  cases e : mutB g i x
  · simp
  · have : doneB g i x = true := by
      unfold doneB at h ⊢
      rw [List.any_eq_true] at h ⊢
      obtain ⟨j, hj, hm⟩ := h
      exact ⟨j, hj, mutB_trans hm e⟩
    rw [this]
    rfl

end Go.Proofs.Ytcggmonnajggcaa
