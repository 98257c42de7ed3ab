/-
  The plain mathematics of reachability (no program in it): paths, and marking the nodes that can be reached, sweep by sweep.
-/
import Derived.Lib.Hide
namespace Go.Proofs.Ytcggmonnajggcaa

/-- There is a path from s to a node. -/
inductive Rch (g : List (Nat × Nat)) (s : Nat) : Nat → Prop
  | refl : Rch g s s
  | step {u v : Nat} : Rch g s u → (u, v) ∈ g → Rch g s v
theorem Rch.trans {g : List (Nat × Nat)} {a b c : Nat} (h : Rch g a b) (k : Rch g b c) : Rch g a c := by
  induction k with
  | refl => exact h
  | step _ he ih => exact .step ih he
theorem Rch.one {g : List (Nat × Nat)} {u v : Nat} (h : (u, v) ∈ g) : Rch g u v := .step .refl h
theorem Rch.lt {g : List (Nat × Nat)} {N s v : Nat} (hs : s < N) (hg : ∀ e ∈ g, e.1 < N ∧ e.2 < N) (h : Rch g s v) : v < N := by
  induction h with
  | refl => exact hs
  | step _ he _ => exact (hg _ he).2

/-- How many nodes are not marked. -/
def falses (m : List Bool) : Nat := m.countP fun b => !b
theorem falses_le (m : List Bool) : falses m ≤ m.length := List.countP_le_length
theorem falses_set (m : List Bool) (i : Nat) (h : m[i]? = some false) : falses (m.set i true) + 1 = falses m := by
  induction m generalizing i with
  | nil => simp at h
  | cons b r ih =>
    cases i with
    | zero =>
      simp at h
      subst h
      simp [falses]
    | succ i =>
      have := ih i (by simpa using h)
      unfold falses at *
      simp only [List.set_cons_succ, List.countP_cons]
      omega

/-- The marks that are sure: all are right, and the first node has one. -/
def MarkInv (N : Nat) (g : List (Nat × Nat)) (s : Nat) (m : List Bool) : Prop := m.length = N ∧ m[s]? = some true ∧ ∀ v, m[v]? = some true → Rch g s v
theorem MarkInv.start {N : Nat} {g : List (Nat × Nat)} {s : Nat} (hs : s < N) : MarkInv N g s ((List.replicate N false).set s true) := by
  refine ⟨by simp, by simp [hs], fun v hv => ?_⟩
  by_cases e : s = v
  · subst e; exact .refl
  · rw [List.getElem?_set_ne e, List.getElem?_replicate] at hv
    split at hv
    · cases hv
    · cases hv
theorem MarkInv.set {N : Nat} {g : List (Nat × Nat)} {s u v : Nat} {m : List Bool} (h : MarkInv N g s m) (he : (u, v) ∈ g) (hu : m[u]? = some true) (hv : v < N) : MarkInv N g s (m.set v true) := by
  obtain ⟨h1, h2, h3⟩ := h
  refine ⟨by simp [h1], ?_, fun x hx => ?_⟩
  · by_cases e : v = s
    · subst e; simp [h1, hv]
    · rw [List.getElem?_set_ne e]; exact h2
  · by_cases e : v = x
    · subst e; exact .step (h3 u hu) he
    · rw [List.getElem?_set_ne e] at hx; exact h3 x hx
/-- No edge leads out of what is marked. -/
def ClosedB (g : List (Nat × Nat)) (m : List Bool) : Prop := ∀ e ∈ g, m[e.1]? = some true → m[e.2]? = some true
theorem MarkInv.done {N : Nat} {g : List (Nat × Nat)} {s : Nat} {m : List Bool} (h : MarkInv N g s m) (hc : ClosedB g m) (v : Nat) : m[v]? = some true ↔ Rch g s v := by
  refine ⟨h.2.2 v, fun hr => ?_⟩
  induction hr with
  | refl => exact h.2.1
  | step _ he ih => exact hc _ he ih

open Classical in
/-- Which nodes can be reached. -/
noncomputable def reachB (N : Nat) (g : List (Nat × Nat)) (s : Nat) : List Bool := (List.range N).map fun v => decide (Rch g s v)
theorem reachB_length (N : Nat) (g : List (Nat × Nat)) (s : Nat) : (reachB N g s).length = N := by simp [reachB]
open Classical in
theorem reachB_get {N : Nat} {g : List (Nat × Nat)} {s v : Nat} (h : v < N) : (reachB N g s)[v]? = some (decide (Rch g s v)) := by simp [reachB, h]
open Classical in
theorem MarkInv.eq {N : Nat} {g : List (Nat × Nat)} {s : Nat} {m : List Bool} (h : MarkInv N g s m) (hc : ClosedB g m) : m = reachB N g s := by
  apply List.ext_getElem?
  intro v
  by_cases hv : v < N
  · rw [reachB_get hv]
    have hl : v < m.length := by rw [h.1]; exact hv
    have := h.done hc v
    rw [List.getElem?_eq_getElem hl] at this ⊢
    congr 1
    rw [Bool.eq_iff_iff, decide_eq_true_eq, ← this]
    simp
  · rw [List.getElem?_eq_none (by rw [h.1]; omega), List.getElem?_eq_none (by rw [reachB_length]; omega)]

/-- The marked nodes, in ascending order, from node i on. -/
def markedFrom (i : Nat) : List Bool → List Nat
  | [] => []
  | b :: r => if b then i :: markedFrom (i + 1) r else markedFrom (i + 1) r
def markedL (m : List Bool) : List Nat := markedFrom 0 m
theorem markedFrom_snoc (i : Nat) (m : List Bool) (b : Bool) : markedFrom i (m ++ [b]) = markedFrom i m ++ if b then [i + m.length] else [] := by
  induction m generalizing i with
  | nil => cases b <;> simp [markedFrom]
  | cons c r ih =>
    simp only [List.cons_append, markedFrom, ih, List.length_cons]
    cases c <;> simp <;> cases b <;> simp <;> omega
theorem markedL_snoc (m : List Bool) (b : Bool) : markedL (m ++ [b]) = markedL m ++ if b then [m.length] else [] := by
  unfold markedL
  rw [markedFrom_snoc]
  simp
theorem markedL_length_le (m : List Bool) : (markedL m).length ≤ m.length := by
  have : ∀ i, (markedFrom i m).length ≤ m.length := by
    induction m with
    | nil => intro i; simp [markedFrom]
    | cons b r ih =>
      intro i
      have := ih (i + 1)
      cases b <;> simp [markedFrom] <;> omega
  exact this 0

end Go.Proofs.Ytcggmonnajggcaa
