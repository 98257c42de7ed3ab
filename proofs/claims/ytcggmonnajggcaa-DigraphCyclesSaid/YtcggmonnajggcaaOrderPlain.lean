/-
  The plain mathematics of the least topological order (no program in it): at each position the least node that is not there yet and whose predecessors all stand before.
-/
import Derived.Lib.Hide
namespace Go.Proofs.Ytcggmonnajggcaa

/-- Node i may stand behind the nodes of out. -/
def freeB (g : List (Nat × Nat)) (out : List Nat) (i : Nat) : Bool := !out.contains i && g.all fun e => e.2 != i || out.contains e.1
/-- The least one below N. -/
def nextF (N : Nat) (g : List (Nat × Nat)) (out : List Nat) : Option Nat := (List.range N).find? (freeB g out)
/-- The order that begins with out; none if it cannot be continued. -/
def orderFrom (N : Nat) (g : List (Nat × Nat)) (out : List Nat) : Option (List Nat) :=
  if out.length < N then
    match nextF N g out with
    | none => none
    | some i => orderFrom N g (out ++ [i])
  else some out
termination_by N - out.length
decreasing_by simp; omega

theorem nextF_some {N : Nat} {g : List (Nat × Nat)} {out : List Nat} {i : Nat} (hi : i < N) (hf : freeB g out i = true) (hb : ∀ j, j < i → freeB g out j = false) : nextF N g out = some i := by
  unfold nextF
  rw [List.find?_range_eq_some]
  exact ⟨hf, by simpa using hi, fun j hj => by simp [hb j hj]⟩
theorem nextF_none {N : Nat} {g : List (Nat × Nat)} {out : List Nat} (hb : ∀ j, j < N → freeB g out j = false) : nextF N g out = none := by
  unfold nextF
  rw [List.find?_eq_none]
  intro x hx
  rw [List.mem_range] at hx
  simp [hb x hx]
theorem nextF_spec {N : Nat} {g : List (Nat × Nat)} {out : List Nat} {i : Nat} (h : nextF N g out = some i) : i < N ∧ freeB g out i = true ∧ ∀ j, j < i → freeB g out j = false := by
  unfold nextF at h
  rw [List.find?_range_eq_some] at h
  obtain ⟨h1, h2, h3⟩ := h
  exact ⟨by simpa using h2, h1, fun j hj => by simpa using h3 j hj⟩
theorem orderFrom_none {N : Nat} {g : List (Nat × Nat)} {out : List Nat} (hl : out.length < N) (h : nextF N g out = none) : orderFrom N g out = none := by
  rw [orderFrom, if_pos hl, h]
theorem orderFrom_some {N : Nat} {g : List (Nat × Nat)} {out : List Nat} {i : Nat} (hl : out.length < N) (h : nextF N g out = some i) : orderFrom N g out = orderFrom N g (out ++ [i]) := by
  rw [orderFrom, if_pos hl, h]
theorem orderFrom_full {N : Nat} {g : List (Nat × Nat)} {out : List Nat} (hl : ¬ out.length < N) : orderFrom N g out = some out := by
  rw [orderFrom, if_neg hl]

/-- What is known of free behind k edges. -/
def freeK (g : List (Nat × Nat)) (out : List Nat) (i k : Nat) : Bool := !out.contains i && (g.take k).all fun e => e.2 != i || out.contains e.1
theorem freeK_zero (g : List (Nat × Nat)) (out : List Nat) (i : Nat) : freeK g out i 0 = !out.contains i := by simp [freeK]
theorem freeK_all (g : List (Nat × Nat)) (out : List Nat) (i : Nat) : freeK g out i g.length = freeB g out i := by simp [freeK, freeB]
theorem freeK_succ {g : List (Nat × Nat)} {k u v : Nat} (out : List Nat) (i : Nat) (h : g[k]? = some (u, v)) : freeK g out i (k + 1) = (freeK g out i k && (v != i || out.contains u)) := by
  unfold freeK
  rw [List.take_add_one, h]
  simp [List.all_append, Bool.and_assoc]

/-- The marks of the nodes of out. -/
def marksOf (N : Nat) (out : List Nat) : List Bool := (List.range N).map fun v => out.contains v
theorem marksOf_length (N : Nat) (out : List Nat) : (marksOf N out).length = N := by simp [marksOf]
theorem marksOf_get {N v : Nat} (out : List Nat) (h : v < N) : (marksOf N out)[v]? = some (out.contains v) := by simp [marksOf, h]
theorem marksOf_nil (N : Nat) : marksOf N [] = List.replicate N false := by
  apply List.ext_getElem?
  intro v
  by_cases hv : v < N
  · rw [marksOf_get _ hv, List.getElem?_replicate, if_pos hv]; rfl
  · rw [List.getElem?_eq_none (by rw [marksOf_length]; omega), List.getElem?_eq_none (by simp; omega)]
theorem marksOf_snoc {N i : Nat} (out : List Nat) (hi : i < N) : (marksOf N out).set i true = marksOf N (out ++ [i]) := by
  apply List.ext_getElem?
  intro v
  by_cases hv : v < N
  · rw [marksOf_get _ hv]
    by_cases e : i = v
    · subst e
      rw [List.getElem?_set_self (by rw [marksOf_length]; exact hi)]
      simp
    · rw [List.getElem?_set_ne e, marksOf_get _ hv]
      have : v ≠ i := fun h => e h.symm
      simp [this]
  · rw [List.getElem?_eq_none (by rw [List.length_set, marksOf_length]; omega), List.getElem?_eq_none (by rw [marksOf_length]; omega)]

end Go.Proofs.Ytcggmonnajggcaa
