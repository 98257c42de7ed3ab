/-
  The plain mathematics of the transitive closure (no program in it), as it is gathered node by node.
-/
import Derived.Test.YtcggmonnajggcaaGraphPlain
namespace Go.Proofs.Ytcggmonnajggcaa

/-- There is a path of at least one edge. -/
def Rch1 (g : List (Nat × Nat)) (i k : Nat) : Prop := ∃ e ∈ g, e.1 = i ∧ Rch g e.2 k
open Classical in
noncomputable def clB (g : List (Nat × Nat)) (i k : Nat) : Bool := decide (Rch1 g i k)
open Classical in
theorem clB_iff {g : List (Nat × Nat)} {i k : Nat} : clB g i k = true ↔ Rch1 g i k := by unfold clB; exact decide_eq_true_iff
open Classical in
/-- What is marked of node i behind the first q edges. -/
noncomputable def thereK (N : Nat) (g : List (Nat × Nat)) (i q : Nat) : List Bool := (List.range N).map fun x => decide (∃ e ∈ g.take q, e.1 = i ∧ Rch g e.2 x)
theorem thereK_length (N : Nat) (g : List (Nat × Nat)) (i q : Nat) : (thereK N g i q).length = N := by simp [thereK]
open Classical in
theorem thereK_get {N : Nat} (g : List (Nat × Nat)) (i q : Nat) {x : Nat} (h : x < N) : (thereK N g i q)[x]? = some (decide (∃ e ∈ g.take q, e.1 = i ∧ Rch g e.2 x)) := by simp [thereK, h]
theorem thereK_zero (N : Nat) (g : List (Nat × Nat)) (i : Nat) : thereK N g i 0 = List.replicate N false := by
  apply List.ext_getElem?
  intro x
  by_cases hx : x < N
  · rw [thereK_get _ _ _ hx, List.getElem?_replicate, if_pos hx]
    simp
  · rw [List.getElem?_eq_none (by rw [thereK_length]; omega), List.getElem?_eq_none (by simp; omega)]
theorem thereK_all (N : Nat) (g : List (Nat × Nat)) (i q : Nat) (hq : g.length ≤ q) : thereK N g i q = (List.range N).map (clB g i) := by
  unfold thereK
  rw [List.take_of_length_le hq]
  apply List.map_congr_left
  intro x _
  unfold clB
  rw [decide_eq_decide]
  exact Iff.rfl
theorem mem_take_succ {g : List (Nat × Nat)} {q : Nat} {a : Nat × Nat} (h : g[q]? = some a) (e : Nat × Nat) : e ∈ g.take (q + 1) ↔ e ∈ g.take q ∨ e = a := by
  rw [List.take_add_one, h]
  simp
theorem thereK_pass {N : Nat} {g : List (Nat × Nat)} {i q u v : Nat} (h : g[q]? = some (u, v)) (hu : u ≠ i) : thereK N g i (q + 1) = thereK N g i q := by
  unfold thereK
  apply List.map_congr_left
  intro x _
  rw [decide_eq_decide]
  constructor
  · rintro ⟨e, he, h1, h2⟩
    rcases (mem_take_succ h e).1 he with he | rfl
    · exact ⟨e, he, h1, h2⟩
    · exact absurd h1 hu
  · rintro ⟨e, he, h1, h2⟩
    exact ⟨e, (mem_take_succ h e).2 (.inl he), h1, h2⟩
open Classical in
theorem thereK_old {N : Nat} {g : List (Nat × Nat)} {i q u v : Nat} (h : g[q]? = some (u, v)) (hv : v < N) (ht : (thereK N g i q)[v]? = some true) : thereK N g i (q + 1) = thereK N g i q := by
  rw [thereK_get _ _ _ hv] at ht
  have ht : ∃ e ∈ g.take q, e.1 = i ∧ Rch g e.2 v := by
    injection ht with ht
    exact of_decide_eq_true ht
  obtain ⟨e0, m0, f0, r0⟩ := ht
  unfold thereK
  apply List.map_congr_left
  intro x _
  rw [decide_eq_decide]
  constructor
  · rintro ⟨e, he, h1, h2⟩
    rcases (mem_take_succ h e).1 he with he | rfl
    · exact ⟨e, he, h1, h2⟩
    · exact ⟨e0, m0, f0, r0.trans h2⟩
  · rintro ⟨e, he, h1, h2⟩
    exact ⟨e, (mem_take_succ h e).2 (.inl he), h1, h2⟩

/-- The marks m, and those of r below q. -/
def mixK (N : Nat) (m r : List Bool) (q : Nat) : List Bool := (List.range N).map fun x => m.getD x false || (decide (x < q) && r.getD x false)
theorem mixK_length (N : Nat) (m r : List Bool) (q : Nat) : (mixK N m r q).length = N := by simp [mixK]
theorem mixK_get {N : Nat} (m r : List Bool) (q : Nat) {x : Nat} (h : x < N) : (mixK N m r q)[x]? = some (m.getD x false || (decide (x < q) && r.getD x false)) := by simp [mixK, h]
theorem mixK_zero {N : Nat} {m : List Bool} (r : List Bool) (hm : m.length = N) : mixK N m r 0 = m := by
  apply List.ext_getElem?
  intro x
  by_cases hx : x < N
  · rw [mixK_get _ _ _ hx]
    simp [List.getD_eq_getElem?_getD, List.getElem?_eq_getElem (by omega : x < m.length)]
  · rw [List.getElem?_eq_none (by rw [mixK_length]; omega), List.getElem?_eq_none (by omega)]
theorem mixK_self {N : Nat} {m r : List Bool} {q : Nat} (hq : q < N) {x : Bool} (hx : m[q]? = some x) : (mixK N m r q)[q]? = some x := by
  rw [mixK_get _ _ _ hq, List.getD_eq_getElem?_getD, hx]
  simp
theorem mixK_set {N : Nat} {m r : List Bool} {q : Nat} (hq : q < N) {x y : Bool} (hx : m[q]? = some x) (hy : r[q]? = some y) : (mixK N m r q).set q (x || y) = mixK N m r (q + 1) := by
  apply List.ext_getElem?
  intro z
  by_cases hz : z < N
  · rw [mixK_get _ _ _ hz]
    by_cases e : q = z
    · subst e
      rw [List.getElem?_set_self (by rw [mixK_length]; exact hq), List.getD_eq_getElem?_getD, hx, List.getD_eq_getElem?_getD, hy]
      simp
    · rw [List.getElem?_set_ne e, mixK_get _ _ _ hz]
      have h1 : decide (z < q + 1) = decide (z < q) := by rw [decide_eq_decide]; omega
      rw [h1]
  · rw [List.getElem?_eq_none (by rw [List.length_set, mixK_length]; omega), List.getElem?_eq_none (by rw [mixK_length]; omega)]
open Classical in
theorem mixK_all {N : Nat} {g : List (Nat × Nat)} {i q v : Nat} (h : g[q]? = some (i, v)) : mixK N (thereK N g i q) (reachB N g v) N = thereK N g i (q + 1) := by
  apply List.ext_getElem?
  intro x
  by_cases hx : x < N
  · rw [mixK_get _ _ _ hx, thereK_get _ _ _ hx, List.getD_eq_getElem?_getD, thereK_get _ _ _ hx, List.getD_eq_getElem?_getD, reachB_get hx]
    simp only [Option.getD_some, Option.some.injEq]
    rw [Bool.eq_iff_iff]
    simp only [Bool.or_eq_true, Bool.and_eq_true, decide_eq_true_eq, hx, true_and]
    constructor
    · rintro (⟨e, he, h1, h2⟩ | h2)
      · exact ⟨e, (mem_take_succ h e).2 (.inl he), h1, h2⟩
      · exact ⟨(i, v), (mem_take_succ h _).2 (.inr rfl), rfl, h2⟩
    · rintro ⟨e, he, h1, h2⟩
      rcases (mem_take_succ h e).1 he with he | rfl
      · exact .inl ⟨e, he, h1, h2⟩
      · exact .inr h2
  · rw [List.getElem?_eq_none (by rw [mixK_length]; omega), List.getElem?_eq_none (by rw [thereK_length]; omega)]

/-- The closure's edges out of node i to nodes below q. -/
noncomputable def clRow (g : List (Nat × Nat)) (i q : Nat) : List (Nat × Nat) := ((List.range q).filter (clB g i)).map fun x => (i, x)
/-- The closure's edges out of nodes below i. -/
noncomputable def closK (N : Nat) (g : List (Nat × Nat)) (i : Nat) : List (Nat × Nat) := (List.range i).flatMap fun j => clRow g j N
theorem clRow_zero (g : List (Nat × Nat)) (i : Nat) : clRow g i 0 = [] := rfl
theorem clRow_yes {g : List (Nat × Nat)} {i q : Nat} (h : clB g i q = true) : clRow g i (q + 1) = clRow g i q ++ [(i, q)] := by
  unfold clRow
  rw [List.range_succ, List.filter_append, List.map_append]
  simp [h]
theorem clRow_no {g : List (Nat × Nat)} {i q : Nat} (h : clB g i q = false) : clRow g i (q + 1) = clRow g i q := by
  unfold clRow
  rw [List.range_succ, List.filter_append, List.map_append]
  simp [h]
theorem clRow_length_le (g : List (Nat × Nat)) (i q : Nat) : (clRow g i q).length ≤ q := by
  unfold clRow
  rw [List.length_map]
  exact Nat.le_trans (List.length_filter_le _ _) (by simp)
theorem closK_succ (N : Nat) (g : List (Nat × Nat)) (i : Nat) : closK N g (i + 1) = closK N g i ++ clRow g i N := by
  unfold closK
  rw [List.range_succ, List.flatMap_append]
  simp
theorem closK_length_le (N : Nat) (g : List (Nat × Nat)) (i : Nat) : (closK N g i).length ≤ i * N := by
  induction i with
  | zero => simp [closK]
  | succ i ih =>
    rw [closK_succ, List.length_append, Nat.succ_mul]
    have := clRow_length_le g i N
    omega
/-- The closure lists the pairs of nodes with a path of at least one edge, no other. -/
theorem mem_closK {N : Nat} {g : List (Nat × Nat)} {a b : Nat} : (a, b) ∈ closK N g N ↔ a < N ∧ b < N ∧ Rch1 g a b := by
  unfold closK clRow
  simp only [List.mem_flatMap, List.mem_range, List.mem_map, List.mem_filter, Prod.mk.injEq]
  constructor
  · rintro ⟨j, hj, x, ⟨hx, hc⟩, rfl, rfl⟩
    exact ⟨hj, hx, clB_iff.1 hc⟩
  · rintro ⟨ha, hb, h⟩
    exact ⟨a, ha, b, ⟨hb, clB_iff.2 h⟩, rfl, rfl⟩

end Go.Proofs.Ytcggmonnajggcaa
