/-
  The plain mathematics of distances to a node (no program in it), as they are found sweep by sweep.
-/
import Derived.Lib.Hide
namespace Go.Proofs.Ytcggmonnajggcaa

/-- One edge in sweep d. -/
def dist1 (d : Nat) (r : List Int) (e : Nat × Nat) : List Int := if r.getD e.2 (-1) = (d : Int) ∧ r.getD e.1 (-1) < 0 then r.set e.1 ((d : Int) + 1) else r
def distN (g : List (Nat × Nat)) (r : List Int) (d : Nat) : List Int := g.foldl (dist1 d) r
def dist0 (N t : Nat) : List Int := (List.replicate N (-1)).set t 0
/-- The distances to node t. -/
def distF (N : Nat) (g : List (Nat × Nat)) (t : Nat) : List Int := (List.range N).foldl (distN g) (dist0 N t)
theorem fold_snoc {α β : Type} (f : β → α → β) (r : β) (l : List α) (k : Nat) (a : α) (h : l[k]? = some a) : (l.take (k + 1)).foldl f r = f ((l.take k).foldl f r) a := by
  rw [List.take_add_one, h, List.foldl_append]
  rfl
theorem range_fold {β : Type} (f : β → Nat → β) (r : β) (k : Nat) : (List.range (k + 1)).foldl f r = f ((List.range k).foldl f r) k := by
  rw [List.range_succ, List.foldl_append]
  rfl
theorem dist1_length (d : Nat) (r : List Int) (e : Nat × Nat) : (dist1 d r e).length = r.length := by unfold dist1; split <;> simp
theorem dist1_yes {d : Nat} {r : List Int} {u v : Nat} {b : Int} (hv : r[v]? = some (d : Int)) (hu : r[u]? = some b) (hb : b < 0) : dist1 d r (u, v) = r.set u ((d : Int) + 1) := by
  unfold dist1
  rw [if_pos]
  simp only [List.getD_eq_getElem?_getD, hv, hu, Option.getD_some]
  exact ⟨trivial, hb⟩
theorem dist1_far {d : Nat} {r : List Int} {u v : Nat} {a : Int} (hv : r[v]? = some a) (ha : a ≠ (d : Int)) : dist1 d r (u, v) = r := by
  unfold dist1
  rw [if_neg]
  simp only [List.getD_eq_getElem?_getD, hv, Option.getD_some]
  exact fun h => ha h.1
theorem dist1_had {d : Nat} {r : List Int} {u v : Nat} {b : Int} (hu : r[u]? = some b) (hb : ¬ b < 0) : dist1 d r (u, v) = r := by
  unfold dist1
  rw [if_neg]
  simp only [List.getD_eq_getElem?_getD, hu, Option.getD_some]
  exact fun h => hb h.2

/-- What is written of -1 up to k. -/
def initK (N k : Nat) : List Int := (List.range N).map fun x => if x < k then -1 else 0
theorem initK_length (N k : Nat) : (initK N k).length = N := by simp [initK]
theorem initK_get {N : Nat} (k : Nat) {x : Nat} (h : x < N) : (initK N k)[x]? = some (if x < k then -1 else 0) := by simp [initK, h]
theorem initK_zero (N : Nat) : initK N 0 = List.replicate N 0 := by
  apply List.ext_getElem?
  intro x
  by_cases hx : x < N
  · rw [initK_get _ hx, List.getElem?_replicate, if_pos hx]; simp
  · rw [List.getElem?_eq_none (by rw [initK_length]; omega), List.getElem?_eq_none (by simp; omega)]
theorem initK_all (N : Nat) : initK N N = List.replicate N (-1) := by
  apply List.ext_getElem?
  intro x
  by_cases hx : x < N
  · rw [initK_get _ hx, List.getElem?_replicate, if_pos hx, if_pos hx]
  · rw [List.getElem?_eq_none (by rw [initK_length]; omega), List.getElem?_eq_none (by simp; omega)]
theorem initK_set {N k : Nat} (hk : k < N) : (initK N k).set k (-1) = initK N (k + 1) := by
  apply List.ext_getElem?
  intro x
  by_cases hx : x < N
  · rw [initK_get _ hx]
    by_cases e : k = x
    · subst e
      rw [List.getElem?_set_self (by rw [initK_length]; exact hk), if_pos (by omega)]
    · rw [List.getElem?_set_ne e, initK_get _ hx]
      by_cases h : x < k
      · rw [if_pos h, if_pos (by omega)]
      · rw [if_neg h, if_neg (by omega)]
  · rw [List.getElem?_eq_none (by rw [List.length_set, initK_length]; omega), List.getElem?_eq_none (by rw [initK_length]; omega)]

/-- Every distance that is known is 0 at t alone, or leads on to a node that is nearer by one; none is greater than M. -/
structure DistInv (N : Nat) (g : List (Nat × Nat)) (t : Nat) (M : Nat) (r : List Int) : Prop where
  len : r.length = N
  root : r[t]? = some 0
  low : ∀ (x : Nat) (b : Int), r[x]? = some b → -1 ≤ b ∧ b ≤ (M : Int)
  step : ∀ (x : Nat) (b : Int), r[x]? = some b → 0 ≤ b → (x = t ∧ b = 0) ∨ (0 < b ∧ ∃ y, (x, y) ∈ g ∧ r[y]? = some (b - 1))
theorem DistInv.start {N t : Nat} (g : List (Nat × Nat)) (ht : t < N) : DistInv N g t 0 (dist0 N t) := by
  have key : ∀ (x : Nat) (b : Int), (dist0 N t)[x]? = some b → (x = t ∧ b = 0) ∨ b = -1 := by
    intro x b h
    unfold dist0 at h
    by_cases e : t = x
    · subst e
      rw [List.getElem?_set_self (by simp; exact ht)] at h
      injection h with h
      exact .inl ⟨rfl, h.symm⟩
    · rw [List.getElem?_set_ne e, List.getElem?_replicate] at h
      split at h
      · injection h with h; exact .inr h.symm
      · cases h
  refine ⟨by simp [dist0], by unfold dist0; rw [List.getElem?_set_self (by simp; exact ht)], fun x b h => ?_, fun x b h hb => ?_⟩
  · rcases key x b h with ⟨_, rfl⟩ | rfl <;> omega
  · rcases key x b h with ⟨e, rfl⟩ | rfl
    · exact .inl ⟨e, rfl⟩
    · omega
theorem DistInv.more {N t M : Nat} {g : List (Nat × Nat)} {r : List Int} (h : DistInv N g t M r) {M' : Nat} (hM : M ≤ M') : DistInv N g t M' r :=
  ⟨h.len, h.root, fun x b hx => by have := h.low x b hx; omega, h.step⟩
theorem DistInv.one {N t d : Nat} {g : List (Nat × Nat)} {r : List Int} (h : DistInv N g t (d + 1) r) {e : Nat × Nat} (he : e ∈ g) : DistInv N g t (d + 1) (dist1 d r e) := by
  unfold dist1
  split
  · rename_i hc
    obtain ⟨h1, h2⟩ := hc
    obtain ⟨u, v⟩ := e
    simp only [List.getD_eq_getElem?_getD] at h1 h2
    have hv : r[v]? = some (d : Int) := by
      cases e1 : r[v]? with
      | none => rw [e1] at h1; simp at h1
      | some a => rw [e1] at h1; simp at h1; rw [h1]
    have hut : u ≠ t := by
      intro e
      subst e
      rw [h.root] at h2
      simp at h2
    have huv : u ≠ v := by
      intro e
      subst e
      rw [hv] at h2
      simp at h2
      omega
    refine ⟨by simp [h.len], by rw [List.getElem?_set_ne hut]; exact h.root, fun x b hx => ?_, fun x b hx hb => ?_⟩
    · by_cases e : u = x
      · subst e
        rw [List.getElem?_set] at hx
        simp at hx
        omega
      · rw [List.getElem?_set_ne e] at hx
        exact h.low x b hx
    · by_cases e : u = x
      · subst e
        rw [List.getElem?_set] at hx
        simp at hx
        refine .inr ⟨by omega, v, he, ?_⟩
        rw [List.getElem?_set_ne huv, hv]
        congr 1
        omega
      · rw [List.getElem?_set_ne e] at hx
        rcases h.step x b hx hb with h3 | ⟨h3, y, h4, h5⟩
        · exact .inl h3
        · refine .inr ⟨h3, y, h4, ?_⟩
          have huy : u ≠ y := by
            intro e
            subst e
            rw [h5] at h2
            simp at h2
            omega
          rw [List.getElem?_set_ne huy]
          exact h5
  · exact h
theorem DistInv.sweep {N t d : Nat} {g : List (Nat × Nat)} {r : List Int} (h : DistInv N g t d r) : DistInv N g t (d + 1) (distN g r d) := by
  unfold distN
  have key : ∀ (l : List (Nat × Nat)) (r : List Int), (∀ e ∈ l, e ∈ g) → DistInv N g t (d + 1) r → DistInv N g t (d + 1) (l.foldl (dist1 d) r) := by
    intro l
    induction l with
    | nil => intro r _ h; exact h
    | cons e l ih => intro r hl h; rw [List.foldl_cons]; exact ih _ (fun x hx => hl x (List.mem_cons_of_mem _ hx)) (h.one (hl e List.mem_cons_self))
  exact key g r (fun e he => he) (h.more (by omega))
theorem distF_inv {N t : Nat} (g : List (Nat × Nat)) (ht : t < N) : DistInv N g t N (distF N g t) := by
  unfold distF
  have key : ∀ k, DistInv N g t k ((List.range k).foldl (distN g) (dist0 N t)) := by
    intro k
    induction k with
    | zero => exact DistInv.start g ht
    | succ k ih => rw [range_fold]; exact ih.sweep
  exact key N
theorem sweep_length (g : List (Nat × Nat)) (d : Nat) (r : List Int) : (g.foldl (dist1 d) r).length = r.length := by
  induction g generalizing r with
  | nil => rfl
  | cons e g ih => rw [List.foldl_cons, ih, dist1_length]
theorem dists_length (N k : Nat) (g : List (Nat × Nat)) (t : Nat) : ((List.range k).foldl (distN g) (dist0 N t)).length = N := by
  induction k with
  | zero => simp [dist0]
  | succ k ih => rw [range_fold, distN, sweep_length, ih]

end Go.Proofs.Ytcggmonnajggcaa
