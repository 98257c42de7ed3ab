/-
  The plain mathematics of the program's shortest cycle (no program in it).
-/
import Derived.Test.YtcggmonnajggcaaBfsPlain
import Derived.Test.YtcggmonnajggcaaKahnPlain
namespace Go.Proofs.Ytcggmonnajggcaa

/-- The shorter one of the cycles' lengths, and the node with which it begins. -/
noncomputable def bst1 (g : List (Nat × Nat)) (p : Nat × Nat) (i : Nat) : Nat × Nat := if 0 < dstN g i i ∧ (p.1 = 0 ∨ dstN g i i < p.1) then (dstN g i i, i) else p
noncomputable def bst (g : List (Nat × Nat)) (k : Nat) : Nat × Nat := (List.range k).foldl (bst1 g) (0, 0)
theorem bst_zero (g : List (Nat × Nat)) : bst g 0 = (0, 0) := rfl
theorem bst_succ (g : List (Nat × Nat)) (k : Nat) : bst g (k + 1) = bst1 g (bst g k) k := by
  unfold bst
  rw [List.range_succ, List.foldl_append]
  rfl
theorem bst_spec (g : List (Nat × Nat)) (k : Nat) : ((bst g k).1 = 0 ∧ ∀ i, i < k → dstN g i i = 0) ∨ ((bst g k).2 < k ∧ 0 < (bst g k).1 ∧ dstN g (bst g k).2 (bst g k).2 = (bst g k).1 ∧ ∀ i, i < k → 0 < dstN g i i → (bst g k).1 ≤ dstN g i i ∧ (dstN g i i = (bst g k).1 → (bst g k).2 ≤ i)) := by
  induction k with
  | zero => exact .inl ⟨rfl, fun i hi => absurd hi (by omega)⟩
  | succ k ih =>
    rw [bst_succ]
    obtain ⟨p, hp⟩ : ∃ p, bst g k = p := ⟨_, rfl⟩
    rw [hp] at ih ⊢
    obtain ⟨a, b⟩ := p
    simp only [] at ih
    unfold bst1
    simp only []
    by_cases hc : 0 < dstN g k k ∧ (a = 0 ∨ dstN g k k < a)
    · rw [if_pos hc]
      right
      refine ⟨by simp, hc.1, rfl, fun i hi h0 => ?_⟩
      simp only []
      by_cases e : i = k
      · subst e; exact ⟨Nat.le_refl _, fun _ => Nat.le_refl _⟩
      · rcases ih with ⟨h1, h2⟩ | ⟨h1, h2, h3, h4⟩
        · have := h2 i (by omega); omega
        · have := h4 i (by omega) h0
          omega
    · rw [if_neg hc]
      rcases ih with ⟨h1, h2⟩ | ⟨h1, h2, h3, h4⟩
      · left
        refine ⟨h1, fun i hi => ?_⟩
        by_cases e : i = k
        · subst e; omega
        · exact h2 i (by omega)
      · right
        refine ⟨by simp only []; omega, h2, h3, fun i hi h0 => ?_⟩
        by_cases e : i = k
        · subst e
          simp only [] at *
          omega
        · exact h4 i (by omega) h0
/-- The next node on the way back to s, from which the rest is a long. -/
noncomputable def stepC (g : List (Nat × Nat)) (s a x : Nat) : Nat := ((succN g x).find? (fun y => dstN g y s == a)).getD x
noncomputable def walkC (g : List (Nat × Nat)) (s : Nat) : Nat → Nat → List Nat
  | 0, _ => []
  | a + 1, x => stepC g s (a + 1) x :: walkC g s a (stepC g s (a + 1) x)
/-- The program's cycle. -/
noncomputable def cycD (N : Nat) (g : List (Nat × Nat)) : List Nat := if (bst g N).1 = 0 then [] else (bst g N).2 :: walkC g (bst g N).2 ((bst g N).1 - 1) (bst g N).2
theorem walkC_length (g : List (Nat × Nat)) (s a x : Nat) : (walkC g s a x).length = a := by
  induction a generalizing x with
  | zero => rfl
  | succ a ih => rw [walkC, List.length_cons, ih]
theorem stepC_hit {g : List (Nat × Nat)} {s a x y : Nat} {pre : List Nat} (hp : pre ++ [y] <+: succN g x) (hn : ∀ z, z ∈ pre → dstN g z s ≠ a) (hy : dstN g y s = a) : stepC g s a x = y := by
  obtain ⟨t, ht⟩ := hp
  unfold stepC
  rw [← ht, List.append_assoc, List.find?_append, List.find?_eq_none.2 (fun z hz => by simpa using hn z hz)]
  simp [hy]
theorem stepC_miss {g : List (Nat × Nat)} {s a x : Nat} (hn : ∀ z, z ∈ succN g x → dstN g z s ≠ a) : stepC g s a x = x := by
  unfold stepC
  rw [List.find?_eq_none.2 (fun z hz => by simpa using hn z hz)]
  rfl

/-- The number of edges of a shortest path. -/
def Low (g : List (Nat × Nat)) (d u v : Nat) : Prop := Wlk g d u v ∧ ∀ e, e < d → ¬ Wlk g e u v
theorem Low.uniq {g : List (Nat × Nat)} {d e u v : Nat} (h : Low g d u v) (k : Low g e u v) : d = e := by
  have h1 : ¬ d < e := fun hlt => k.2 d hlt h.1
  have h2 : ¬ e < d := fun hlt => h.2 e hlt k.1
  omega
theorem Low.next {g : List (Nat × Nat)} {d u v : Nat} (h : Low g (d + 1) u v) : ∃ x, (u, x) ∈ g ∧ Low g d x v := by
  obtain ⟨x, hx, hw⟩ := h.1.first
  exact ⟨x, hx, hw, fun e he hwe => h.2 (e + 1) (by omega) (hwe.cons hx)⟩
theorem Low.exists {g : List (Nat × Nat)} {d u v : Nat} (h : Wlk g d u v) : ∃ e, e ≤ d ∧ Low g e u v := by
  have hs := leastOf_spec (p := fun e => Wlk g e u v) ⟨d, h⟩
  exact ⟨_, hs.2 d h, hs.1, fun e he hw => by have := hs.2 e hw; omega⟩
theorem Low.lt {g : List (Nat × Nat)} {N d u v : Nat} (hg : ∀ e, e ∈ g → e.1 < N ∧ e.2 < N) (hu : u < N) (h : Low g d u v) : d < N := by
  have key : ∀ d u, u < N → Low g d u v → ∃ l : List Nat, l.length = d + 1 ∧ l.Nodup ∧ (∀ x, x ∈ l → x < N) ∧ ∀ x, x ∈ l → ∃ e, e ≤ d ∧ Low g e x v := by
    intro d
    induction d with
    | zero => intro u hu h; exact ⟨[u], rfl, by simp, fun x hx => by simp at hx; omega, fun x hx => by simp at hx; subst hx; exact ⟨0, Nat.le_refl _, h⟩⟩
    | succ d ih =>
      intro u hu h
      obtain ⟨x, hx, hl⟩ := h.next
      obtain ⟨l, h1, h2, h3, h4⟩ := ih x (hg _ hx).2 hl
      refine ⟨u :: l, by simp [h1], List.nodup_cons.2 ⟨fun hm => ?_, h2⟩, fun y hy => ?_, fun y hy => ?_⟩
      · obtain ⟨e, he, hle⟩ := h4 u hm
        have := hle.uniq h
        omega
      · rcases List.mem_cons.1 hy with rfl | hy
        · exact hu
        · exact h3 y hy
      · rcases List.mem_cons.1 hy with rfl | hy
        · exact ⟨d + 1, Nat.le_refl _, h⟩
        · obtain ⟨e, he, hle⟩ := h4 y hy
          exact ⟨e, by omega, hle⟩
  obtain ⟨l, h1, h2, h3, _⟩ := key d u hu h
  have := nodup_length_le N l h2 h3
  omega
theorem dstN_le {g : List (Nat × Nat)} {N : Nat} (hg : ∀ e, e ∈ g → e.1 < N ∧ e.2 < N) (s v : Nat) : dstN g s v ≤ N := by
  by_cases h0 : 0 < dstN g s v
  · obtain ⟨h1, h2⟩ := dstN_pos h0
    obtain ⟨d, hd⟩ : ∃ d, dstN g s v = d + 1 := ⟨dstN g s v - 1, by omega⟩
    rw [hd] at h1 h2 ⊢
    obtain ⟨x, hx, hw⟩ := h1.first
    have hl : Low g d x v := ⟨hw, fun e he hwe => by have := h2 e (hwe.cons hx); omega⟩
    exact hl.lt hg (hg _ hx).2
  · omega

end Go.Proofs.Ytcggmonnajggcaa
