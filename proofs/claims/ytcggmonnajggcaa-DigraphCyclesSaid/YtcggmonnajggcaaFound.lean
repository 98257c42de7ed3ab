/-
  The plain mathematics of the nodes that are found by rounds over the edges (no program in it).
-/
import Derived.Test.YtcggmonnajggcaaCycPlain
import Derived.Test.YtcggmonnajggcaaDevReach
namespace Go.Proofs.Ytcggmonnajggcaa

theorem nodup_sub : ∀ (a b : List Nat), a.Nodup → (∀ x, x ∈ a → x ∈ b) → a.length ≤ b.length
  | [], b, _, _ => by simp
  | x :: a, b, hn, h => by
    obtain ⟨h1, h2⟩ := List.nodup_cons.1 hn
    have hx : x ∈ b := h x (List.mem_cons_self ..)
    have := nodup_sub a (b.erase x) h2 (fun y hy => by
      have hyx : y ≠ x := fun e => h1 (e ▸ hy)
      exact (List.mem_erase_of_ne hyx).2 (h y (List.mem_cons_of_mem _ hy)))
    rw [List.length_erase_of_mem hx] at this
    have := List.length_pos_of_mem hx
    rw [List.length_cons]
    omega

/-- What is known of the nodes found behind k rounds and q edges of the next one. -/
structure Fnd (N : Nat) (g : List (Nat × Nat)) (u k q : Nat) (F : List Nat) : Prop where
  nodup : F.Nodup
  rch : ∀ x, x ∈ F → Rch g u x ∧ x < N
  wlk : ∀ d v, d ≤ k → Wlk g d u v → v ∈ F
  edge : ∀ i a b, i < q → g[i]? = some (a, b) → (∃ d, d ≤ k ∧ Wlk g d u a) → b ∈ F

theorem Fnd.start {N : Nat} {g : List (Nat × Nat)} {u : Nat} (hu : u < N) : Fnd N g u 0 0 [u] where
  nodup := by simp
  rch := fun x hx => by simp at hx; subst hx; exact ⟨.refl, hu⟩
  wlk := fun d v hd h => by
    obtain rfl : d = 0 := by omega
    have : u = v := h
    subst this
    simp
  edge := fun i a b h => by omega
theorem Fnd.skip {N : Nat} {g : List (Nat × Nat)} {u k q a b : Nat} {F : List Nat} (h : Fnd N g u k q F) (he : g[q]? = some (a, b)) (hs : a ∈ F → b ∈ F) : Fnd N g u k (q + 1) F where
  nodup := h.nodup
  rch := h.rch
  wlk := h.wlk
  edge := fun i a' b' hi hg hd => by
    by_cases e : i = q
    · subst e
      rw [he] at hg
      cases hg
      obtain ⟨d, hd1, hd2⟩ := hd
      exact hs (h.wlk d _ hd1 hd2)
    · exact h.edge i a' b' (by omega) hg hd
theorem Fnd.push {N : Nat} {g : List (Nat × Nat)} {u k q a b : Nat} {F : List Nat} (h : Fnd N g u k q F) (he : g[q]? = some (a, b)) (ha : a ∈ F) (hb : b ∉ F) (hbN : b < N) : Fnd N g u k (q + 1) (F ++ [b]) where
  nodup := by
    rw [List.nodup_append]
    refine ⟨h.nodup, by simp, fun x hx y hy => ?_⟩
    simp at hy
    subst hy
    exact fun e => hb (e ▸ hx)
  rch := fun x hx => by
    rcases List.mem_append.1 hx with hx | hx
    · exact h.rch x hx
    · simp at hx
      subst hx
      exact ⟨(h.rch a ha).1.step (List.mem_of_getElem? he), hbN⟩
  wlk := fun d v hd hw => List.mem_append_left _ (h.wlk d v hd hw)
  edge := fun i a' b' hi hg hd => by
    by_cases e : i = q
    · subst e
      rw [he] at hg
      cases hg
      simp
    · exact List.mem_append_left _ (h.edge i a' b' (by omega) hg hd)
theorem Fnd.round {N : Nat} {g : List (Nat × Nat)} {u k : Nat} {F : List Nat} (h : Fnd N g u k g.length F) : Fnd N g u (k + 1) 0 F where
  nodup := h.nodup
  rch := h.rch
  wlk := fun d v hd hw => by
    by_cases e : d = k + 1
    · subst e
      obtain ⟨x, hx, hm⟩ : ∃ x, Wlk g k u x ∧ (x, v) ∈ g := hw
      obtain ⟨i, hi, hg⟩ := List.getElem_of_mem hm
      exact h.edge i x v hi (by rw [List.getElem?_eq_getElem hi, hg]) ⟨k, Nat.le_refl _, hx⟩
    · exact h.wlk d v (by omega) hw
  edge := fun i a b hi => by omega
theorem Fnd.all {N : Nat} {g : List (Nat × Nat)} {u : Nat} {F : List Nat} (h : Fnd N g u N 0 F) (hg : ∀ e, e ∈ g → e.1 < N ∧ e.2 < N) : F.length = (selN N (reachP g u)).length := by
  have mem : ∀ x, x ∈ selN N (reachP g u) ↔ x < N ∧ Rch g u x := fun x => by
    unfold selN
    rw [List.mem_filter, List.mem_range, reachP_iff]
  refine Nat.le_antisymm (nodup_sub _ _ h.nodup (fun x hx => (mem x).2 ⟨(h.rch x hx).2, (h.rch x hx).1⟩)) (nodup_sub _ _ ?_ (fun x hx => ?_))
  · exact List.Pairwise.filter _ List.nodup_range
  · obtain ⟨hxN, hr⟩ := (mem x).1 hx
    obtain ⟨d, hd⟩ := hr.wlk
    cases d with
    | zero => exact h.wlk 0 x (Nat.zero_le _) hd
    | succ d =>
      obtain ⟨h1, h2, _⟩ := dstN_spec hd
      exact h.wlk _ x (dstN_le hg u x) h2

end Go.Proofs.Ytcggmonnajggcaa
