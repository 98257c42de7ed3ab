/-
  The plain mathematics of a breadth-first search (no program in it): walks of a given length, and the distances that the search finds.
-/
import Derived.Deep.LoopGhost
import Derived.Test.YtcggmonnajggcaaClosPlain
namespace Go.Proofs.Ytcggmonnajggcaa

/-- There is a path of exactly d edges. -/
def Wlk (g : List (Nat × Nat)) : Nat → Nat → Nat → Prop
  | 0, s, v => s = v
  | d + 1, s, v => ∃ u, Wlk g d s u ∧ (u, v) ∈ g
theorem Wlk.rch {g : List (Nat × Nat)} {d s v : Nat} (h : Wlk g d s v) : Rch g s v := by
  induction d generalizing v with
  | zero => cases h; exact .refl
  | succ d ih => obtain ⟨u, hu, he⟩ := h; exact .step (ih hu) he
theorem Rch.wlk {g : List (Nat × Nat)} {s v : Nat} (h : Rch g s v) : ∃ d, Wlk g d s v := by
  induction h with
  | refl => exact ⟨0, rfl⟩
  | step _ he ih => obtain ⟨d, hd⟩ := ih; exact ⟨d + 1, _, hd, he⟩
theorem Wlk.cons {g : List (Nat × Nat)} {d u s v : Nat} (he : (u, s) ∈ g) (h : Wlk g d s v) : Wlk g (d + 1) u v := by
  induction d generalizing v with
  | zero => cases h; exact ⟨u, rfl, he⟩
  | succ d ih => obtain ⟨x, hx, hxv⟩ := h; exact ⟨x, ih hx, hxv⟩
theorem Wlk.first {g : List (Nat × Nat)} {d s v : Nat} (h : Wlk g (d + 1) s v) : ∃ u, (s, u) ∈ g ∧ Wlk g d u v := by
  induction d generalizing v with
  | zero => obtain ⟨x, hx, hxv⟩ := h; cases hx; exact ⟨v, hxv, rfl⟩
  | succ d ih =>
    obtain ⟨x, hx, hxv⟩ := h
    obtain ⟨u, h1, h2⟩ := ih hx
    exact ⟨u, h1, x, h2, hxv⟩
theorem Wlk.append {g : List (Nat × Nat)} {d e s u v : Nat} (h : Wlk g d s u) (k : Wlk g e u v) : Wlk g (d + e) s v := by
  induction e generalizing v with
  | zero => cases k; exact h
  | succ e ih => obtain ⟨x, hx, hxv⟩ := k; exact ⟨x, ih hx, hxv⟩
/-- The number of edges of a shortest path of at least one edge; 0 if there is none. -/
noncomputable def dstN (g : List (Nat × Nat)) (s v : Nat) : Nat := leastOf (fun k => 0 < k ∧ Wlk g k s v)
theorem dstN_zero {g : List (Nat × Nat)} {s v : Nat} (h : ∀ d, ¬ Wlk g (d + 1) s v) : dstN g s v = 0 := by
  unfold dstN leastOf
  rw [dif_neg]
  rintro ⟨k, h1, h2⟩
  obtain ⟨d, rfl⟩ : ∃ d, k = d + 1 := ⟨k - 1, by omega⟩
  exact h d h2
theorem dstN_spec {g : List (Nat × Nat)} {s v d : Nat} (h : Wlk g (d + 1) s v) : 0 < dstN g s v ∧ Wlk g (dstN g s v) s v ∧ ∀ e, Wlk g (e + 1) s v → dstN g s v ≤ e + 1 := by
  have hs := leastOf_spec (p := fun k => 0 < k ∧ Wlk g k s v) ⟨d + 1, by omega, h⟩
  exact ⟨hs.1.1, hs.1.2, fun e he => hs.2 (e + 1) ⟨by omega, he⟩⟩
theorem dstN_pos {g : List (Nat × Nat)} {s v : Nat} (h : 0 < dstN g s v) : Wlk g (dstN g s v) s v ∧ ∀ e, Wlk g (e + 1) s v → dstN g s v ≤ e + 1 := by
  by_cases hd : ∃ d, Wlk g (d + 1) s v
  · obtain ⟨d, hd⟩ := hd
    exact (dstN_spec hd).2
  · rw [dstN_zero (fun d h => hd ⟨d, h⟩)] at h
    omega
theorem dstN_eq {g : List (Nat × Nat)} {s v k : Nat} (h0 : 0 < k) (h1 : Wlk g k s v) (h2 : ∀ e, Wlk g (e + 1) s v → k ≤ e + 1) : dstN g s v = k := by
  obtain ⟨d, rfl⟩ : ∃ d, k = d + 1 := ⟨k - 1, by omega⟩
  obtain ⟨a, b, c⟩ := dstN_spec h1
  have h3 := c d h1
  obtain ⟨e, he⟩ : ∃ e, dstN g s v = e + 1 := ⟨dstN g s v - 1, by omega⟩
  rw [he] at b
  have h4 := h2 e b
  omega

/-- The search between two nodes of its queue. -/
structure BInv (N : Nat) (g : List (Nat × Nat)) (s : Nat) (q : List Nat) (f : Nat → Nat) : Prop where
  walk : ∀ v, 0 < f v → Wlk g (f v) s v
  done : ∀ v, 0 < f v → v ∉ q → ∀ y, (v, y) ∈ g → 0 < f y ∧ f y ≤ f v + 1
  start : (q = [s] ∧ ∀ v, f v = 0) ∨ ((∀ y, (s, y) ∈ g → f y = 1) ∧ ∀ x, x ∈ q → 0 < f x)
  near : ∀ x, x ∈ q → ∀ v, f v ≤ f x + 1
  sorted : q.Pairwise (fun a b => f a ≤ f b)
  lt : ∀ x, x ∈ q → x < N
/-- The search while the successors of node x are told. -/
structure LInv (N : Nat) (g : List (Nat × Nat)) (s x c : Nat) (q : List Nat) (f : Nat → Nat) (pre : List Nat) : Prop where
  walk : ∀ v, 0 < f v → Wlk g (f v) s v
  wx : Wlk g c s x
  done : ∀ v, 0 < f v → v ∉ q → v ≠ x → ∀ y, (v, y) ∈ g → 0 < f y ∧ f y ≤ f v + 1
  pre : ∀ y, y ∈ pre → 0 < f y ∧ f y ≤ c + 1
  self : f x = c ∨ (c = 0 ∧ x = s ∧ (0 < f x → x ∈ q))
  start : (c = 0 ∧ x = s) ∨ (∀ y, (s, y) ∈ g → f y = 1)
  near : ∀ v, f v ≤ c + 1
  qs : ∀ z, z ∈ q → 0 < f z ∧ c ≤ f z
  sorted : q.Pairwise (fun a b => f a ≤ f b)
  lt : ∀ x, x ∈ q → x < N
theorem BInv.first {N : Nat} (g : List (Nat × Nat)) {s : Nat} (hs : s < N) : BInv N g s [s] (fun _ => 0) where
  walk := fun v h => absurd h (by omega)
  done := fun v h => absurd h (by omega)
  start := .inl ⟨rfl, fun _ => rfl⟩
  near := fun _ _ _ => by omega
  sorted := by simp
  lt := fun x hx => by simp at hx; omega
theorem BInv.pop {N : Nat} {g : List (Nat × Nat)} {s x : Nat} {r : List Nat} {f : Nat → Nat} (h : BInv N g s (x :: r) f) : LInv N g s x (f x) r f [] where
  walk := h.walk
  wx := by
    by_cases h0 : 0 < f x
    · exact h.walk x h0
    · rcases h.start with ⟨e, _⟩ | ⟨_, hp⟩
      · have e1 : x = s := by injection e
        rw [show f x = 0 by omega, e1]
        rfl
      · exact absurd (hp x (by simp)) h0
  done := fun v hv hq hx => h.done v hv (by simp [hq, hx])
  pre := fun y hy => by simp at hy
  self := .inl rfl
  start := by
    rcases h.start with ⟨e, hz⟩ | ⟨hp, _⟩
    · left
      refine ⟨hz x, ?_⟩
      injection e
    · exact .inr hp
  near := h.near x (by simp)
  qs := fun z hz => by
    have hle := (List.pairwise_cons.1 h.sorted).1 z hz
    refine ⟨?_, hle⟩
    rcases h.start with ⟨e, _⟩ | ⟨_, hp⟩
    · injection e with _ e
      rw [e] at hz
      simp at hz
    · exact hp z (by simp [hz])
  sorted := (List.pairwise_cons.1 h.sorted).2
  lt := fun z hz => h.lt z (by simp [hz])
theorem LInv.skip {N : Nat} {g : List (Nat × Nat)} {s x c y : Nat} {q pre : List Nat} {f : Nat → Nat} (h : LInv N g s x c q f pre) (hy : 0 < f y) : LInv N g s x c q f (pre ++ [y]) := by
  refine ⟨h.walk, h.wx, h.done, fun z hz => ?_, h.self, h.start, h.near, h.qs, h.sorted, h.lt⟩
  rcases List.mem_append.1 hz with hz | hz
  · exact h.pre z hz
  · simp at hz
    subst hz
    exact ⟨hy, h.near z⟩
def setF (f : Nat → Nat) (y k : Nat) : Nat → Nat := fun j => if j = y then k else f j
theorem setF_same (f : Nat → Nat) (y k : Nat) : setF f y k y = k := by simp [setF]
theorem setF_ne {f : Nat → Nat} {y k j : Nat} (h : j ≠ y) : setF f y k j = f j := by simp [setF, h]
theorem LInv.push {N : Nat} {g : List (Nat × Nat)} {s x c y : Nat} {q pre : List Nat} {f : Nat → Nat} (h : LInv N g s x c q f pre) (he : (x, y) ∈ g) (hy : f y = 0) (hyN : y < N) : LInv N g s x c (q ++ [y]) (setF f y (c + 1)) (pre ++ [y]) := by
  have key : ∀ v, 0 < f v → setF f y (c + 1) v = f v := fun v hv => setF_ne (fun e => by subst e; omega)
  have hle : ∀ v, f v ≤ setF f y (c + 1) v := fun v => by
    by_cases e : v = y
    · subst e; omega
    · rw [setF_ne e]; exact Nat.le_refl _
  refine
    { walk := fun v hv => ?_, wx := h.wx, done := fun v hv hq hx z hz => ?_, pre := fun z hz => ?_, self := ?_, start := ?_, near := fun v => ?_, qs := fun z hz => ?_, sorted := ?_, lt := fun z hz => ?_ }
  · by_cases e : v = y
    · subst e; rw [setF_same]; exact ⟨x, h.wx, he⟩
    · rw [setF_ne e] at hv ⊢; exact h.walk v hv
  · have hvy : v ≠ y := fun e => hq (by simp [e])
    rw [setF_ne hvy] at hv ⊢
    have := h.done v hv (fun hm => hq (by simp [hm])) hx z hz
    rw [key z this.1]
    exact this
  · rcases List.mem_append.1 hz with hz | hz
    · have := h.pre z hz
      rw [key z this.1]
      exact this
    · simp at hz
      subst hz
      rw [setF_same]
      omega
  · by_cases e : x = y
    · right
      have hc : c = 0 := by
        rcases h.self with hs | hs
        · rw [e] at hs; omega
        · exact hs.1
      have hw := h.wx
      rw [hc] at hw
      exact ⟨hc, hw.symm, fun _ => by simp [e]⟩
    · rw [setF_ne e]
      rcases h.self with hs | ⟨h1, h2, h3⟩
      · exact .inl hs
      · exact .inr ⟨h1, h2, fun hp => by simp [h3 hp]⟩
  · rcases h.start with hs | hs
    · exact .inl hs
    · exact .inr (fun z hz => by
        have := hs z hz
        rw [key z (by omega)]
        exact this)
  · by_cases e : v = y
    · subst e; rw [setF_same]; exact Nat.le_refl _
    · rw [setF_ne e]; exact h.near v
  · rcases List.mem_append.1 hz with hz | hz
    · have := h.qs z hz
      rw [key z this.1]
      exact this
    · simp at hz
      subst hz
      rw [setF_same]
      omega
  · rw [List.pairwise_append]
    refine ⟨?_, by simp, fun a ha b hb => ?_⟩
    · refine List.Pairwise.imp_of_mem (fun {a b} ha hb hab => ?_) h.sorted
      rw [key a (h.qs a ha).1, key b (h.qs b hb).1]
      exact hab
    · simp at hb
      subst hb
      rw [setF_same, key a (h.qs a ha).1]
      exact h.near a
  · rcases List.mem_append.1 hz with hz | hz
    · exact h.lt z hz
    · simp at hz
      omega
theorem LInv.finish {N : Nat} {g : List (Nat × Nat)} {s x c : Nat} {q pre : List Nat} {f : Nat → Nat} (h : LInv N g s x c q f pre) (hp : ∀ y, (x, y) ∈ g → y ∈ pre) : BInv N g s q f where
  walk := h.walk
  done := fun v hv hq y hy => by
    by_cases e : v = x
    · subst e
      rcases h.self with hs | ⟨_, _, h3⟩
      · rw [hs]
        exact h.pre y (hp y hy)
      · exact absurd (h3 hv) hq
    · exact h.done v hv hq e y hy
  start := by
    right
    refine ⟨?_, fun z hz => (h.qs z hz).1⟩
    rcases h.start with ⟨rfl, rfl⟩ | hs
    · intro y hy
      have := h.pre y (hp y hy)
      omega
    · exact hs
  near := fun z hz v => by
    have h1 := h.near v
    have h2 := (h.qs z hz).2
    omega
  sorted := h.sorted
  lt := h.lt
theorem BInv.last {N : Nat} {g : List (Nat × Nat)} {s : Nat} {f : Nat → Nat} (h : BInv N g s [] f) (v : Nat) : f v = dstN g s v := by
  have hst : ∀ y, (s, y) ∈ g → f y = 1 := by
    rcases h.start with ⟨e, _⟩ | ⟨hs, _⟩
    · cases e
    · exact hs
  have key : ∀ d v, Wlk g (d + 1) s v → 0 < f v ∧ f v ≤ d + 1 := by
    intro d
    induction d with
    | zero =>
      intro v hv
      obtain ⟨u, hu, he⟩ := hv
      cases hu
      have := hst v he
      omega
    | succ d ih =>
      intro v hv
      obtain ⟨u, hu, he⟩ := hv
      have h1 := ih u hu
      have h2 := h.done u h1.1 (by simp) v he
      omega
  by_cases h0 : 0 < f v
  · exact (dstN_eq h0 (h.walk v h0) (fun e he => (key e v he).2)).symm
  · rw [dstN_zero (fun d hd => h0 (key d v hd).1)]
    omega

/-- How many nodes have not been found. -/
def zerosF (N : Nat) (f : Nat → Nat) : Nat := (List.range N).countP fun j => f j == 0
theorem zerosF_le (N : Nat) (f : Nat → Nat) : zerosF N f ≤ N := by
  unfold zerosF
  have := List.countP_le_length (p := fun j => f j == 0) (l := List.range N)
  simpa using this
theorem zerosF_set {N y k : Nat} {f : Nat → Nat} (hy : y < N) (h0 : f y = 0) (hk : 0 < k) : zerosF N (setF f y k) + 1 = zerosF N f := by
  unfold zerosF
  have hlt : ∀ M, M ≤ N → ((List.range M).countP fun j => setF f y k j == 0) + (if y < M then 1 else 0) = (List.range M).countP fun j => f j == 0 := by
    intro M
    induction M with
    | zero => intro _; simp
    | succ M ih =>
      intro hM
      have := ih (by omega)
      rw [List.range_succ, List.countP_append, List.countP_append, List.countP_singleton, List.countP_singleton]
      by_cases e : M = y
      · subst e
        rw [setF_same]
        rw [if_neg (by omega)] at this
        simp [h0, show k ≠ 0 by omega]
        omega
      · rw [setF_ne e]
        by_cases h2 : y < M
        · rw [if_pos h2] at this
          rw [if_pos (show y < M + 1 by omega)]
          omega
        · rw [if_neg h2] at this
          rw [if_neg (show ¬ y < M + 1 by omega)]
          omega
  have := hlt N (Nat.le_refl _)
  rw [if_pos hy] at this
  exact this

end Go.Proofs.Ytcggmonnajggcaa
