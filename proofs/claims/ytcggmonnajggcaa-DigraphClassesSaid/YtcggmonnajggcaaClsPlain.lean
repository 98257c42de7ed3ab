/-
  The plain mathematics of the classes as a list of lists (no program in it): each node is in just one of them, and two nodes are in the same one just when they reach each other.
-/
import Derived.Test.YtcggmonnajggcaaFound
import Derived.Test.YtcggmonnajggcaaDevComp
namespace Go.Proofs.Ytcggmonnajggcaa

theorem nodup_inj {l : List Nat} (h : l.Nodup) {i j : Nat} (hi : i < l.length) (hj : j < l.length) (e : l[i] = l[j]) : i = j := by
  rcases Nat.lt_trichotomy i j with h1 | h1 | h1
  · exact absurd e (List.pairwise_iff_getElem.1 h i j hi hj h1)
  · exact h1
  · exact absurd e.symm (List.pairwise_iff_getElem.1 h j i hj hi h1)

/-- A list of lists that has each node below N just once. -/
structure Parts (N : Nat) (LL : List (List Nat)) (same : Nat → Nat → Prop) : Prop where
  lt : ∀ (j : Nat) l, LL[j]? = some l → ∀ x, x ∈ l → x < N
  nodup : ∀ (j : Nat) l, LL[j]? = some l → l.Nodup
  one : ∀ (i j : Nat) a b, LL[i]? = some a → LL[j]? = some b → ∀ x, x ∈ a → x ∈ b → i = j
  all : ∀ x, x < N → ∃ (j : Nat) (l : List Nat), LL[j]? = some l ∧ x ∈ l
  iff_ : ∀ (i j : Nat) a b x y, LL[i]? = some a → LL[j]? = some b → x ∈ a → y ∈ b → (same x y ↔ i = j)

noncomputable def leads (N : Nat) (g : List (Nat × Nat)) : List Nat := (List.range N).filter fun j => !doneB g j j
theorem comps_map (N : Nat) (g : List (Nat × Nat)) : compsK N g N = (leads N g).map fun j => clsK g j N := by
  unfold compsK leads
  generalize List.range N = l
  induction l with
  | nil => rfl
  | cons j l ih =>
    rw [List.flatMap_cons, ih]
    by_cases h : doneB g j j = true
    · rw [if_pos h, List.filter_cons_of_neg (by simp [h])]
      rfl
    · rw [if_neg h, List.filter_cons_of_pos (by simpa using h)]
      rfl
theorem mem_clsK {g : List (Nat × Nat)} {i q x : Nat} : x ∈ clsK g i q ↔ x < q ∧ i ≤ x ∧ mutB g i x = true := by
  unfold clsK
  rw [List.mem_filter, List.mem_range]
  simp
theorem comps_parts (N : Nat) (g : List (Nat × Nat)) : Parts N (compsK N g N) (fun x y => mutB g x y = true) := by
  rw [comps_map]
  have at_ : ∀ (j : Nat) l, ((leads N g).map fun j => clsK g j N)[j]? = some l → ∃ k, (leads N g)[j]? = some k ∧ l = clsK g k N ∧ k < N ∧ doneB g k k = false := by
    intro j l h
    rw [List.getElem?_map] at h
    cases e : (leads N g)[j]? with
    | none => rw [e] at h; cases h
    | some k =>
      rw [e] at h
      have hm := List.mem_of_getElem? e
      unfold leads at hm
      rw [List.mem_filter, List.mem_range] at hm
      refine ⟨k, rfl, ?_, hm.1, by simpa using hm.2⟩
      simp at h
      exact h.symm
  have inj : ∀ (i j k : Nat), (leads N g)[i]? = some k → (leads N g)[j]? = some k → i = j := by
    intro i j k hi hj
    have hn : (leads N g).Nodup := List.Pairwise.filter _ List.nodup_range
    obtain ⟨h1, h2⟩ := List.getElem?_eq_some_iff.1 hi
    obtain ⟨h3, h4⟩ := List.getElem?_eq_some_iff.1 hj
    exact nodup_inj hn h1 h3 (h2.trans h4.symm)
  have lead : ∀ a b, doneB g a a = false → doneB g b b = false → mutB g a b = true → a = b := by
    intro a b ha hb hm
    rcases Nat.lt_trichotomy a b with h | h | h
    · rw [doneB_of h hm] at hb; cases hb
    · exact h
    · rw [doneB_of h (mutB_symm hm)] at ha; cases ha
  constructor
  · intro j l h x hx
    obtain ⟨k, _, rfl, _, _⟩ := at_ j l h
    exact (mem_clsK.1 hx).1
  · intro j l h
    obtain ⟨k, _, rfl, _, _⟩ := at_ j l h
    exact List.Pairwise.filter _ List.nodup_range
  · intro i j a b hi hj x hx hy
    obtain ⟨k, hk, rfl, _, hd⟩ := at_ i a hi
    obtain ⟨m, hm, rfl, _, hd2⟩ := at_ j b hj
    have := lead k m hd hd2 (mutB_trans (mem_clsK.1 hx).2.2 (mutB_symm (mem_clsK.1 hy).2.2))
    subst this
    exact inj i j k hk hm
  · intro x hx
    obtain ⟨h, r, e, hh, hd⟩ := class_head (g := g) (k := x) hx
    have hmem : h ∈ selN N (mutB g x) := by rw [e]; exact List.mem_cons_self ..
    obtain ⟨_, hmx⟩ := mem_selN.1 hmem
    have hdh : doneB g h h = false := by
      obtain ⟨h2, r2, e2, hh2, hd2⟩ := class_head (g := g) (k := h) hh
      have hsame : selN N (mutB g h) = selN N (mutB g x) := by
        unfold selN
        refine List.filter_congr (fun y _ => ?_)
        rw [Bool.eq_iff_iff]
        exact ⟨fun k => mutB_trans hmx k, fun k => mutB_trans (mutB_symm hmx) k⟩
      rw [hsame, e] at e2
      injection e2 with e3 _
      rw [← e3] at hd2
      rw [beq_self_eq_true] at hd2
      simpa using hd2.symm
    have hm : h ∈ leads N g := by
      unfold leads
      rw [List.mem_filter, List.mem_range]
      exact ⟨hh, by simp [hdh]⟩
    obtain ⟨j, hj, hj2⟩ := List.getElem_of_mem hm
    refine ⟨j, clsK g h N, by rw [List.getElem?_map, List.getElem?_eq_getElem hj, hj2]; rfl, ?_⟩
    rw [← class_cls hdh]
    exact mem_selN.2 ⟨hx, mutB_symm hmx⟩
  · intro i j a b x y hi hj hx hy
    obtain ⟨k, hk, rfl, _, hd⟩ := at_ i a hi
    obtain ⟨m, hm, rfl, _, hd2⟩ := at_ j b hj
    have h1 := (mem_clsK.1 hx).2.2
    have h2 := (mem_clsK.1 hy).2.2
    constructor
    · intro h
      have := lead k m hd hd2 (mutB_trans (mutB_trans h1 h) (mutB_symm h2))
      subst this
      exact inj i j k hk hm
    · intro h
      subst h
      rw [hk] at hm
      cases hm
      exact mutB_trans (mutB_symm h1) h2

/-- What is known of the numbers of the classes behind i of the lists and p nodes of the next one. -/
structure ClsSt (N : Nat) (LL : List (List Nat)) (i p : Nat) (cur : List Nat) (f : Nat → Int) : Prop where
  old : ∀ (j : Nat) l x, j < i → LL[j]? = some l → x ∈ l → f x = (j : Int) + 1
  now : ∀ x, x ∈ cur.take p → f x = (i : Int) + 1
  rest : ∀ x, f x ≠ 0 → (∃ (j : Nat) (l : List Nat), j < i ∧ LL[j]? = some l ∧ x ∈ l) ∨ x ∈ cur.take p
theorem ClsSt.start (N : Nat) (LL : List (List Nat)) : ClsSt N LL 0 0 [] (fun _ => 0) where
  old := fun j l x h => by omega
  now := fun x h => by simp at h
  rest := fun x h => absurd rfl h
theorem ClsSt.free {N : Nat} {LL : List (List Nat)} {same : Nat → Nat → Prop} {i p x : Nat} {cur : List Nat} {f : Nat → Int} (h : ClsSt N LL i p cur f) (hP : Parts N LL same) (hc : LL[i]? = some cur) (hx : cur[p]? = some x) : f x = 0 := by
  refine Classical.byContradiction fun hne => ?_
  rcases h.rest x hne with ⟨j, l, hj, hl, hm⟩ | hm
  · have := hP.one j i l cur hl hc x hm (List.mem_of_getElem? hx)
    omega
  · obtain ⟨q, hq, e⟩ := List.getElem_of_mem hm
    rw [List.length_take] at hq
    rw [List.getElem_take] at e
    obtain ⟨h1, h2⟩ := List.getElem?_eq_some_iff.1 hx
    have := nodup_inj (hP.nodup i cur hc) (by omega) h1 (e.trans h2.symm)
    omega
theorem ClsSt.put {N : Nat} {LL : List (List Nat)} {same : Nat → Nat → Prop} {i p x : Nat} {cur : List Nat} {f : Nat → Int} (h : ClsSt N LL i p cur f) (hP : Parts N LL same) (hc : LL[i]? = some cur) (hx : cur[p]? = some x) : ClsSt N LL i (p + 1) cur (fun y => if y = x then (i : Int) + 1 else f y) where
  old := fun j l y hj hl hy => by
    have hne : y ≠ x := fun e => by
      subst e
      have := hP.one j i l cur hl hc y hy (List.mem_of_getElem? hx)
      omega
    rw [if_neg hne]
    exact h.old j l y hj hl hy
  now := fun y hy => by
    split
    · rfl
    · rename_i hne
      rw [List.take_add_one, hx] at hy
      rcases List.mem_append.1 hy with hy | hy
      · exact h.now y hy
      · simp at hy
        exact absurd hy hne
  rest := fun y hy => by
    rw [List.take_add_one, hx]
    by_cases e : y = x
    · subst e
      right
      simp
    · rw [if_neg e] at hy
      rcases h.rest y hy with h1 | h1
      · exact .inl h1
      · exact .inr (List.mem_append_left _ h1)
theorem ClsSt.next {N : Nat} {LL : List (List Nat)} {i : Nat} {cur : List Nat} {f : Nat → Int} (h : ClsSt N LL i cur.length cur f) (hc : LL[i]? = some cur) (cur' : List Nat) : ClsSt N LL (i + 1) 0 cur' f where
  old := fun j l x hj hl hx => by
    by_cases e : j = i
    · subst e
      rw [hc] at hl
      cases hl
      exact h.now x (by rw [List.take_length]; exact hx)
    · exact h.old j l x (by omega) hl hx
  now := fun x hx => by simp at hx
  rest := fun x hx => by
    rcases h.rest x hx with ⟨j, l, hj, h1⟩ | h1
    · exact .inl ⟨j, l, by omega, h1⟩
    · rw [List.take_length] at h1
      exact .inl ⟨i, cur, by omega, hc, h1⟩
theorem ClsSt.same {N : Nat} {LL : List (List Nat)} {same : Nat → Nat → Prop} {cur : List Nat} {f : Nat → Int} (h : ClsSt N LL LL.length 0 cur f) (hP : Parts N LL same) {x y : Nat} (hx : x < N) (hy : y < N) : same x y ↔ f x = f y := by
  obtain ⟨i, a, hi, hxa⟩ := hP.all x hx
  obtain ⟨j, b, hj, hyb⟩ := hP.all y hy
  rw [h.old i a x (List.getElem?_eq_some_iff.1 hi).1 hi hxa, h.old j b y (List.getElem?_eq_some_iff.1 hj).1 hj hyb, hP.iff_ i j a b x y hi hj hxa hyb]
  omega
theorem Parts.count {N : Nat} {LL : List (List Nat)} {same : Nat → Nat → Prop} (h : Parts N LL same) : LL.flatten.length = N := by
  have hn : LL.flatten.Nodup := by
    unfold List.Nodup
    rw [List.pairwise_flatten]
    refine ⟨fun l hl => ?_, ?_⟩
    · obtain ⟨i, hi, e⟩ := List.getElem_of_mem hl
      exact h.nodup i l (by rw [List.getElem?_eq_getElem hi, e])
    · rw [List.pairwise_iff_getElem]
      intro i j hi hj hij x hx y hy e
      subst e
      have := h.one i j _ _ (List.getElem?_eq_getElem hi) (List.getElem?_eq_getElem hj) x hx hy
      omega
  have h1 := nodup_sub LL.flatten (List.range N) hn (fun x hx => by
    obtain ⟨l, hl, hxl⟩ := List.mem_flatten.1 hx
    obtain ⟨i, hi, e⟩ := List.getElem_of_mem hl
    rw [List.mem_range]
    exact h.lt i l (by rw [List.getElem?_eq_getElem hi, e]) x hxl)
  have h2 := nodup_sub (List.range N) LL.flatten List.nodup_range (fun x hx => by
    rw [List.mem_range] at hx
    obtain ⟨j, l, hj, hxl⟩ := h.all x hx
    exact List.mem_flatten.2 ⟨l, List.mem_of_getElem? hj, hxl⟩)
  rw [List.length_range] at h1 h2
  omega

end Go.Proofs.Ytcggmonnajggcaa
