/-
  The plain mathematics of a depth-first search by a closure that calls itself (no program in it): what it has marked when it comes back.
-/
import Derived.Test.YtcggmonnajggcaaGraphPlain
import Derived.Test.YtcggmonnajggcaaClosPlain
namespace Go.Proofs.Ytcggmonnajggcaa

theorem Rch1.of_edge {g : List (Nat × Nat)} {u v : Nat} (h : (u, v) ∈ g) : Rch1 g u v := ⟨(u, v), h, rfl, .refl⟩
theorem Rch1.rch {g : List (Nat × Nat)} {u v : Nat} (h : Rch1 g u v) : Rch g u v := by
  obtain ⟨e, he, rfl, hr⟩ := h
  exact (Rch.one (u := e.1) (v := e.2) he).trans hr
theorem Rch1.step {g : List (Nat × Nat)} {u v x : Nat} (h : Rch1 g u v) (he : (v, x) ∈ g) : Rch1 g u x := by
  obtain ⟨e, h1, h2, h3⟩ := h
  exact ⟨e, h1, h2, .step h3 he⟩
theorem Rch1.cons {g : List (Nat × Nat)} {u v x : Nat} (he : (u, v) ∈ g) (h : Rch1 g v x) : Rch1 g u x := ⟨(u, v), he, rfl, h.rch⟩
theorem Rch.cases1 {g : List (Nat × Nat)} {u v : Nat} (h : Rch g u v) : u = v ∨ Rch1 g u v := by
  induction h with
  | refl => exact .inl rfl
  | step _ he ih =>
    rcases ih with rfl | ih
    · exact .inr (.of_edge he)
    · exact .inr (ih.step he)

/-- What a visit may add: it keeps all marks, adds nodes that can be reached, and with each all its successors. -/
def Grow (g : List (Nat × Nat)) (u : Nat) (m m' : List Bool) : Prop :=
  m'.length = m.length ∧ (∀ v : Nat, m[v]? = some true → m'[v]? = some true) ∧ (∀ v : Nat, m'[v]? = some true → m[v]? = some true ∨ Rch1 g u v) ∧ (∀ x y : Nat, m'[x]? = some true → m[x]? = some false → (x, y) ∈ g → m'[y]? = some true)
def VisLoop (g : List (Nat × Nat)) (u : Nat) (m m' : List Bool) (pre : List Nat) : Prop := Grow g u m m' ∧ ∀ y : Nat, y ∈ pre → m'[y]? = some true
def Vis (g : List (Nat × Nat)) (u : Nat) (m m' : List Bool) : Prop := Grow g u m m' ∧ ∀ y : Nat, (u, y) ∈ g → m'[y]? = some true

theorem VisLoop.start (g : List (Nat × Nat)) (u : Nat) (m : List Bool) : VisLoop g u m m [] :=
  ⟨⟨rfl, fun _ h => h, fun _ h => .inl h, fun x y h1 h2 => by rw [h1] at h2; cases h2⟩, fun y h => by simp at h⟩
theorem VisLoop.skip {g : List (Nat × Nat)} {u : Nat} {m m' : List Bool} {pre : List Nat} {y : Nat} (h : VisLoop g u m m' pre) (hy : m'[y]? = some true) : VisLoop g u m m' (pre ++ [y]) := by
  refine ⟨h.1, fun x hx => ?_⟩
  rcases List.mem_append.1 hx with hx | hx
  · exact h.2 x hx
  · simp at hx
    subst hx
    exact hy
theorem VisLoop.visit {g : List (Nat × Nat)} {u : Nat} {m m' m2 : List Bool} {pre : List Nat} {y : Nat} (h : VisLoop g u m m' pre) (he : (u, y) ∈ g) (hy : m'[y]? = some false) (hv : Vis g y (m'.set y true) m2) : VisLoop g u m m2 (pre ++ [y]) := by
  obtain ⟨⟨h1, h2, h3, h4⟩, h5⟩ := h
  obtain ⟨⟨v1, v2, v3, v4⟩, v5⟩ := hv
  have hyl : y < m'.length := (List.getElem?_eq_some_iff.1 hy).1
  have hset : ∀ x : Nat, m'[x]? = some true → (m'.set y true)[x]? = some true := by
    intro x hx
    by_cases e : y = x
    · subst e; rw [hy] at hx; cases hx
    · rw [List.getElem?_set_ne e]; exact hx
  have hyy : (m'.set y true)[y]? = some true := by rw [List.getElem?_set_self hyl]
  refine ⟨⟨by rw [v1, List.length_set, h1], fun v hm => v2 v (hset v (h2 v hm)), fun v hm => ?_, fun x z hx hmx hxz => ?_⟩, fun x hx => ?_⟩
  · rcases v3 v hm with hs | hr
    · by_cases e : y = v
      · subst e; exact .inr (.of_edge he)
      · rw [List.getElem?_set_ne e] at hs; exact h3 v hs
    · exact .inr (.cons he hr)
  · by_cases e : x = y
    · subst e; exact v5 z hxz
    · have hxl : x < m'.length := by rw [h1]; exact (List.getElem?_eq_some_iff.1 hmx).1
      cases hmx' : m'[x]? with
      | none => rw [List.getElem?_eq_none_iff] at hmx'; omega
      | some b =>
        cases b
        · exact v4 x z hx (by rw [List.getElem?_set_ne (Ne.symm e)]; exact hmx') hxz
        · exact v2 z (hset z (h4 x z hmx' hmx hxz))
  · rcases List.mem_append.1 hx with hx | hx
    · exact v2 x (hset x (h5 x hx))
    · simp at hx
      subst hx
      exact v2 x hyy
theorem VisLoop.done {g : List (Nat × Nat)} {u : Nat} {m m' : List Bool} {pre : List Nat} (h : VisLoop g u m m' pre) (hp : ∀ y, (u, y) ∈ g → y ∈ pre) : Vis g u m m' := ⟨h.1, fun y hy => h.2 y (hp y hy)⟩

theorem falses_mono : ∀ (m m' : List Bool), m'.length = m.length → (∀ v : Nat, m[v]? = some true → m'[v]? = some true) → falses m' ≤ falses m
  | [], [], _, _ => Nat.le_refl _
  | [], _ :: _, h, _ => by simp at h
  | _ :: _, [], h, _ => by simp at h
  | a :: m, b :: m', h, k => by
    have ih := falses_mono m m' (by simpa using h) (fun v hv => by simpa using k (v + 1) (by simpa using hv))
    have h0 := k 0
    unfold falses at *
    simp only [List.countP_cons]
    cases a <;> cases b <;> simp at h0 ⊢ <;> omega

open Classical in
/-- To which nodes there is a path of at least one edge. -/
noncomputable def aheadB (N : Nat) (g : List (Nat × Nat)) (s : Nat) : List Bool := (List.range N).map (clB g s)
theorem aheadB_length (N : Nat) (g : List (Nat × Nat)) (s : Nat) : (aheadB N g s).length = N := by simp [aheadB]
theorem aheadB_get {N : Nat} {g : List (Nat × Nat)} {s v : Nat} (h : v < N) : (aheadB N g s)[v]? = some (clB g s v) := by simp [aheadB, h]
theorem Vis.eq {N : Nat} {g : List (Nat × Nat)} {s : Nat} {m : List Bool} (h : Vis g s (List.replicate N false) m) (hg : ∀ e ∈ g, e.1 < N ∧ e.2 < N) : m = aheadB N g s := by
  obtain ⟨⟨h1, h2, h3, h4⟩, h5⟩ := h
  rw [List.length_replicate] at h1
  have hfree : ∀ v : Nat, (List.replicate N false)[v]? ≠ some true := by
    intro v hv
    rw [List.getElem?_replicate] at hv
    split at hv <;> cases hv
  have key : ∀ v : Nat, Rch1 g s v → m[v]? = some true := by
    rintro v ⟨e, he, rfl, hr⟩
    induction hr with
    | refl => exact h5 _ he
    | step hp hxy ih =>
      rename_i x y
      refine h4 x y ih ?_ hxy
      rw [List.getElem?_replicate, if_pos (hg _ hxy).1]
  apply List.ext_getElem?
  intro v
  by_cases hv : v < N
  · rw [aheadB_get hv]
    have hl : v < m.length := by omega
    rw [List.getElem?_eq_getElem hl]
    congr 1
    rw [Bool.eq_iff_iff, clB_iff]
    constructor
    · intro hm
      rcases h3 v (by rw [List.getElem?_eq_getElem hl, hm]) with h | h
      · exact absurd h (hfree v)
      · exact h
    · intro hr
      have := key v hr
      rw [List.getElem?_eq_getElem hl] at this
      exact Option.some.inj this
  · rw [List.getElem?_eq_none (by omega), List.getElem?_eq_none (by rw [aheadB_length]; omega)]

end Go.Proofs.Ytcggmonnajggcaa
