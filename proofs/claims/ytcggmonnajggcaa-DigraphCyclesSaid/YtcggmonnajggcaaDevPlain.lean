/-
  Sorted edges: what a graph that Check accepts has; the successors of a node. The plain mathematics of the program's firstEdge and successors.
-/
import Derived.Test.YtcggmonnajggcaaMarked
namespace Go.Proofs.Ytcggmonnajggcaa

def ltN (a b : Nat × Nat) : Prop := a.1 < b.1 ∨ (a.1 = b.1 ∧ a.2 < b.2)
def SrtN (g : List (Nat × Nat)) : Prop := g.Pairwise ltN
def ltI (a b : Int × Int) : Prop := a.1 < b.1 ∨ (a.1 = b.1 ∧ a.2 < b.2)
theorem chkL_srt {n : Int} {p : Option (Int × Int)} {es : List (Int × Int)} (h : chkL n p es = 0) : (∀ p0, p = some p0 → ∀ e ∈ es, ltI p0 e) ∧ es.Pairwise ltI := by
  induction es generalizing p with
  | nil => exact ⟨fun _ _ e he => by simp at he, List.Pairwise.nil⟩
  | cons e r ih =>
    unfold chkL at h
    by_cases h1 : badE n e
    · rw [if_pos h1] at h; cases h
    · rw [if_neg h1] at h
      by_cases h2 : lowO p e
      · rw [if_pos h2] at h; cases h
      · rw [if_neg h2] at h
        obtain ⟨h3, h4⟩ := ih h
        have h3 := h3 e rfl
        refine ⟨?_, List.pairwise_cons.2 ⟨h3, h4⟩⟩
        rintro p0 rfl x hx
        have hlt : ltI p0 e := by
          have h2 : ¬ lowE p0 e := h2
          unfold lowE at h2
          unfold ltI
          omega
        rcases List.mem_cons.1 hx with rfl | hx
        · exact hlt
        · have := h3 x hx
          unfold ltI at *
          omega
theorem chk_srt {n : Int} {es : List (Int × Int)} (h : chkE n es = 0) : SrtN (gN es) := by
  obtain ⟨N, rfl, _, _, hok⟩ := chk_ok h
  unfold chkE at h
  by_cases h1 : (N : Int) < 0 ∨ 200 < (N : Int)
  · rw [if_pos h1] at h; cases h
  · rw [if_neg h1] at h
    by_cases h2 : 2000 < es.length
    · rw [if_pos h2] at h; cases h
    · rw [if_neg h2] at h
      have h3 := (chkL_srt h).2
      unfold SrtN gN
      rw [List.pairwise_map]
      refine h3.imp_of_mem (fun {a b} ha hb hl => ?_)
      have ka := hok a ha
      have kb := hok b hb
      unfold ltI at hl
      unfold ltN
      simp only []
      omega
theorem SrtN.nodup {g : List (Nat × Nat)} (h : SrtN g) : g.Nodup := by
  refine List.Pairwise.imp (fun {a b} hl => ?_) h
  rintro rfl
  unfold ltN at hl
  omega

/-- i is the index of the first edge from node u, or the one at which it would stand. -/
def FirstOf (g : List (Nat × Nat)) (u i : Nat) : Prop := i ≤ g.length ∧ (∀ j e, j < i → g[j]? = some e → e.1 < u) ∧ (∀ j e, i ≤ j → g[j]? = some e → u ≤ e.1)
theorem SrtN.le {g : List (Nat × Nat)} (h : SrtN g) {i j : Nat} {a b : Nat × Nat} (hij : i ≤ j) (ha : g[i]? = some a) (hb : g[j]? = some b) : a.1 ≤ b.1 := by
  by_cases e : i = j
  · subst e
    rw [ha] at hb
    cases hb
    exact Nat.le_refl _
  · obtain ⟨h1, rfl⟩ := List.getElem?_eq_some_iff.1 ha
    obtain ⟨h2, rfl⟩ := List.getElem?_eq_some_iff.1 hb
    have := List.pairwise_iff_getElem.1 h i j h1 h2 (by omega)
    unfold ltN at this
    omega
/-- What a binary search has found so far. -/
def Between (g : List (Nat × Nat)) (u lo hi : Nat) : Prop := lo ≤ hi ∧ hi ≤ g.length ∧ (∀ j e, j < lo → g[j]? = some e → e.1 < u) ∧ (∀ j e, hi ≤ j → g[j]? = some e → u ≤ e.1)
theorem Between.start (g : List (Nat × Nat)) (u : Nat) : Between g u 0 g.length := ⟨Nat.zero_le _, Nat.le_refl _, fun j e h => absurd h (by omega), fun j e h he => by rw [List.getElem?_eq_none h] at he; cases he⟩
theorem Between.up {g : List (Nat × Nat)} {u lo hi h : Nat} {e : Nat × Nat} (hs : SrtN g) (hb : Between g u lo hi) (h2 : h < hi) (he : g[h]? = some e) (hlt : e.1 < u) : Between g u (h + 1) hi := by
  obtain ⟨a, b, c, d⟩ := hb
  refine ⟨h2, b, fun j x hj hx => ?_, d⟩
  have := hs.le (show j ≤ h by omega) hx he
  omega
theorem Between.down {g : List (Nat × Nat)} {u lo hi h : Nat} {e : Nat × Nat} (hs : SrtN g) (hb : Between g u lo hi) (h1 : lo ≤ h) (h2 : h < hi) (he : g[h]? = some e) (hle : u ≤ e.1) : Between g u lo h := by
  obtain ⟨a, b, c, d⟩ := hb
  refine ⟨h1, by omega, c, fun j x hj hx => ?_⟩
  have := hs.le hj he hx
  omega
theorem Between.done {g : List (Nat × Nat)} {u lo : Nat} (hb : Between g u lo lo) : FirstOf g u lo := ⟨hb.2.1, hb.2.2.1, hb.2.2.2⟩

/-- The successors of a node. -/
def succN (g : List (Nat × Nat)) (u : Nat) : List Nat := (g.filter fun e => e.1 == u).map (·.2)
theorem mem_succN {g : List (Nat × Nat)} {u v : Nat} : v ∈ succN g u ↔ (u, v) ∈ g := by
  unfold succN
  simp only [List.mem_map, List.mem_filter]
  constructor
  · rintro ⟨e, ⟨h1, h2⟩, rfl⟩
    have : e.1 = u := by simpa using h2
    subst this
    exact h1
  · intro h
    exact ⟨(u, v), ⟨h, by simp⟩, rfl⟩
theorem succN_length (g : List (Nat × Nat)) (u : Nat) : (succN g u).length ≤ g.length := by
  unfold succN
  rw [List.length_map]
  exact List.length_filter_le _ _
/-- The ends of the edges from f to k. -/
def endsN (g : List (Nat × Nat)) (f k : Nat) : List Nat := ((g.take k).drop f).map (·.2)
theorem endsN_start (g : List (Nat × Nat)) (f : Nat) : endsN g f f = [] := by
  unfold endsN
  rw [List.drop_of_length_le (by simp; omega)]
  rfl
theorem endsN_snoc {g : List (Nat × Nat)} {f k : Nat} {e : Nat × Nat} (hf : f ≤ k) (he : g[k]? = some e) : endsN g f (k + 1) = endsN g f k ++ [e.2] := by
  obtain ⟨hk, rfl⟩ := List.getElem?_eq_some_iff.1 he
  unfold endsN
  rw [List.take_succ_eq_append_getElem hk, List.drop_append_of_le_length (by simp; omega), List.map_append]
  rfl
theorem endsN_length {g : List (Nat × Nat)} {f k : Nat} (hf : f ≤ k) (hk : k ≤ g.length) : (endsN g f k).length = k - f := by
  unfold endsN
  simp
  omega
theorem filter_nil {g : List (Nat × Nat)} {u : Nat} (h : ∀ e ∈ g, e.1 ≠ u) : succN g u = [] := by
  unfold succN
  rw [List.filter_eq_nil_iff.2 (fun e he => by simpa using h e he)]
  rfl
theorem filter_all {g : List (Nat × Nat)} {u : Nat} (h : ∀ e ∈ g, e.1 = u) : succN g u = g.map (·.2) := by
  unfold succN
  rw [List.filter_eq_self.2 (fun e he => by simpa using h e he)]
theorem succN_append (a b : List (Nat × Nat)) (u : Nat) : succN (a ++ b) u = succN a u ++ succN b u := by
  unfold succN
  rw [List.filter_append, List.map_append]
/-- Up to edge k all edges from f on begin with u. -/
def RunN (g : List (Nat × Nat)) (u f k : Nat) : Prop := f ≤ k ∧ k ≤ g.length ∧ ∀ j e, f ≤ j → j < k → g[j]? = some e → e.1 = u
theorem RunN.start {g : List (Nat × Nat)} {u f : Nat} (h : FirstOf g u f) : RunN g u f f := ⟨Nat.le_refl _, h.1, fun j e h1 h2 => absurd h1 (by omega)⟩
theorem RunN.snoc {g : List (Nat × Nat)} {u f k : Nat} {e : Nat × Nat} (h : RunN g u f k) (he : g[k]? = some e) (hu : e.1 = u) : RunN g u f (k + 1) := by
  refine ⟨by have := h.1; omega, (List.getElem?_eq_some_iff.1 he).1, fun j x h1 h2 hx => ?_⟩
  by_cases e1 : j = k
  · subst e1
    rw [he] at hx
    cases hx
    exact hu
  · exact h.2.2 j x h1 (by omega) hx
theorem succ_split {g : List (Nat × Nat)} {u f k : Nat} (hf : FirstOf g u f) (hr : RunN g u f k) : succN g u = endsN g f k ++ succN (g.drop k) u := by
  obtain ⟨h1, h2, h3⟩ := hr
  have e : g = g.take f ++ ((g.take k).drop f ++ g.drop k) := by
    have a : g.take f = (g.take k).take f := by rw [List.take_take]; congr 1; omega
    rw [a, ← List.append_assoc, List.take_append_drop, List.take_append_drop]
  have e1 : succN (g.take f) u = [] := by
    refine filter_nil (fun x hx => ?_)
    obtain ⟨j, hj, rfl⟩ := List.getElem_of_mem hx
    simp only [List.length_take] at hj
    have := hf.2.1 j g[j] (by omega) (List.getElem?_eq_getElem (by omega))
    simp only [List.getElem_take]
    omega
  have e2 : succN ((g.take k).drop f) u = endsN g f k := by
    refine filter_all (fun x hx => ?_)
    obtain ⟨j, hj, rfl⟩ := List.getElem_of_mem hx
    simp only [List.length_drop, List.length_take] at hj
    simp only [List.getElem_drop, List.getElem_take]
    exact h3 (f + j) _ (by omega) (by omega) (List.getElem?_eq_getElem (by omega))
  conv => lhs; rw [e]
  rw [succN_append, succN_append, e1, e2, List.nil_append]
theorem succ_prefix {g : List (Nat × Nat)} {u f k : Nat} (hf : FirstOf g u f) (hr : RunN g u f k) : endsN g f k <+: succN g u := ⟨_, (succ_split hf hr).symm⟩
theorem succ_done {g : List (Nat × Nat)} {u f k : Nat} (hs : SrtN g) (hf : FirstOf g u f) (hr : RunN g u f k) (hd : ∀ e, g[k]? = some e → e.1 ≠ u) : succN g u = endsN g f k := by
  rw [succ_split hf hr, filter_nil (fun x hx => ?_), List.append_nil]
  obtain ⟨j, hj, rfl⟩ := List.getElem_of_mem hx
  simp only [List.length_drop] at hj
  simp only [List.getElem_drop]
  have h1 : g[k]? = some g[k] := List.getElem?_eq_getElem (by omega)
  have h2 := hd _ h1
  have h3 := hf.2.2 k _ hr.1 h1
  have h4 := hs.le (show k ≤ k + j by omega) h1 (List.getElem?_eq_getElem (show k + j < g.length by omega))
  omega
theorem succN_srt {g : List (Nat × Nat)} (hs : SrtN g) (u : Nat) : (succN g u).Pairwise (· < ·) := by
  unfold succN
  rw [List.pairwise_map, List.pairwise_filter]
  refine List.Pairwise.imp (fun {a b} hl ha hb => ?_) hs
  have ha : a.1 = u := by simpa using ha
  have hb : b.1 = u := by simpa using hb
  unfold ltN at hl
  omega

end Go.Proofs.Ytcggmonnajggcaa
