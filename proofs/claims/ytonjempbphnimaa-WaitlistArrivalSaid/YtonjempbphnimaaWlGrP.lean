/-
  The plain mathematics of granting.
-/
import Derived.Test.YtonjempbphnimaaWlPlain
namespace Go.Proofs.Ytonjempbphnimaa

/-- Whether a waiter is granted. -/
def canG (s : List Wl × List Wl × Bool × Int) (t : Wl) : Bool := decide (s.2.2.1 = false ∧ 0 ≤ t.2.2.1 ∧ t.2.2.1 ≤ s.2.2.2)
theorem stG_can {skip : Bool} {s : List Wl × List Wl × Bool × Int} {t : Wl} (h : s.2.2.1 = false ∧ 0 ≤ t.2.2.1 ∧ t.2.2.1 ≤ s.2.2.2) : canG s t = true ∧ stG skip s t = (s.1 ++ [t], s.2.1, false, s.2.2.2 - t.2.2.1) := by
  unfold canG stG
  rw [if_pos h]
  exact ⟨decide_eq_true h, rfl⟩
theorem stG_cannot {skip : Bool} {s : List Wl × List Wl × Bool × Int} {t : Wl} (h : ¬ (s.2.2.1 = false ∧ 0 ≤ t.2.2.1 ∧ t.2.2.1 ≤ s.2.2.2)) : canG s t = false ∧ stG skip s t = (s.1, s.2.1 ++ [t], !skip, s.2.2.2) := by
  unfold canG stG
  rw [if_neg h]
  exact ⟨decide_eq_false h, rfl⟩
theorem grS_succ (skip : Bool) (u : Int) (ts : List Wl) (k : Nat) (h : k < ts.length) : grS skip u (ts.take (k + 1)) = stG skip (grS skip u (ts.take k)) (gw ts k) := by rw [take_snocW ts k h, grS_snoc]
theorem grS_left (skip : Bool) (u : Int) (ts : List Wl) : (u < 0 → (grS skip u ts).2.2.2 = u) ∧ (0 ≤ u → 0 ≤ (grS skip u ts).2.2.2 ∧ (grS skip u ts).2.2.2 ≤ u) := by
  have key : ∀ k, k ≤ ts.length → (u < 0 → (grS skip u (ts.take k)).2.2.2 = u) ∧ (0 ≤ u → 0 ≤ (grS skip u (ts.take k)).2.2.2 ∧ (grS skip u (ts.take k)).2.2.2 ≤ u) := by
    intro k
    induction k with
    | zero => intro _; simp [grS]
    | succ k ih =>
      intro hk
      obtain ⟨h1, h2⟩ := ih (by omega)
      rw [grS_succ skip u ts k (by omega)]
      by_cases hc : (grS skip u (ts.take k)).2.2.1 = false ∧ 0 ≤ (gw ts k).2.2.1 ∧ (gw ts k).2.2.1 ≤ (grS skip u (ts.take k)).2.2.2
      · rw [(stG_can hc).2]
        dsimp only
        exact ⟨fun h => (by have := h1 h; omega), fun h => (by have := h2 h; omega)⟩
      · rw [(stG_cannot hc).2]
        exact ⟨h1, h2⟩
  have := key ts.length (Nat.le_refl _)
  rwa [List.take_length] at this

theorem grS_len1 (skip : Bool) (u : Int) (ts : List Wl) : (grS skip u ts).1.length ≤ ts.length := by
  have key : ∀ k, k ≤ ts.length → (grS skip u (ts.take k)).1.length ≤ k ∧ (grS skip u (ts.take k)).2.1.length ≤ k := by
    intro k
    induction k with
    | zero => intro _; simp [grS]
    | succ k ih =>
      intro hk
      obtain ⟨h1, h2⟩ := ih (by omega)
      rw [grS_succ skip u ts k (by omega)]
      unfold stG
      split
      · simp; omega
      · simp; omega
  have := (key ts.length (Nat.le_refl _)).1
  rwa [List.take_length] at this
theorem grS_len2 (skip : Bool) (u : Int) (ts : List Wl) : (grS skip u ts).2.1.length ≤ ts.length := by
  have key : ∀ k, k ≤ ts.length → (grS skip u (ts.take k)).2.1.length ≤ k := by
    intro k
    induction k with
    | zero => intro _; simp [grS]
    | succ k ih =>
      intro hk
      have h2 := ih (by omega)
      rw [grS_succ skip u ts k (by omega)]
      unfold stG
      split
      · simp; omega
      · simp; omega
  have := key ts.length (Nat.le_refl _)
  rwa [List.take_length] at this

end Go.Proofs.Ytonjempbphnimaa
