/-
  The mathematics of WaitlistFair; a beginning of a slice of waiters.
-/
import Derived.Test.YtonjempbphnimaaWlMathA
import Derived.Test.YtonjempbphnimaaWlSeq
namespace Go.Proofs.Ytonjempbphnimaa
open Go.RowKit

theorem kwPre {w : World} {ad : Option Addr} {cap p : Nat} {ts : List Wl} (h : KwC w (.slice ad ts.length cap) ts) (hp : p ≤ ts.length) : KwC w (.slice ad p cap) (ts.take p) := by
  obtain ⟨a, c, e, h1, h2, h3⟩ := h
  cases e
  refine ⟨ad, cap, ?_, ?_, h2, h3.take p⟩
  · rw [List.length_take, Nat.min_eq_left hp]
  · rw [List.length_take]; omega
theorem gr_plain (u : Int) (ts : List Wl) : grG false u ts ++ grO false u ts = ts ∧ (grO false u ts ≠ [] → ¬ (0 ≤ (gw (grO false u ts) 0).2.2.1 ∧ (gw (grO false u ts) 0).2.2.1 ≤ grN false u ts)) := by
  have key : ∀ n, n ≤ ts.length → (grS false u (ts.take n)).1 ++ (grS false u (ts.take n)).2.1 = ts.take n ∧ ((grS false u (ts.take n)).2.1 ≠ [] → ¬ (0 ≤ (gw (grS false u (ts.take n)).2.1 0).2.2.1 ∧ (gw (grS false u (ts.take n)).2.1 0).2.2.1 ≤ (grS false u (ts.take n)).2.2.2)) := by
    intro n
    induction n with
    | zero => intro _; simp [grS]
    | succ n ih =>
      intro hn
      obtain ⟨h1, h2⟩ := ih (by omega)
      have hst := grS_stop false u (ts.take n)
      rw [grS_succ false u ts n (by omega), take_snocW ts n (by omega)]
      obtain ⟨⟨g, o, s, l⟩, hs⟩ : ∃ s, grS false u (ts.take n) = s := ⟨_, rfl⟩
      rw [hs] at h1 h2 hst ⊢
      simp only [] at h1 h2 hst
      by_cases hc : s = false ∧ 0 ≤ (gw ts n).2.2.1 ∧ (gw ts n).2.2.1 ≤ l
      · rw [(stG_can (s := (g, o, s, l)) hc).2]
        have ho : o = [] := by
          rw [hc.1] at hst
          simpa using hst.symm
        subst ho
        simp only [List.append_nil] at h1
        refine ⟨by simp [h1], fun h => absurd rfl h⟩
      · rw [(stG_cannot (s := (g, o, s, l)) hc).2]
        refine ⟨by rw [← h1]; simp, fun _ => ?_⟩
        cases o with
        | nil =>
          have hs0 : s = false := by rw [hst]; rfl
          have hc : ¬ (0 ≤ (gw ts n).2.2.1 ∧ (gw ts n).2.2.1 ≤ l) := fun h => hc ⟨hs0, h⟩
          simpa [gw] using hc
        | cons x xs =>
          have := h2 (by simp)
          simpa [gw] using this
  have := key ts.length (Nat.le_refl _)
  rwa [List.take_length] at this
theorem gr_passed (u : Int) (ts : List Wl) : ((grO true u ts).any fun t => decide (0 ≤ t.2.2.1) && decide (t.2.2.1 ≤ grN true u ts)) = false := by
  have key : ∀ n, n ≤ ts.length → ∀ t ∈ (grS true u (ts.take n)).2.1, ¬ (0 ≤ t.2.2.1 ∧ t.2.2.1 ≤ (grS true u (ts.take n)).2.2.2) := by
    intro n
    induction n with
    | zero => intro _; simp [grS]
    | succ n ih =>
      intro hn t ht
      have ih := ih (by omega)
      have hst := grS_stop true u (ts.take n)
      rw [grS_succ true u ts n (by omega)] at ht ⊢
      by_cases hc : (grS true u (ts.take n)).2.2.1 = false ∧ 0 ≤ (gw ts n).2.2.1 ∧ (gw ts n).2.2.1 ≤ (grS true u (ts.take n)).2.2.2
      · rw [(stG_can hc).2] at ht ⊢
        have := ih t ht
        simp only []
        omega
      · rw [(stG_cannot hc).2] at ht ⊢
        rcases List.mem_append.1 ht with h | h
        · exact ih t h
        · obtain rfl := List.mem_singleton.1 h
          have hs0 : (grS true u (ts.take n)).2.2.1 = false := by rw [hst]; rfl
          exact fun h => hc ⟨hs0, h⟩
  have := key ts.length (Nat.le_refl _)
  rw [List.take_length] at this
  rw [List.any_eq_false]
  intro t ht
  have := this t ht
  change ¬ (0 ≤ t.2.2.1 ∧ t.2.2.1 ≤ grN true u ts) at this
  simpa using this
theorem gr_first (u : Int) (ts : List Wl) : ∃ x, grG true u ts = grG false u ts ++ x := by
  have key : ∀ n, n ≤ ts.length → ((grS false u (ts.take n)).2.1 = [] ∧ (grS true u (ts.take n)).1 = (grS false u (ts.take n)).1 ∧ (grS true u (ts.take n)).2.2.2 = (grS false u (ts.take n)).2.2.2) ∨ ((grS false u (ts.take n)).2.1 ≠ [] ∧ ∃ x, (grS true u (ts.take n)).1 = (grS false u (ts.take n)).1 ++ x) := by
    intro n
    induction n with
    | zero => intro _; simp [grS]
    | succ n ih =>
      intro hn
      have ih := ih (by omega)
      have hst := grS_stop true u (ts.take n)
      have hsf := grS_stop false u (ts.take n)
      rw [grS_succ true u ts n (by omega), grS_succ false u ts n (by omega)]
      have hs0 : (grS true u (ts.take n)).2.2.1 = false := by rw [hst]; rfl
      rcases ih with ⟨h1, h2, h3⟩ | ⟨h1, x, h2⟩
      · have hf0 : (grS false u (ts.take n)).2.2.1 = false := by rw [hsf, h1]; rfl
        by_cases hc : 0 ≤ (gw ts n).2.2.1 ∧ (gw ts n).2.2.1 ≤ (grS false u (ts.take n)).2.2.2
        · rw [(stG_can (s := grS false u (ts.take n)) ⟨hf0, hc⟩).2, (stG_can (s := grS true u (ts.take n)) ⟨hs0, by rw [h3]; exact hc⟩).2]
          left
          simp only []
          exact ⟨h1, by rw [h2], by rw [h3]⟩
        · rw [(stG_cannot (s := grS false u (ts.take n)) (fun h => hc h.2)).2, (stG_cannot (s := grS true u (ts.take n)) (fun h => hc (by rw [← h3]; exact h.2))).2]
          right
          exact ⟨by simp, [], by simp [h2]⟩
      · have hf1 : (grS false u (ts.take n)).2.2.1 = true := by
          rw [hsf]
          cases hh : (grS false u (ts.take n)).2.1 with
          | nil => exact absurd hh h1
          | cons a b => simp
        rw [(stG_cannot (s := grS false u (ts.take n)) (fun h => (by rw [hf1] at h; cases h.1))).2]
        right
        refine ⟨by simp, ?_⟩
        unfold stG
        split
        · exact ⟨x ++ [gw ts n], by simp [h2]⟩
        · exact ⟨x, by simp [h2]⟩
  have := key ts.length (Nat.le_refl _)
  rw [List.take_length] at this
  rcases this with ⟨_, h, _⟩ | ⟨_, h⟩
  · exact ⟨[], by rw [List.append_nil]; exact h⟩
  · exact h

end Go.Proofs.Ytonjempbphnimaa
