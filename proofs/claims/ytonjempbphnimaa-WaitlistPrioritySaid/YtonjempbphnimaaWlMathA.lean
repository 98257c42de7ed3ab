/-
  The mathematics of the statements of waiters: removals, grants, tasks, arrivals.
-/
import Derived.Test.YtonjempbphnimaaWlGrP
import Derived.Test.YtonjempbphnimaaWlIx
namespace Go.Proofs.Ytonjempbphnimaa

/-! ### Removals -/

theorem rmW_mem {ts : List Wl} {t : Int} {w : Wl} : w ∈ rmW ts t ↔ w ∈ ts ∧ w.1 ≠ t := by
  unfold rmW isTk
  simp
theorem rmW_none (ts : List Wl) (t : Int) : fndB (rmW ts t) t = false := by
  unfold fndB
  rw [List.any_eq_false]
  intro w hw
  have := (rmW_mem.1 hw).2
  simpa [isTk] using this
theorem rmW_twice (ts : List Wl) (t : Int) : rmW (rmW ts t) t = rmW ts t := by
  unfold rmW
  rw [List.filter_filter]
  simp
theorem rmW_comm (ts : List Wl) (s t : Int) : rmW (rmW ts s) t = rmW (rmW ts t) s := by
  unfold rmW
  rw [List.filter_filter, List.filter_filter]
  congr 1
  funext w
  exact Bool.and_comm _ _
theorem rmW_split (ts : List Wl) (t : Int) (i : Nat) : rmW ts t = rmW (ts.take i) t ++ rmW (ts.drop i) t := by
  unfold rmW
  rw [← List.filter_append, List.take_append_drop]
/-- A waiter that stays stands at the place behind those that stay of the ones before it. -/
theorem rmW_at {ts : List Wl} {t : Int} {i : Nat} (h : i < ts.length) (hn : (gw ts i).1 ≠ t) : (rmW (ts.take i) t).length < (rmW ts t).length ∧ gw (rmW ts t) (rmW (ts.take i) t).length = gw ts i ∧ (rmW (ts.take (i + 1)) t).length = (rmW (ts.take i) t).length + 1 := by
  have h1 : rmW (ts.drop i) t = gw ts i :: rmW (ts.drop (i + 1)) t := by
    rw [drop_consW ts i h]
    unfold rmW
    rw [List.filter_cons_of_pos (by simpa [isTk] using hn)]
  have h2 := rmW_split ts t i
  rw [h1] at h2
  refine ⟨?_, ?_, ?_⟩
  · rw [h2]; simp
  · rw [h2]
    simp [gw]
  · rw [take_snocW ts i h, rmW_snoc, if_neg (by simpa [isTk] using hn)]
    simp
theorem rmW_past {ts : List Wl} {t : Int} {i : Nat} (h : i < ts.length) (hn : (gw ts i).1 = t) : (rmW (ts.take (i + 1)) t).length = (rmW (ts.take i) t).length := by
  rw [take_snocW ts i h, rmW_snoc, if_pos (by simpa [isTk] using hn)]

/-! ### Grants -/

/-- The sum of the values. -/
def sumV (ts : List Wl) : Int := (ts.map fun w => w.2.2.1).sum
theorem sumV_snoc (ts : List Wl) (w : Wl) : sumV (ts ++ [w]) = sumV ts + w.2.2.1 := by
  unfold sumV
  simp
def cellsG (s : List Wl × List Wl × Bool × Int) : List Wl × List Wl × Bool × Int := s
/-- Whether the round's waiter can be granted, as the statement reckons. -/
def canR (skip : Bool) (u : Int) (ts : List Wl) (i : Nat) : Bool := decide (0 ≤ (gw ts i).2.2.1) && (decide ((gw ts i).2.2.1 ≤ (grS skip u (ts.take i)).2.2.2) && (skip || decide ((grS skip u (ts.take i)).2.1.length = 0)))
theorem grS_stop (skip : Bool) (u : Int) (ts : List Wl) : (grS skip u ts).2.2.1 = (!skip && decide ((grS skip u ts).2.1.length ≠ 0)) := by
  have key : ∀ n, n ≤ ts.length → (grS skip u (ts.take n)).2.2.1 = (!skip && decide ((grS skip u (ts.take n)).2.1.length ≠ 0)) := by
    intro n
    induction n with
    | zero => intro _; simp [grS]
    | succ n ih =>
      intro hn
      have ih := ih (by omega)
      rw [grS_succ skip u ts n (by omega)]
      by_cases hc : (grS skip u (ts.take n)).2.2.1 = false ∧ 0 ≤ (gw ts n).2.2.1 ∧ (gw ts n).2.2.1 ≤ (grS skip u (ts.take n)).2.2.2
      · rw [(stG_can hc).2]
        rw [hc.1] at ih
        exact ih
      · rw [(stG_cannot hc).2]
        simp
  have := key ts.length (Nat.le_refl _)
  rwa [List.take_length] at this
theorem canR_canG (skip : Bool) (u : Int) (ts : List Wl) (i : Nat) : canR skip u ts i = canG (grS skip u (ts.take i)) (gw ts i) := by
  unfold canR canG
  rw [grS_stop]
  cases skip
  · by_cases h1 : 0 ≤ (gw ts i).2.2.1 <;> by_cases h2 : (gw ts i).2.2.1 ≤ (grS false u (ts.take i)).2.2.2 <;> by_cases h3 : (grS false u (ts.take i)).2.1.length = 0 <;> simp [h1, h2, h3]
  · by_cases h1 : 0 ≤ (gw ts i).2.2.1 <;> by_cases h2 : (gw ts i).2.2.1 ≤ (grS true u (ts.take i)).2.2.2 <;> simp [h1, h2]
/-- What is granted of the first ones is a beginning of what is granted. -/
theorem grS_grow (skip : Bool) (u : Int) (ts : List Wl) (i : Nat) : ∃ x y, grG skip u ts = (grS skip u (ts.take i)).1 ++ x ∧ grO skip u ts = (grS skip u (ts.take i)).2.1 ++ y := by
  have key : ∀ d, ∃ x y, (grS skip u (ts.take (i + d))).1 = (grS skip u (ts.take i)).1 ++ x ∧ (grS skip u (ts.take (i + d))).2.1 = (grS skip u (ts.take i)).2.1 ++ y := by
    intro d
    induction d with
    | zero => exact ⟨[], [], by simp, by simp⟩
    | succ d ih =>
      obtain ⟨x, y, h1, h2⟩ := ih
      by_cases hl : i + d < ts.length
      · rw [show i + (d + 1) = i + d + 1 by omega, grS_succ skip u ts (i + d) hl]
        unfold stG
        split
        · exact ⟨x ++ [gw ts (i + d)], y, by simp [h1], by simp [h2]⟩
        · exact ⟨x, y ++ [gw ts (i + d)], by simp [h1], by simp [h2]⟩
      · refine ⟨x, y, ?_, ?_⟩
        · rw [List.take_of_length_le (by omega)] at h1 ⊢; exact h1
        · rw [List.take_of_length_le (by omega)] at h2 ⊢; exact h2
  obtain ⟨x, y, h1, h2⟩ := key ts.length
  rw [List.take_of_length_le (by omega)] at h1 h2
  exact ⟨x, y, h1, h2⟩
/-- A round of WaitlistGrants: the waiter is granted. -/
theorem gr_can {skip : Bool} {u : Int} {ts : List Wl} {i : Nat} (h : i < ts.length) (hc : canR skip u ts i = true) :
    (grS skip u (ts.take i)).1.length < (grG skip u ts).length ∧ gw (grG skip u ts) (grS skip u (ts.take i)).1.length = gw ts i ∧ (grS skip u (ts.take (i + 1))).1.length = (grS skip u (ts.take i)).1.length + 1 ∧
    (grS skip u (ts.take (i + 1))).2.1.length = (grS skip u (ts.take i)).2.1.length ∧ (grS skip u (ts.take (i + 1))).2.2.2 = (grS skip u (ts.take i)).2.2.2 - (gw ts i).2.2.1 := by
  rw [canR_canG] at hc
  have hc' : (grS skip u (ts.take i)).2.2.1 = false ∧ 0 ≤ (gw ts i).2.2.1 ∧ (gw ts i).2.2.1 ≤ (grS skip u (ts.take i)).2.2.2 := by simpa [canG] using hc
  have hs := grS_succ skip u ts i h
  rw [(stG_can hc').2] at hs
  obtain ⟨x, y, h1, h2⟩ := grS_grow skip u ts (i + 1)
  rw [hs] at h1 ⊢
  refine ⟨?_, ?_, by simp, rfl, rfl⟩
  · rw [h1]; simp
  · rw [h1]; simp [gw]
theorem gr_cannot {skip : Bool} {u : Int} {ts : List Wl} {i : Nat} (h : i < ts.length) (hc : canR skip u ts i = false) :
    (grS skip u (ts.take i)).2.1.length < (grO skip u ts).length ∧ gw (grO skip u ts) (grS skip u (ts.take i)).2.1.length = gw ts i ∧ (grS skip u (ts.take (i + 1))).2.1.length = (grS skip u (ts.take i)).2.1.length + 1 ∧
    (grS skip u (ts.take (i + 1))).1.length = (grS skip u (ts.take i)).1.length ∧ (grS skip u (ts.take (i + 1))).2.2.2 = (grS skip u (ts.take i)).2.2.2 := by
  rw [canR_canG] at hc
  have hc' : ¬ ((grS skip u (ts.take i)).2.2.1 = false ∧ 0 ≤ (gw ts i).2.2.1 ∧ (gw ts i).2.2.1 ≤ (grS skip u (ts.take i)).2.2.2) := by simpa [canG] using hc
  have hs := grS_succ skip u ts i h
  rw [(stG_cannot hc').2] at hs
  obtain ⟨x, y, h1, h2⟩ := grS_grow skip u ts (i + 1)
  rw [hs] at h2 ⊢
  refine ⟨?_, ?_, by simp, rfl, rfl⟩
  · rw [h2]; simp
  · rw [h2]; simp [gw]
theorem grS_sum (skip : Bool) (u : Int) (ts : List Wl) : (grS skip u ts).2.2.2 + sumV (grS skip u ts).1 = u := by
  have key : ∀ n, n ≤ ts.length → (grS skip u (ts.take n)).2.2.2 + sumV (grS skip u (ts.take n)).1 = u := by
    intro n
    induction n with
    | zero => intro _; simp [grS, sumV]
    | succ n ih =>
      intro hn
      have ih := ih (by omega)
      rw [grS_succ skip u ts n (by omega)]
      unfold stG
      split
      · dsimp only
        rw [sumV_snoc]
        omega
      · exact ih
  have := key ts.length (Nat.le_refl _)
  rwa [List.take_length] at this
/-- What is granted, and what is not, waits. -/
theorem grS_sub (skip : Bool) (u : Int) (ts : List Wl) : (∀ t ∈ (grS skip u ts).1, t ∈ ts) ∧ ∀ t ∈ (grS skip u ts).2.1, t ∈ ts := by
  have key : ∀ n, n ≤ ts.length → (∀ t ∈ (grS skip u (ts.take n)).1, t ∈ ts) ∧ ∀ t ∈ (grS skip u (ts.take n)).2.1, t ∈ ts := by
    intro n
    induction n with
    | zero => intro _; simp [grS]
    | succ n ih =>
      intro hn
      obtain ⟨h1, h2⟩ := ih (by omega)
      rw [grS_succ skip u ts n (by omega)]
      unfold stG
      split
      · refine ⟨fun t ht => ?_, h2⟩
        rcases List.mem_append.1 ht with h | h
        · exact h1 t h
        · rw [List.mem_singleton.1 h]; exact gw_mem (by omega)
      · refine ⟨h1, fun t ht => ?_⟩
        rcases List.mem_append.1 ht with h | h
        · exact h2 t h
        · rw [List.mem_singleton.1 h]; exact gw_mem (by omega)
  have := key ts.length (Nat.le_refl _)
  rwa [List.take_length] at this
theorem grG_sub (skip : Bool) (u : Int) (ts : List Wl) : ∀ t ∈ grG skip u ts, t ∈ ts := (grS_sub skip u ts).1
theorem grO_sub (skip : Bool) (u : Int) (ts : List Wl) : ∀ t ∈ grO skip u ts, t ∈ ts := (grS_sub skip u ts).2

end Go.Proofs.Ytonjempbphnimaa
