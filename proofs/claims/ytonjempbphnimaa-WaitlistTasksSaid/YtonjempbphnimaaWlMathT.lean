/-
  The mathematics of WaitlistTasks: where the tasks wait first.
-/
import Derived.Test.YtonjempbphnimaaWlMathA
import Derived.Test.YtonjempbphnimaaWlPred
namespace Go.Proofs.Ytonjempbphnimaa

/-- The places of the first waiters of the tasks, in order. -/
theorem tsk_places (ts : List Wl) : ∃ ps : List Nat, ps.length = (tskL ts).length ∧ ∀ i, i < (tskL ts).length → ps.getD i 0 < ts.length ∧ (gw ts (ps.getD i 0)).1 = gz (tskL ts) i ∧ (∀ j, j < ps.getD i 0 → (gw ts j).1 ≠ gz (tskL ts) i) ∧ ∀ j, j < i → ps.getD j 0 < ps.getD i 0 := by
  have key : ∀ n, n ≤ ts.length → ∃ ps : List Nat, ps.length = (tskL (ts.take n)).length ∧ ∀ i, i < (tskL (ts.take n)).length → ps.getD i 0 < n ∧ (gw ts (ps.getD i 0)).1 = gz (tskL (ts.take n)) i ∧ (∀ j, j < ps.getD i 0 → (gw ts j).1 ≠ gz (tskL (ts.take n)) i) ∧ ∀ j, j < i → ps.getD j 0 < ps.getD i 0 := by
    intro n
    induction n with
    | zero => intro _; exact ⟨[], by simp [tskL], by simp [tskL]⟩
    | succ n ih =>
      intro hn
      obtain ⟨ps, h1, h2⟩ := ih (by omega)
      rw [take_snocW ts n (by omega), tskL_snoc]
      by_cases hm : (gw ts n).1 ∈ tskL (ts.take n)
      · rw [if_pos hm]
        refine ⟨ps, h1, fun i hi => ?_⟩
        obtain ⟨a, b, c, d⟩ := h2 i hi
        exact ⟨by omega, b, c, d⟩
      · rw [if_neg hm]
        refine ⟨ps ++ [n], by simp [h1], fun i hi => ?_⟩
        have hlen : i ≤ (tskL (ts.take n)).length := by simp at hi; omega
        by_cases hlt : i < (tskL (ts.take n)).length
        · obtain ⟨a, b, c, d⟩ := h2 i hlt
          have e1 : ∀ j, j < (tskL (ts.take n)).length → (ps ++ [n]).getD j 0 = ps.getD j 0 := fun j hj => by
            simp only [List.getD_eq_getElem?_getD]
            rw [List.getElem?_append_left (by omega)]
          have e2 : gz (tskL (ts.take n) ++ [(gw ts n).1]) i = gz (tskL (ts.take n)) i := by
            unfold gz
            rw [List.getElem?_append_left hlt]
          rw [e1 i hlt, e2]
          exact ⟨by omega, b, c, fun j hj => by rw [e1 j (by omega)]; exact d j hj⟩
        · obtain rfl : i = (tskL (ts.take n)).length := by omega
          have e1 : (ps ++ [n]).getD (tskL (ts.take n)).length 0 = n := by
            rw [← h1]
            simp [List.getD_eq_getElem?_getD]
          have e2 : gz (tskL (ts.take n) ++ [(gw ts n).1]) (tskL (ts.take n)).length = (gw ts n).1 := by
            unfold gz
            simp
          rw [e1, e2]
          refine ⟨by omega, rfl, fun j hj e => hm ?_, fun j hj => ?_⟩
          · rw [tskL_mem]
            refine ⟨gw ts j, ?_, e⟩
            rw [← gw_take hj]
            exact gw_mem (by rw [List.length_take]; omega)
          · have : (ps ++ [n]).getD j 0 = ps.getD j 0 := by
              simp only [List.getD_eq_getElem?_getD]
              rw [List.getElem?_append_left (by omega)]
            rw [this]
            exact (h2 j hj).1
  have := key ts.length (Nat.le_refl _)
  rwa [List.take_length] at this
def lastP (ps : List Nat) (k : Nat) : Int := if k = 0 then -1 else (ps.getD (k - 1) 0 : Nat)
theorem lastP_next (ps : List Nat) (k : Nat) : lastP ps (k + 1) = (ps.getD k 0 : Nat) := by
  unfold lastP
  rw [if_neg (by omega), show k + 1 - 1 = k by omega]
/-- What a round of WaitlistTasks finds. -/
theorem tsk_round {ts : List Wl} {ps : List Nat} (h : ∀ i, i < (tskL ts).length → ps.getD i 0 < ts.length ∧ (gw ts (ps.getD i 0)).1 = gz (tskL ts) i ∧ (∀ j, j < ps.getD i 0 → (gw ts j).1 ≠ gz (tskL ts) i) ∧ ∀ j, j < i → ps.getD j 0 < ps.getD i 0) {k : Nat} (hk : k < (tskL ts).length) :
    fndI ts (gz (tskL ts) k) = (ps.getD k 0 : Nat) ∧ fndB ts (gz (tskL ts) k) = true ∧ lastP ps k < (ps.getD k 0 : Nat) ∧ -1 ≤ lastP ps k ∧ ((ts.take (ps.getD k 0)).any fun t => t.1 == gz (tskL ts) k) = false := by
  obtain ⟨a, b, c, d⟩ := h k hk
  obtain ⟨p, hp⟩ : ∃ p, ps.getD k 0 = p := ⟨_, rfl⟩
  rw [hp] at a b c d ⊢
  have hf := fnd_pos (ts := ts) (t := gz (tskL ts) k) (k := (p : Int)) (.inr ⟨p, a, rfl, by simpa [isTk] using b, fun j hj => by simpa [isTk] using c j hj⟩) (by omega)
  refine ⟨hf.1, hf.2, ?_, ?_, ?_⟩
  · unfold lastP
    by_cases h0 : k = 0
    · rw [if_pos h0]; omega
    · rw [if_neg h0]
      have := d (k - 1) (by omega)
      omega
  · unfold lastP
    split <;> omega
  · rw [List.any_eq_false]
    intro t ht
    obtain ⟨j, hj, e⟩ := mem_gw ht
    rw [List.length_take] at hj
    have := c j (by omega)
    rw [gw_take (by omega)] at e
    rw [← e]
    simpa using this
theorem tsk_all (ts : List Wl) : (ts.any fun t => !hasZ (tskL ts) t.1) = false := by
  rw [List.any_eq_false]
  intro t ht
  have : t.1 ∈ tskL ts := tskL_mem.2 ⟨t, ht, rfl⟩
  simp [hasZ, this]

end Go.Proofs.Ytonjempbphnimaa
