/-
  The mathematics of WaitlistArrival: where a waiter is pushed.
-/
import Derived.Test.YtonjempbphnimaaWlMathA
import Derived.Test.YtonjempbphnimaaWlSeq
namespace Go.Proofs.Ytonjempbphnimaa
open Go.RowKit

theorem ins_gw {ts : List Wl} {n : Nat} {t : Wl} (h : n ≤ ts.length) : gw (insW ts n t) n = t ∧ (insW ts n t).take n ++ (insW ts n t).drop (n + 1) = ts ∧ (insW ts n t).drop (n + 1) = ts.drop n := by
  have e1 : (ts.take n).length = n := by rw [List.length_take]; omega
  have e2 : (insW ts n t).drop (n + 1) = ts.drop n := by
    unfold insW
    rw [List.drop_append, List.drop_of_length_le (by rw [e1]; omega), e1, show n + 1 - n = 1 by omega]
    simp
  have e3 : (insW ts n t).take n = ts.take n := by
    unfold insW
    rw [List.take_append_of_le_length (by rw [e1]; omega), List.take_of_length_le (by rw [e1]; omega)]
  refine ⟨?_, ?_, e2⟩
  · unfold insW gw
    rw [List.getElem?_append_right (by rw [e1]; omega), e1]
    simp
  · rw [e3, e2, List.take_append_drop]
/-- Behind the place all have less priority. -/
theorem plc_behind {ts : List Wl} {p : Int} (hs : ts.Pairwise PrioGe) : ∀ t ∈ ts.drop (plcW 2 ts p), t.2.2.2.1 < p := by
  have e : plcW 2 ts p = (ts.takeWhile fun s => decide (p ≤ s.2.2.2.1)).length := by unfold plcW; rw [if_neg (by decide)]
  rw [e]
  induction ts with
  | nil => simp
  | cons a r ih =>
    intro t ht
    rw [List.takeWhile_cons] at ht
    by_cases hp : p ≤ a.2.2.2.1
    · rw [if_pos (by simpa using hp)] at ht
      simp only [List.length_cons, List.drop_succ_cons] at ht
      exact ih (List.pairwise_cons.1 hs).2 (by unfold plcW; rw [if_neg (by decide)]) t ht
    · rw [if_neg (by simpa using hp)] at ht
      simp only [List.length_nil, List.drop_zero] at ht
      rcases List.mem_cons.1 ht with rfl | h
      · omega
      · have := (List.pairwise_cons.1 hs).1 t h
        unfold PrioGe at this
        omega
theorem arr_at {kd : Int} {ts : List Wl} {t : Wl} (h : pshE kd ts t = 0) : ∃ n, n ≤ ts.length ∧ pshQ kd ts t = insW ts n t ∧ gw (insW ts n t) n = t ∧ (insW ts n t).take n ++ (insW ts n t).drop (n + 1) = ts ∧ (((insW ts n t).drop (n + 1)).any fun s => s.2.2.2.1 == t.2.2.2.1) = false ∧ (kd = 2 ∨ n = ts.length) := by
  obtain ⟨hc, ho, hl⟩ := psh_ok h
  obtain ⟨hk, _, hq⟩ := wchE_iff.1 hc
  obtain ⟨h1, h2, h3⟩ := ins_gw (t := t) (plcW_le kd ts t.2.2.2.1)
  refine ⟨plcW kd ts t.2.2.2.1, plcW_le _ _ _, by unfold pshQ; rw [if_pos h], h1, h2, ?_, ?_⟩
  · rw [h3, List.any_eq_false]
    intro s hs
    rcases hk with rfl | rfl
    · rw [show plcW 1 ts t.2.2.2.1 = ts.length by unfold plcW; rw [if_pos rfl], List.drop_length] at hs
      cases hs
    · have := plc_behind (hq.2 rfl) s hs
      simp
      omega
  · rcases hk with rfl | rfl
    · right; unfold plcW; rw [if_pos rfl]
    · left; rfl

end Go.Proofs.Ytonjempbphnimaa
