/-
  Looking an operator up.
-/
import Derived.Test.YtdgphhdkeikbaaaGreatDoorExTiny
import Derived.Test.YtdgphhdkeikbaaaGreatDoorExDevB
/-! ### ExLook: Looking an operator up. -/
namespace Go.Proofs.YtdgphhdkeikbaaaGreatDoor
set_option linter.unusedSimpArgs false
set_option linter.unusedVariables false
open Go.RowKit

/-- The table of the operators lies at m. -/
def TabO (m : Nat) (w : World) : Prop := ∃ l, TabL m w l ∧ l.map (·.1) = [1, 2, 3, 4, 5, 6, 7, 8, 9, 10, 11, 12, 13, 14, 15]
theorem TabO.below {m : Nat} {w w' : World} (h : TabO m w) (hb : Below w.heap.size w w') : TabO m w' := by
  obtain ⟨l, h1, h2⟩ := h
  exact ⟨l, h1.below hb, h2⟩
theorem TabO.drew {m n : Nat} {w : World} (h : TabO m w) : TabO m (w.drewN n) := by
  obtain ⟨l, h1, h2⟩ := h
  exact ⟨l, ⟨h1.m, fun p hp => by obtain ⟨f, h3, h4⟩ := h1.ok p hp; exact ⟨f, h3, h4.keep (fun _ _ _ => rfl)⟩⟩, h2⟩
theorem TabO.look {m : Nat} {w : World} (h : TabO m w) {k : Int} (h1 : 1 ≤ k) (h2 : k ≤ 15) : ∃ f, AppF m w k f ∧ ∀ n, (Instr.lookup TM (.map (some m)) (.int .i64 k) false).run Tryz.prog (w.drewN n) = .ok (opA k f) (w.drewN n) := by
  obtain ⟨l, T, hl⟩ := h
  have hm : k ∈ l.map (·.1) := by rw [hl]; have : k = 1 ∨ k = 2 ∨ k = 3 ∨ k = 4 ∨ k = 5 ∨ k = 6 ∨ k = 7 ∨ k = 8 ∨ k = 9 ∨ k = 10 ∨ k = 11 ∨ k = 12 ∨ k = 13 ∨ k = 14 ∨ k = 15 := by omega
                                  simpa using this
  obtain ⟨p, hp, hpk⟩ := List.mem_map.1 hm
  cases hf : l.find? (fun p => p.1 == k) with
  | none => rw [List.find?_eq_none] at hf; exact absurd (by simpa using hpk) (hf p hp)
  | some q =>
    have hq := List.mem_of_find?_eq_some hf
    have hqk : q.1 = k := by simpa using List.find?_some hf
    obtain ⟨f, e1, e2⟩ := T.ok q hq
    rw [hqk] at e1 e2
    refine ⟨f, e2, fun n => ?_⟩
    have := run_lookM (w := w.drewN n) (b := m) (l := l) k false T.m
    rw [this]
    simp [lkM, hf, e1]

end Go.Proofs.YtdgphhdkeikbaaaGreatDoor

