/-
  Slices of ints in memory.
-/
import Derived.Test.YtdgphhdkeikbaaaDoorProg
import Derived.WalkKit
namespace Go.Proofs.YtdgphhdkeikbaaaDoor
open Go.RowKit

/-- A slice's address leads to the ints zs, in a block below n₀. -/
def IntsA (n₀ : Nat) (W : World) (ad : Option Addr) (zs : List Int) : Prop :=
  ∀ j, j < zs.length → ∃ b off, ad = some ⟨b, off, none⟩ ∧ b < n₀ ∧ W.cell? ⟨b, off + j, none⟩ = some (.int .i64 (zs[j]?.getD 0))
theorem IntsA.below {n₀ : Nat} {A B : World} (h : Below n₀ A B) {ad : Option Addr} {zs : List Int} (hI : IntsA n₀ A ad zs) : IntsA n₀ B ad zs := fun j hj => by
  obtain ⟨b, off, e, hb, hc⟩ := hI j hj
  exact ⟨b, off, e, hb, (h.cell (p := ⟨b, off + j, none⟩) hb).trans hc⟩
theorem IntsA.mono {n m : Nat} {A : World} (hnm : n ≤ m) {ad : Option Addr} {zs : List Int} (hI : IntsA n A ad zs) : IntsA m A ad zs := fun j hj => by
  obtain ⟨b, off, e, hb, hc⟩ := hI j hj
  exact ⟨b, off, e, by omega, hc⟩
theorem IntsA.some_ {n : Nat} {A : World} {ad : Option Addr} {zs : List Int} (hI : IntsA n A ad zs) (h : 0 < zs.length) : ∃ b off, ad = some ⟨b, off, none⟩ ∧ b < n ∧ ∀ j, j < zs.length → A.cell? ⟨b, off + j, none⟩ = some (.int .i64 (zs[j]?.getD 0)) := by
  obtain ⟨b, off, e, hb, _⟩ := hI 0 h
  refine ⟨b, off, e, hb, fun j hj => ?_⟩
  obtain ⟨b', off', e', _, hc⟩ := hI j hj
  rw [e] at e'
  cases e'
  exact hc
theorem list_ext_take (a b : List Int) (h : a.length = b.length) : (∀ j, j < a.length → a[j]?.getD 0 = b[j]?.getD 0) → a = b := fun hh => by
  apply List.ext_getElem h
  intro i h1 h2
  have := hh i h1
  simpa [h1, h2] using this

end Go.Proofs.YtdgphhdkeikbaaaDoor
