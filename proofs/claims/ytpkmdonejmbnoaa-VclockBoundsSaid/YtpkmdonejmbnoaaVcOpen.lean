/-
  A parameter of vclock's statements that is a clock, opened to its cells.
-/
import Derived.Deep.SlicePairs
import Derived.ChangeSame
import Derived.ChangeSlices
import Derived.Test.YtpkmdonejmbnoaaVcMem
namespace Go.Proofs.Ytpkmdonejmbnoaa
open Go.ChangeShapes Go.WideShapes Go.Deep

/-- What is known of such a slice value. -/
def IsInts (w : World) (a : Option Addr) (len : Nat) (os : List Int) : Prop := os.length = len ∧ len ≤ 9223372036854775807 ∧ IntsA w.heap.size w a os
theorem IsInts.known {w : World} {a : Option Addr} {len cap : Nat} {os : List Int} (h : IsInts w a len os) : KlC w (.slice a len cap) os := by
  obtain ⟨rfl, h1, h2⟩ := h
  exact ⟨a, cap, rfl, h2, h1⟩
theorem open_clock {H : Type} {enc : TypeId × Value → H} {w : World} {spare : Nat → Bool} {held : Bool} {a : Option Addr} {len cap fuel : Nat} {x : DataW H × List MemPlace}
    (h : DataW.trod enc Try.prog w 0 spare held fuel 23 (Value.slice a len cap).cells.toList = some x) : ∃ os, IsInts w a len os := by
  rcases Go.ChangeShapes.open_ints Try.underlying23 Try.underlying3 (by kernel_rfl) h with ⟨hcs, _⟩ | ⟨A, l, c, zs, hcs, _, hl, hm, hlen, _, hc, _⟩
  · simp [Value.cells] at hcs
    obtain ⟨rfl, rfl, rfl⟩ := hcs
    exact ⟨[], rfl, by omega, fun j hj => by simp at hj⟩
  · simp [Value.cells] at hcs
    obtain ⟨rfl, rfl, rfl⟩ := hcs
    have hle : len ≤ zs.length := by rw [hlen]; split <;> omega
    refine ⟨zs.take len, by rw [List.length_take]; omega, by unfold maxLen at hm; omega, fun j hj => ?_⟩
    rw [List.length_take] at hj
    have h1 := hc j (by omega)
    obtain ⟨bb, off, spot⟩ := A
    have hspot : spot = none := by simpa [Addr.add] using World.cell?_spot (hc 0 (by omega))
    subst hspot
    rw [Go.WideShapes.add_plain] at h1
    refine ⟨bb, off, rfl, World.block_lt_of_cell? _ _ h1, ?_⟩
    rw [h1, List.getD_eq_getElem?_getD, List.getElem?_take, if_pos (by omega)]

end Go.Proofs.Ytpkmdonejmbnoaa
