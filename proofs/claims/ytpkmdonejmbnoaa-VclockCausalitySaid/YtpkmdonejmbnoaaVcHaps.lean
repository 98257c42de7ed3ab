/-
  Causality: the parameter, a slice of happenings, opened to its cells.
-/
import Derived.Deep.SlicePairs
import Derived.ChangeSame
import Derived.ChangeSlices
import Derived.Test.YtpkmdonejmbnoaaVcLearn
import Derived.Test.YtpkmdonejmbnoaaVcRegB
namespace Go.Proofs.Ytpkmdonejmbnoaa
open Go.ChangeShapes Go.WideShapes Go.Deep Go.RowKit

def hapN : Value → Nat
  | .int _ n => n.toNat
  | _ => 0
/-- The happenings' cells. -/
def HapsA (n₀ : Nat) (W : World) (ad : Option Addr) (es : List (Nat × Nat)) : Prop :=
  ∀ j, j < es.length → ∃ b off, ad = some ⟨b, off, none⟩ ∧ b < n₀ ∧ W.cell? ⟨b, off + j * 2, none⟩ = some (.int .u8 ((es[j]?.getD (0, 0)).1 : Int)) ∧ W.cell? ⟨b, off + j * 2 + 1, none⟩ = some (.int .u8 ((es[j]?.getD (0, 0)).2 : Int)) ∧ (es[j]?.getD (0, 0)).1 < 256 ∧ (es[j]?.getD (0, 0)).2 < 256
theorem HapsA.below {n₀ : Nat} {A B : World} {ad : Option Addr} {es : List (Nat × Nat)} (hE : HapsA n₀ A ad es) (h : Below n₀ A B) : HapsA n₀ B ad es := fun j hj => by
  obtain ⟨b, off, e, hb, h1, h2, h3⟩ := hE j hj
  exact ⟨b, off, e, hb, (h.cell (p := ⟨b, off + j * 2, none⟩) hb).trans h1, (h.cell (p := ⟨b, off + j * 2 + 1, none⟩) hb).trans h2, h3⟩
/-- What is known of such a slice value. -/
def IsHaps (w : World) (a : Option Addr) (len : Nat) (es : List (Nat × Nat)) : Prop := es.length = len ∧ len ≤ 9223372036854775807 ∧ HapsA w.heap.size w a es
theorem open_haps {H : Type} {enc : TypeId × Value → H} {w : World} {spare : Nat → Bool} {held : Bool} {a : Option Addr} {len cap fuel : Nat} {x : DataW H × List MemPlace}
    (h : DataW.trod enc Try.prog w 0 spare held fuel 45 (Value.slice a len cap).cells.toList = some x) : ∃ es, IsHaps w a len es := by
  rcases open_slice_pairs Try.underlying45 Try.underlying49 (by kernel_rfl) rfl rfl (by kernel_rfl) (by kernel_rfl) h with ⟨hcs, _⟩ | ⟨b, l, c, m, n, V0, V1, D0, D1, P0, P1, hcs, _, hl, hc, hm, _, hi⟩
  · simp [Value.cells] at hcs
    obtain ⟨rfl, rfl, rfl⟩ := hcs
    exact ⟨[], rfl, by omega, fun j hj => by simp at hj⟩
  · simp [Value.cells] at hcs
    obtain ⟨rfl, rfl, rfl⟩ := hcs
    have hlm : len ≤ m := by rw [hm]; split <;> omega
    have key : ∀ i, i < len → V0 i = .int .u8 (hapN (V0 i) : Int) ∧ V1 i = .int .u8 (hapN (V1 i) : Int) ∧ hapN (V0 i) < 256 ∧ hapN (V1 i) < 256 := by
      intro i hil
      obtain ⟨_, _, t0, t1⟩ := hi i (by omega)
      obtain ⟨n0, e0, _, f0⟩ := DataW.trod_int Try.underlying5 t0
      obtain ⟨n1, e1, _, f1⟩ := DataW.trod_int Try.underlying5 t1
      simp at e0 e1
      simp [Lit.wf] at f0
      have g0 : 0 ≤ n0 ∧ n0 ≤ 255 := f0
      simp [Lit.wf] at f1
      have g1 : 0 ≤ n1 ∧ n1 ≤ 255 := f1
      rw [e0, e1]
      refine ⟨?_, ?_, ?_, ?_⟩
      · show Value.int .u8 n0 = .int .u8 (n0.toNat : Int); rw [Int.toNat_of_nonneg g0.1]
      · show Value.int .u8 n1 = .int .u8 (n1.toNat : Int); rw [Int.toNat_of_nonneg g1.1]
      · show n0.toNat < 256; omega
      · show n1.toNat < 256; omega
    refine ⟨(List.range len).map fun i => (hapN (V0 i), hapN (V1 i)), by simp, by unfold maxLen at hc; omega, fun j hj => ?_⟩
    simp at hj
    obtain ⟨h1, h2, _, _⟩ := hi j (by omega)
    obtain ⟨k1, k2, k3, k4⟩ := key j hj
    obtain ⟨bb, off, spot⟩ := b
    have hspot : spot = none := by simpa [Addr.add] using World.cell?_spot (hi 0 (by omega)).1
    subst hspot
    rw [Go.WideShapes.add_plain] at h1
    have h2' : w.cell? ⟨bb, off + (j * 2 + 1), none⟩ = some (V1 j) := by rw [← Go.WideShapes.add_plain]; exact h2
    have eg : ((List.range len).map fun i => (hapN (V0 i), hapN (V1 i)))[j]?.getD (0, 0) = (hapN (V0 j), hapN (V1 j)) := by simp [hj]
    rw [eg]
    refine ⟨bb, off, rfl, World.block_lt_of_cell? _ _ h1, ?_, ?_, k3, k4⟩
    · rw [h1]; exact congrArg some k1
    · rw [Nat.add_assoc, h2']; exact congrArg some k2

end Go.Proofs.Ytpkmdonejmbnoaa
