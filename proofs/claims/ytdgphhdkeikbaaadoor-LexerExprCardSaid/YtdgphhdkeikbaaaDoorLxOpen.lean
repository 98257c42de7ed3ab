/-
  Parameters of the statements that are slices of tokens, or of bytes, opened to their cells.
-/
import Derived.Deep.Strs
import Derived.Lib.SmallJoins
import Derived.ChangeSame
import Derived.ChangeSlices
import Derived.Test.YtdgphhdkeikbaaaDoorLxRdM
namespace Go.Proofs.YtdgphhdkeikbaaaDoor
set_option linter.unusedSimpArgs false
set_option linter.unusedVariables false
open Go.ChangeShapes Go.WideShapes Go.Deep Go.Joins
open Go.RowKit (Below)

instance : Inhabited Tk := ⟨zTk⟩

section
variable {H : Type} {enc : TypeId × Value → H} {P : Program} {w : World} {base : Nat} {spare : Nat → Bool} {held : Bool}
theorem trod_struct4k {t : TypeId} {f0 f1 f2 f3 : Field} {fuel : Nat} {cs : List Value} {x : DataW H × List MemPlace} (ht : P.underlying t = some (.struct #[f0, f1, f2, f3])) (h : DataW.trod enc P w base spare held fuel t cs = some x) :
    ∃ y0 y1 y2 y3 n, DataW.trod enc P w base spare held n f0.type ((cs.drop f0.offset).take (P.cellsOf f0.type)) = some y0 ∧
      DataW.trod enc P w base spare held n f1.type ((cs.drop f1.offset).take (P.cellsOf f1.type)) = some y1 ∧ DataW.trod enc P w base spare held n f2.type ((cs.drop f2.offset).take (P.cellsOf f2.type)) = some y2 ∧
      DataW.trod enc P w base spare held n f3.type ((cs.drop f3.offset).take (P.cellsOf f3.type)) = some y3 := by
  obtain ⟨xs, n, hn, rfl, hl, hlen, hf⟩ := DataW.trod_struct ht h
  match xs, hlen with
  | [y0, y1, y2, y3], _ => exact ⟨y0, y1, y2, y3, n, by simpa using hf 0 f0 rfl, by simpa using hf 1 f1 rfl, by simpa using hf 2 f2 rfl, by simpa using hf 3 f3 rfl⟩
/-- A slice, opened at each index below its length, with what fuel its elements take. -/
theorem open_sliceK {t e : TypeId} {fuel : Nat} {cs : List Value} {x : DataW H × List MemPlace} (ht : P.underlying t = some (.slice e)) (h : DataW.trod enc P w base spare held fuel t cs = some x) :
    (cs = [.slice none 0 0]) ∨
    ∃ (a : Addr) (len cap n : Nat), fuel = n + 1 ∧ cs = [.slice (some a) len cap] ∧ len ≤ cap ∧ cap ≤ maxLen ∧
      ∀ i, i < len → ∃ cs' y, w.cells? base (a.add (i * P.cellsOf e)) (P.cellsOf e) = some cs' ∧ DataW.trod enc P w base spare held n e cs' = some y := by
  rcases DataW.trod_slice ht h with h0 | ⟨a, len, cap, elems, rest, n, hn, rfl, rfl, hb, hl, hm, hlen, hel, hsp, hns⟩
  · exact Or.inl h0.1
  · refine .inr ⟨a, len, cap, n, hn, rfl, hl, hm, fun i hi => ?_⟩
    have := hel i hi
    rw [List.getElem?_eq_getElem (by omega)] at this
    obtain ⟨cs', h1, h2⟩ := Option.bind_eq_some_iff.1 this
    exact ⟨cs', _, h1, h2⟩
end
/-- What is known of a parameter of type []Token. -/
def IsTks (w : World) (a : Option Addr) (len cap : Nat) (l : List Tk) : Prop := l.length = len ∧ len ≤ cap ∧ cap ≤ 9223372036854775807 ∧ TkA anyB w a l ∧ TokOk l
theorem open_tks {H : Type} {enc : TypeId × Value → H} {w : World} {spare : Nat → Bool} {held : Bool} {a : Option Addr} {len cap fuel : Nat} {x : DataW H × List MemPlace}
    (h : DataW.trod enc Tryd.prog w 0 spare held fuel 22 (Value.slice a len cap).cells.toList = some x) : ∃ l, IsTks w a len cap l := by
  rcases open_sliceK Tryd.underlying22 h with hcs | ⟨A, l, c, n, _, hcs, hl, hc, hx⟩
  · simp [Value.cells] at hcs
    obtain ⟨rfl, rfl, rfl⟩ := hcs
    exact ⟨[], rfl, Nat.le_refl _, by omega, fun j hj => by simp at hj, fun j hj => by simp at hj⟩
  · simp [Value.cells] at hcs
    obtain ⟨rfl, rfl, rfl⟩ := hcs
    have hce : Tryd.prog.cellsOf 37 = 4 := by kernel_rfl
    have ci : Tryd.prog.cellsOf 3 = 1 := by kernel_rfl
    have cs : Tryd.prog.cellsOf 9 = 1 := by kernel_rfl
    have key : ∀ i, i < len → ∃ t : Tk, (w.cell? (A.add (i * 4)) = some (.int .i64 t.k) ∧ w.cell? (A.add (i * 4 + 1)) = some (.string t.t) ∧ w.cell? (A.add (i * 4 + 2)) = some (.int .i64 t.v) ∧ ∃ av : Int, w.cell? (A.add (i * 4 + 3)) = some (.int .i64 av)) ∧ t.t.size ≤ 9223372036854775807 ∧ (Lit.int .i64 t.v).wf = true := by
      intro i hil
      obtain ⟨cs', y, h1, h2⟩ := hx i hil
      rw [hce] at h1
      obtain ⟨_, hlen, hcell⟩ := World.cells?_some h1
      match cs', hlen with
      | [v0, v1, v2, v3], _ =>
        have e0 := hcell 0 (by omega)
        have e1 := hcell 1 (by omega)
        have e2 := hcell 2 (by omega)
        have e3 := hcell 3 (by omega)
        rw [add_add] at e0 e1 e2 e3
        obtain ⟨y0, y1, y2, y3, k, g0, g1, g2, g3⟩ := trod_struct4k (t := 37) Tryd.underlying37 h2
        simp [ci, cs] at g0 g1 g2 g3
        obtain ⟨n0, q0, _, f0⟩ := DataW.trod_int Tryd.underlying3 g0
        obtain ⟨n1, q1, _, f1⟩ := DataW.trod_string Tryd.underlying9 g1
        obtain ⟨n2, q2, _, f2⟩ := DataW.trod_int Tryd.underlying3 g2
        obtain ⟨n3, q3, _, f3⟩ := DataW.trod_int Tryd.underlying3 g3
        simp at q0 q1 q2 q3
        subst q0 q1 q2 q3
        exact ⟨⟨n0, n1, n2, 0⟩, ⟨by simpa using e0, by simpa using e1, by simpa using e2, n3, by simpa using e3⟩, by unfold maxLen at f1; show n1.size ≤ _; omega, f2⟩
    obtain ⟨f, hf⟩ := choose_lt key
    have hlen : ((List.range len).map f).length = len := by simp
    have hg : ∀ j, j < len → gk ((List.range len).map f) j = f j := fun j hj => by simp [gk, hj]
    refine ⟨(List.range len).map f, hlen, by omega, by unfold maxLen at hc; omega, fun j hj => ?_, fun j hj => ?_⟩
    · rw [hlen] at hj
      obtain ⟨⟨h1, h2, h3, av, h4⟩, _⟩ := hf j hj
      obtain ⟨bb, off, spot⟩ := A
      have hspot : spot = none := by have := World.cell?_spot (hf 0 (by omega)).1.1; simpa [Addr.add] using this
      subst hspot
      rw [Go.WideShapes.add_plain] at h1 h2 h3 h4
      rw [hg j hj]
      refine ⟨bb, off, rfl, trivial, World.block_lt_of_cell? _ _ h1, h1, ?_, ?_, av, ?_⟩
      · rw [Nat.add_assoc]; exact h2
      · rw [Nat.add_assoc]; exact h3
      · rw [Nat.add_assoc]; exact h4
    · rw [hlen] at hj
      obtain ⟨_, h2, h3⟩ := hf j hj
      rw [hg j hj]
      simp [Lit.wf, IntKind.min, IntKind.max, IntKind.bits, IntKind.signed] at h3
      exact ⟨h2, by omega, by omega⟩
def g8 (z : List UInt8) (j : Nat) : UInt8 := z[j]?.getD 0
/-- What is known of a parameter of type []uint8. -/
def IsU8 (w : World) (a : Option Addr) (len cap : Nat) (z : List UInt8) : Prop := z.length = len ∧ len ≤ cap ∧ cap ≤ 9223372036854775807 ∧ ∀ j, j < len → ∃ b off, a = some ⟨b, off, none⟩ ∧ b < w.heap.size ∧ w.cell? ⟨b, off + j, none⟩ = some (.int .u8 ((g8 z j).toNat : Int))
theorem IsU8.below {w w' : World} {a : Option Addr} {len cap : Nat} {z : List UInt8} (h : IsU8 w a len cap z) (hb : Below w.heap.size w w') : IsU8 w' a len cap z := by
  obtain ⟨h1, h2, h3, h4⟩ := h
  refine ⟨h1, h2, h3, fun j hj => ?_⟩
  obtain ⟨b, off, e1, e2, e3⟩ := h4 j hj
  exact ⟨b, off, e1, Nat.lt_of_lt_of_le e2 hb.size, (World.cell?_of_block (hb.block b e2)).trans e3⟩
theorem open_u8s {H : Type} {enc : TypeId × Value → H} {w : World} {spare : Nat → Bool} {held : Bool} {a : Option Addr} {len cap fuel : Nat} {x : DataW H × List MemPlace}
    (h : DataW.trod enc Tryd.prog w 0 spare held fuel 39 (Value.slice a len cap).cells.toList = some x) : ∃ l, IsU8 w a len cap l := by
  rcases open_sliceK Tryd.underlying39 h with hcs | ⟨A, l, c, n, _, hcs, hl, hc, hx⟩
  · simp [Value.cells] at hcs
    obtain ⟨rfl, rfl, rfl⟩ := hcs
    exact ⟨[], rfl, Nat.le_refl _, by omega, fun j hj => by simp at hj⟩
  · simp [Value.cells] at hcs
    obtain ⟨rfl, rfl, rfl⟩ := hcs
    have hce : Tryd.prog.cellsOf 5 = 1 := by kernel_rfl
    have key : ∀ i, i < len → ∃ t : UInt8, w.cell? (A.add i) = some (.int .u8 (t.toNat : Int)) := by
      intro i hil
      obtain ⟨cs', y, h1, h2⟩ := hx i hil
      rw [hce, Nat.mul_one] at h1
      obtain ⟨_, hlen, hcell⟩ := World.cells?_some h1
      match cs', hlen with
      | [v0], _ =>
        have e0 := hcell 0 (by omega)
        rw [add_add] at e0
        obtain ⟨n0, q0, _, f0⟩ := DataW.trod_int Tryd.underlying5 h2
        simp at q0
        subst q0
        simp [Lit.wf, IntKind.min, IntKind.max, IntKind.bits, IntKind.signed] at f0
        refine ⟨UInt8.ofNat n0.toNat, ?_⟩
        have e1 : (UInt8.ofNat n0.toNat).toNat = n0.toNat := by
          rw [UInt8.toNat_ofNat']
          exact Nat.mod_eq_of_lt (by omega)
        rw [e1, Int.toNat_of_nonneg (by omega)]
        simpa using e0
    obtain ⟨f, hf⟩ := choose_lt key
    have hlen : ((List.range len).map f).length = len := by simp
    have hg : ∀ j, j < len → g8 ((List.range len).map f) j = f j := fun j hj => by simp [g8, hj]
    refine ⟨(List.range len).map f, hlen, by omega, by unfold maxLen at hc; omega, fun j hj => ?_⟩
    have h1 := hf j hj
    obtain ⟨bb, off, spot⟩ := A
    have hspot : spot = none := by have := World.cell?_spot (hf 0 (by omega)); simpa [Addr.add] using this
    subst hspot
    rw [Go.WideShapes.add_plain] at h1
    rw [hg j hj]
    exact ⟨bb, off, rfl, World.block_lt_of_cell? _ _ h1, h1⟩
end Go.Proofs.YtdgphhdkeikbaaaDoor
