/-
  Parameters of the statements that are expressions or bindings, opened to their cells.
-/
import Derived.Deep.Strs
import Derived.Lib.SmallJoins
import Derived.ChangeSame
import Derived.ChangeSlices
import Derived.Test.YtdgphhdkeikbaaaGreatDoorExRefA
namespace Go.Proofs.YtdgphhdkeikbaaaGreatDoor
set_option linter.unusedSimpArgs false
set_option linter.unusedVariables false
open Go.ChangeShapes Go.WideShapes Go.Deep Go.Joins

section
variable {H : Type} {enc : TypeId × Value → H} {P : Program} {w : World} {base : Nat} {spare : Nat → Bool} {held : Bool}
theorem trod_struct5n {t : TypeId} {f0 f1 f2 f3 f4 : Field} {fuel : Nat} {cs : List Value} {x : DataW H × List MemPlace} (ht : P.underlying t = some (.struct #[f0, f1, f2, f3, f4])) (h : DataW.trod enc P w base spare held fuel t cs = some x) :
    ∃ y0 y1 y2 y3 y4 n, fuel = n + 1 ∧ DataW.trod enc P w base spare held n f0.type ((cs.drop f0.offset).take (P.cellsOf f0.type)) = some y0 ∧
      DataW.trod enc P w base spare held n f1.type ((cs.drop f1.offset).take (P.cellsOf f1.type)) = some y1 ∧ DataW.trod enc P w base spare held n f2.type ((cs.drop f2.offset).take (P.cellsOf f2.type)) = some y2 ∧
      DataW.trod enc P w base spare held n f3.type ((cs.drop f3.offset).take (P.cellsOf f3.type)) = some y3 ∧ DataW.trod enc P w base spare held n f4.type ((cs.drop f4.offset).take (P.cellsOf f4.type)) = some y4 := by
  obtain ⟨xs, n, hn, rfl, hl, hlen, hf⟩ := DataW.trod_struct ht h
  match xs, hlen with
  | [y0, y1, y2, y3, y4], _ => exact ⟨y0, y1, y2, y3, y4, n, hn, by simpa using hf 0 f0 rfl, by simpa using hf 1 f1 rfl, by simpa using hf 2 f2 rfl, by simpa using hf 3 f3 rfl, by simpa using hf 4 f4 rfl⟩
theorem trod_struct3n {t : TypeId} {f0 f1 f2 : Field} {fuel : Nat} {cs : List Value} {x : DataW H × List MemPlace} (ht : P.underlying t = some (.struct #[f0, f1, f2])) (h : DataW.trod enc P w base spare held fuel t cs = some x) :
    ∃ y0 y1 y2 n, DataW.trod enc P w base spare held n f0.type ((cs.drop f0.offset).take (P.cellsOf f0.type)) = some y0 ∧
      DataW.trod enc P w base spare held n f1.type ((cs.drop f1.offset).take (P.cellsOf f1.type)) = some y1 ∧ DataW.trod enc P w base spare held n f2.type ((cs.drop f2.offset).take (P.cellsOf f2.type)) = some y2 := by
  obtain ⟨xs, n, hn, rfl, hl, hlen, hf⟩ := DataW.trod_struct ht h
  match xs, hlen with
  | [y0, y1, y2], _ => exact ⟨y0, y1, y2, n, by simpa using hf 0 f0 rfl, by simpa using hf 1 f1 rfl, by simpa using hf 2 f2 rfl⟩
/-- A slice, opened at each index below its length, with what fuel its elements take. -/
theorem open_sliceN {t e : TypeId} {fuel : Nat} {cs : List Value} {x : DataW H × List MemPlace} (ht : P.underlying t = some (.slice e)) (h : DataW.trod enc P w base spare held fuel t cs = some x) :
    (cs = [.slice none 0 0]) ∨
    ∃ (a : Addr) (len cap n : Nat), fuel = n + 1 ∧ cs = [.slice (some a) len cap] ∧ len ≤ cap ∧ cap ≤ maxLen ∧
      ∀ i, i < len → ∃ cs' y, w.cells? base (a.add (i * P.cellsOf e)) (P.cellsOf e) = some cs' ∧ DataW.trod enc P w base spare held n e cs' = some y := by
  rcases DataW.trod_slice ht h with h0 | ⟨a, len, cap, elems, rest, n, hn, rfl, rfl, hb, hl, hm, hlen, hel, hsp, hns⟩
  · exact Or.inl h0.1
  · refine .inr ⟨a, len, cap, n, hn, rfl, hl, hm, fun i hi => ?_⟩
    have := hel i hi
    rw [List.getElem?_eq_getElem (by omega)] at this
    obtain ⟨cs', h1, h2⟩ := Option.bind_eq_some_iff.1 this
    exact ⟨cs', _, h1, h2⟩
end

theorem fitL_ofO {es : List Ex} (h : ∀ a ∈ es, fitE a) : fitL es := by
  induction es with
  | nil => trivial
  | cons x r ih => exact ⟨h x (by simp), ih fun a ha => h a (by simp [ha])⟩
theorem open_node {H : Type} {enc : TypeId × Value → H} {w : World} {base : Nat} {spare : Nat → Bool} {held : Bool} {fuel : Nat} {v0 v1 v2 v3 v4 : Value} {x : DataW H × List MemPlace}
    (h : DataW.trod enc Tryz.prog w base spare held fuel 34 [v0, v1, v2, v3, v4] = some x) : ∃ (k o v : Int) (s : ByteArray) (n : Nat) (y : DataW H × List MemPlace), v0 = .int .i64 k ∧ v1 = .int .i64 o ∧ v2 = .string s ∧ v3 = .int .i64 v ∧ s.size ≤ 9223372036854775807 ∧ fuel = n + 1 ∧ DataW.trod enc Tryz.prog w base spare held n 32 [v4] = some y := by
  obtain ⟨y0, y1, y2, y3, y4, n, hn, g0, g1, g2, g3, g4⟩ := trod_struct5n (t := 34) Tryz.underlying34 h
  have c0 : Tryz.prog.cellsOf 3 = 1 := by kernel_rfl
  have c1 : Tryz.prog.cellsOf 9 = 1 := by kernel_rfl
  have c2 : Tryz.prog.cellsOf 32 = 1 := by kernel_rfl
  simp [c0, c1, c2] at g0 g1 g2 g3 g4
  obtain ⟨n0, q0, _, f0⟩ := DataW.trod_int Tryz.underlying3 g0
  obtain ⟨n1, q1, _, f1⟩ := DataW.trod_int Tryz.underlying3 g1
  obtain ⟨n2, q2, _, f2⟩ := DataW.trod_string Tryz.underlying9 g2
  obtain ⟨n3, q3, _, f3⟩ := DataW.trod_int Tryz.underlying3 g3
  simp at q0 q1 q2 q3
  exact ⟨n0, n1, n3, n2, n, y4, q0, q1, q2, q3, by unfold maxLen at f2; omega, hn, g4⟩
theorem open_args {H : Type} {enc : TypeId × Value → H} {w : World} {spare : Nat → Bool} {held : Bool} : ∀ (fuel : Nat) (v : Value) (x : DataW H × List MemPlace),
    DataW.trod enc Tryz.prog w 0 spare held fuel 32 [v] = some x → ∃ es, KA anyB w es v ∧ fitL es := by
  intro fuel
  induction fuel using Nat.strongRecOn with
  | ind fuel ih =>
  intro v x h
  rcases open_sliceN Tryz.underlying32 h with hcs | ⟨A, l, c, n, hn, hcs, hl, hc, hx⟩
  · simp at hcs
    subst hcs
    exact ⟨[], KA.nil _ _ _ _ (by omega), trivial⟩
  · simp at hcs
    subst hcs
    have hce : Tryz.prog.cellsOf 34 = 5 := by kernel_rfl
    have key : ∀ i, i < l → ∃ q : Ex × Value, (w.cell? (A.add (i * 5)) = some (.int .i64 q.1.k) ∧ w.cell? (A.add (i * 5 + 1)) = some (.int .i64 q.1.o) ∧ w.cell? (A.add (i * 5 + 2)) = some (.string q.1.s) ∧ w.cell? (A.add (i * 5 + 3)) = some (.int .i64 q.1.v) ∧ w.cell? (A.add (i * 5 + 4)) = some q.2) ∧ KA anyB w q.1.es q.2 ∧ fitE q.1 := by
      intro i hil
      obtain ⟨cs', y, h1, h2⟩ := hx i hil
      rw [hce] at h1
      obtain ⟨_, hlen, hcell⟩ := World.cells?_some h1
      match cs', hlen with
      | [v0, v1, v2, v3, v4], _ =>
        have e0 := hcell 0 (by omega)
        have e1 := hcell 1 (by omega)
        have e2 := hcell 2 (by omega)
        have e3 := hcell 3 (by omega)
        have e4 := hcell 4 (by omega)
        rw [add_add] at e0 e1 e2 e3 e4
        obtain ⟨k, o, u, s, n2, y4, rfl, rfl, rfl, rfl, hs, hn2, h4⟩ := open_node h2
        obtain ⟨es, hk, hf⟩ := ih n2 (by omega) v4 y4 h4
        exact ⟨(.mk k o s u es, v4), ⟨by simpa [Ex.k] using e0, by simpa [Ex.o] using e1, by simpa [Ex.s] using e2, by simpa [Ex.v] using e3, by simpa using e4⟩, hk, ⟨hs, hf⟩⟩
    obtain ⟨f, hf⟩ := choose_lt key
    have hlen : ((List.range l).map fun i => (f i).1).length = l := by simp
    have hga : ∀ j, j < l → ga ((List.range l).map fun i => (f i).1) j = (f j).1 := fun j hj => by simp [ga, hj]
    refine ⟨(List.range l).map fun i => (f i).1, ?_, ?_⟩
    · have := KA.mk (φ := anyB) (w := w) ((List.range l).map fun i => (f i).1) (some A) c (fun j => (f j).2) (by omega) (by unfold maxLen at hc; omega) (fun j hj => ?_) (fun j hj => ?_)
      · rw [hlen] at this
        exact this
      · rw [hlen] at hj
        obtain ⟨⟨h1, h2, h3, h4, h5⟩, _⟩ := hf j hj
        obtain ⟨bb, off, spot⟩ := A
        have hspot : spot = none := by have := World.cell?_spot (hf 0 (by omega)).1.1; simpa [Addr.add] using this
        subst hspot
        rw [Go.WideShapes.add_plain] at h1 h2 h3 h4 h5
        rw [hga j hj]
        refine ⟨bb, off, rfl, trivial, World.block_lt_of_cell? _ _ h1, h1, ?_, ?_, ?_, ?_⟩
        · rw [Nat.add_assoc]; exact h2
        · rw [Nat.add_assoc]; exact h3
        · rw [Nat.add_assoc]; exact h4
        · rw [Nat.add_assoc]; exact h5
      · rw [hlen] at hj
        rw [hga j hj]
        exact (hf j hj).2.1
    · refine fitL_ofO fun a ha => ?_
      obtain ⟨j, hj, rfl⟩ := List.mem_map.1 ha
      exact (hf j (List.mem_range.1 hj)).2.2
theorem array5x {α : Type} {l : Array α} (h : l.size = 5) : ∃ a b c d e, l = #[a, b, c, d, e] := by
  obtain ⟨l⟩ := l
  match l, h with
  | [a, b, c, d, e], _ => exact ⟨a, b, c, d, e, rfl⟩
set_option maxRecDepth 100000 in
theorem open_expr {H : Type} {enc : TypeId × Value → H} {w : World} {spare : Nat → Bool} {held : Bool} {r : Reach} {b0 : Nat} {v : Value} {d : DataW H} {p : List MemPlace}
    (hv : Value.okWide Tryz.prog w r b0 34 v) (h : DataW.Trod enc Tryz.prog w 0 spare held 34 v d p) : ∃ (e : Ex) (sl : Value), v = exV e sl ∧ KX w e sl ∧ fitE e := by
  obtain ⟨cs, rfl, hsz⟩ := okWide_struct (t := 34) Tryz.underlying34 hv
  have hC : Tryz.prog.cellsOf 34 = 5 := by kernel_rfl
  obtain ⟨c0, c1, c2, c3, c4, rfl⟩ := array5x (hsz.trans hC)
  obtain ⟨fuel, hf⟩ := h
  simp only [Value.cells] at hf
  obtain ⟨k, o, u, s, n2, y4, rfl, rfl, rfl, rfl, hs, _, h4⟩ := open_node hf
  obtain ⟨es, hk, hft⟩ := open_args n2 c4 y4 h4
  exact ⟨.mk k o s u es, c4, rfl, hk, hs, hft⟩
end Go.Proofs.YtdgphhdkeikbaaaGreatDoor
