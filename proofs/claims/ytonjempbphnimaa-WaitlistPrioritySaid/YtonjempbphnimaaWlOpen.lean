/-
  Parameters of the statements that are slices of waiters, or waiters, opened to their cells.
-/
import Derived.Deep.Strs
import Derived.Lib.SmallJoins
import Derived.ChangeSame
import Derived.ChangeSlices
import Derived.Test.YtonjempbphnimaaWlApp
namespace Go.Proofs.Ytonjempbphnimaa
open Go.ChangeShapes Go.WideShapes Go.Deep Go.Joins

section
variable {H : Type} {enc : TypeId × Value → H} {P : Program} {w : World} {base : Nat} {spare : Nat → Bool} {held : Bool}
theorem trod_struct5 {t : TypeId} {f0 f1 f2 f3 f4 : Field} {fuel : Nat} {cs : List Value} {x : DataW H × List MemPlace} (ht : P.underlying t = some (.struct #[f0, f1, f2, f3, f4])) (h : DataW.trod enc P w base spare held fuel t cs = some x) :
    ∃ y0 y1 y2 y3 y4 n, DataW.trod enc P w base spare held n f0.type ((cs.drop f0.offset).take (P.cellsOf f0.type)) = some y0 ∧
      DataW.trod enc P w base spare held n f1.type ((cs.drop f1.offset).take (P.cellsOf f1.type)) = some y1 ∧ DataW.trod enc P w base spare held n f2.type ((cs.drop f2.offset).take (P.cellsOf f2.type)) = some y2 ∧
      DataW.trod enc P w base spare held n f3.type ((cs.drop f3.offset).take (P.cellsOf f3.type)) = some y3 ∧ DataW.trod enc P w base spare held n f4.type ((cs.drop f4.offset).take (P.cellsOf f4.type)) = some y4 := by
  obtain ⟨xs, n, _, rfl, hl, hlen, hf⟩ := DataW.trod_struct ht h
  match xs, hlen with
  | [y0, y1, y2, y3, y4], _ => exact ⟨y0, y1, y2, y3, y4, n, by simpa using hf 0 f0 rfl, by simpa using hf 1 f1 rfl, by simpa using hf 2 f2 rfl, by simpa using hf 3 f3 rfl, by simpa using hf 4 f4 rfl⟩
end

/-- Its numbers fit their type. -/
def FitW (t : Wl) : Prop := (Lit.int .i64 t.1).wf = true ∧ (Lit.int .i64 t.2.1).wf = true ∧ (Lit.int .i64 t.2.2.1).wf = true ∧ (Lit.int .i64 t.2.2.2.1).wf = true ∧ (Lit.int .i64 t.2.2.2.2).wf = true
/-- What is known of such a slice value. -/
def IsWls (w : World) (a : Option Addr) (len cap : Nat) (ts : List Wl) : Prop := ts.length = len ∧ len ≤ cap ∧ cap ≤ 9223372036854775807 ∧ WlA (fun _ => True) w a ts ∧ ∀ t ∈ ts, FitW t
theorem IsWls.known {w : World} {a : Option Addr} {len cap : Nat} {ts : List Wl} (h : IsWls w a len cap ts) : KwC w (.slice a len cap) ts := by
  obtain ⟨rfl, h1, h2, h3, _⟩ := h
  exact ⟨a, cap, rfl, h1, h2, h3⟩
theorem IsWls.fit {w : World} {a : Option Addr} {len cap : Nat} {ts : List Wl} (h : IsWls w a len cap ts) : ∀ t ∈ ts, FitW t := h.2.2.2.2
theorem open_five {H : Type} {enc : TypeId × Value → H} {w : World} {base : Nat} {spare : Nat → Bool} {held : Bool} {fuel : Nat} {v0 v1 v2 v3 v4 : Value} {x : DataW H × List MemPlace}
    (h : DataW.trod enc Try.prog w base spare held fuel 24 [v0, v1, v2, v3, v4] = some x) : ∃ t : Wl, (v0 = .int .i64 t.1 ∧ v1 = .int .i64 t.2.1 ∧ v2 = .int .i64 t.2.2.1 ∧ v3 = .int .i64 t.2.2.2.1 ∧ v4 = .int .i64 t.2.2.2.2) ∧ FitW t := by
  obtain ⟨y0, y1, y2, y3, y4, k, g0, g1, g2, g3, g4⟩ := trod_struct5 (t := 24) Try.underlying24 h
  have c0 : Try.prog.cellsOf 3 = 1 := by kernel_rfl
  simp [c0] at g0 g1 g2 g3 g4
  obtain ⟨n0, q0, _, f0⟩ := DataW.trod_int Try.underlying3 g0
  obtain ⟨n1, q1, _, f1⟩ := DataW.trod_int Try.underlying3 g1
  obtain ⟨n2, q2, _, f2⟩ := DataW.trod_int Try.underlying3 g2
  obtain ⟨n3, q3, _, f3⟩ := DataW.trod_int Try.underlying3 g3
  obtain ⟨n4, q4, _, f4⟩ := DataW.trod_int Try.underlying3 g4
  simp at q0 q1 q2 q3 q4
  subst q0 q1 q2 q3 q4
  exact ⟨(n0, n1, n2, n3, n4), ⟨rfl, rfl, rfl, rfl, rfl⟩, f0, f1, f2, f3, f4⟩
theorem open_wls {H : Type} {enc : TypeId × Value → H} {w : World} {spare : Nat → Bool} {held : Bool} {a : Option Addr} {len cap fuel : Nat} {x : DataW H × List MemPlace}
    (h : DataW.trod enc Try.prog w 0 spare held fuel 22 (Value.slice a len cap).cells.toList = some x) : ∃ ts, IsWls w a len cap ts := by
  rcases open_slice Try.underlying22 h with ⟨hcs, _⟩ | ⟨A, l, c, m, n, D, Pl, hcs, _, hl, hc, hm, _, hx⟩
  · simp [Value.cells] at hcs
    obtain ⟨rfl, rfl, rfl⟩ := hcs
    exact ⟨[], rfl, Nat.le_refl _, by omega, WlA.nil _ _ _, by simp⟩
  · simp [Value.cells] at hcs
    obtain ⟨rfl, rfl, rfl⟩ := hcs
    have hlm : len ≤ m := by rw [hm]; split <;> omega
    have hce : Try.prog.cellsOf 24 = 5 := by kernel_rfl
    have key : ∀ i, i < len → ∃ t : Wl, (w.cell? (A.add (i * 5)) = some (.int .i64 t.1) ∧ w.cell? (A.add (i * 5 + 1)) = some (.int .i64 t.2.1) ∧ w.cell? (A.add (i * 5 + 2)) = some (.int .i64 t.2.2.1) ∧ w.cell? (A.add (i * 5 + 3)) = some (.int .i64 t.2.2.2.1) ∧ w.cell? (A.add (i * 5 + 4)) = some (.int .i64 t.2.2.2.2)) ∧ FitW t := by
      intro i hil
      obtain ⟨cs', h1, h2⟩ := hx i (by omega)
      rw [hce] at h1
      obtain ⟨_, hlen, hcell⟩ := World.cells?_some h1
      match cs', hlen with
      | [v0, v1, v2, v3, v4], _ =>
        have e0 := hcell 0 (by omega)
        have e1 := hcell 1 (by omega)
        have e2 := hcell 2 (by omega)
        have e3 := hcell 3 (by omega)
        have e4 := hcell 4 (by omega)
        rw [add_add] at e0 e1 e2 e3 e4
        obtain ⟨t, ⟨rfl, rfl, rfl, rfl, rfl⟩, ht⟩ := open_five h2
        exact ⟨t, ⟨by simpa using e0, by simpa using e1, by simpa using e2, by simpa using e3, by simpa using e4⟩, ht⟩
    obtain ⟨f, hf⟩ := choose_lt key
    refine ⟨(List.range len).map f, by simp, hl, by unfold maxLen at hc; omega, fun j hj => ?_, fun t ht => ?_⟩
    · simp at hj
      obtain ⟨⟨h1, h2, h3, h4, h5⟩, _⟩ := hf j hj
      obtain ⟨bb, off, spot⟩ := A
      have hspot : spot = none := by simpa [Addr.add] using World.cell?_spot (hf 0 (by omega)).1.1
      subst hspot
      rw [Go.WideShapes.add_plain] at h1 h2 h3 h4 h5
      have hg : gw ((List.range len).map f) j = f j := by simp [gw, hj]
      rw [hg]
      refine ⟨bb, off, rfl, trivial, World.block_lt_of_cell? _ _ h1, h1, ?_, ?_, ?_, ?_⟩
      · rw [Nat.add_assoc]; exact h2
      · rw [Nat.add_assoc]; exact h3
      · rw [Nat.add_assoc]; exact h4
      · rw [Nat.add_assoc]; exact h5
    · obtain ⟨j, hj, rfl⟩ := List.mem_map.1 ht
      exact (hf j (List.mem_range.1 hj)).2
theorem array5 {α : Type} {l : Array α} (h : l.size = 5) : ∃ a b c d e, l = #[a, b, c, d, e] := by
  obtain ⟨l⟩ := l
  match l, h with
  | [a, b, c, d, e], _ => exact ⟨a, b, c, d, e, rfl⟩
theorem open_wl {H : Type} {enc : TypeId × Value → H} {w : World} {base : Nat} {spare : Nat → Bool} {held : Bool} {r : Reach} {b0 : Nat} {v : Value} {d : DataW H} {p : List MemPlace}
    (hv : Value.okWide Try.prog w r b0 24 v) (h : DataW.Trod enc Try.prog w base spare held 24 v d p) : ∃ a b c d f : Int, v = .agg #[.int .i64 a, .int .i64 b, .int .i64 c, .int .i64 d, .int .i64 f] := by
  obtain ⟨cs, rfl, hsz⟩ := okWide_struct (t := 24) Try.underlying24 hv
  have hC : Try.prog.cellsOf 24 = 5 := by kernel_rfl
  obtain ⟨c0, c1, c2, c3, c4, rfl⟩ := array5 (hsz.trans hC)
  obtain ⟨fuel, hf⟩ := h
  simp only [Value.cells] at hf
  obtain ⟨t, ⟨rfl, rfl, rfl, rfl, rfl⟩, _⟩ := open_five hf
  exact ⟨_, _, _, _, _, rfl⟩

end Go.Proofs.Ytonjempbphnimaa
