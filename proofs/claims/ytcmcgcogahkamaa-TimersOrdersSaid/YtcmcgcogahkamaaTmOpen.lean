/-
  Parameters of the statements that are slices of timers, or timers, opened to their cells.
-/
import Derived.Deep.Strs
import Derived.Lib.SmallJoins
import Derived.ChangeSame
import Derived.ChangeSlices
import Derived.Test.YtcmcgcogahkamaaTmAwake
import Derived.Test.YtcmcgcogahkamaaTmRefChk
namespace Go.Proofs.Ytcmcgcogahkamaa
open Go.ChangeShapes Go.WideShapes Go.Deep Go.Joins

def tmIn : Value → Int
  | .int _ n => n
  | _ => 0
/-- What is known of such a slice value. -/
def IsTms (w : World) (a : Option Addr) (len cap : Nat) (ts : List Tm) : Prop := ts.length = len ∧ len ≤ cap ∧ cap ≤ 9223372036854775807 ∧ TmA (fun _ => True) w a ts
theorem IsTms.known {w : World} {a : Option Addr} {len cap : Nat} {ts : List Tm} (h : IsTms w a len cap ts) : KtC w (.slice a len cap) ts := by
  obtain ⟨rfl, h1, h2, h3⟩ := h
  exact ⟨a, cap, rfl, h1, h2, h3⟩
theorem open_tms {H : Type} {enc : TypeId × Value → H} {w : World} {spare : Nat → Bool} {held : Bool} {a : Option Addr} {len cap fuel : Nat} {x : DataW H × List MemPlace}
    (h : DataW.trod enc Try.prog w 0 spare held fuel 22 (Value.slice a len cap).cells.toList = some x) : ∃ ts, IsTms w a len cap ts := by
  rcases open_slice Try.underlying22 h with ⟨hcs, _⟩ | ⟨A, l, c, m, n, D, Pl, hcs, _, hl, hc, hm, _, hx⟩
  · simp [Value.cells] at hcs
    obtain ⟨rfl, rfl, rfl⟩ := hcs
    exact ⟨[], rfl, Nat.le_refl _, by omega, TmA.nil _ _ _⟩
  · simp [Value.cells] at hcs
    obtain ⟨rfl, rfl, rfl⟩ := hcs
    have hlm : len ≤ m := by rw [hm]; split <;> omega
    have hce : Try.prog.cellsOf 24 = 3 := by kernel_rfl
    have key : ∀ i, i < len → ∃ t : Tm, w.cell? (A.add (i * 3)) = some (.int .i64 t.1) ∧ w.cell? (A.add (i * 3 + 1)) = some (.int .i64 t.2.1) ∧ w.cell? (A.add (i * 3 + 2)) = some (.int .i64 t.2.2) := by
      intro i hil
      obtain ⟨cs', h1, h2⟩ := hx i (by omega)
      rw [hce] at h1
      obtain ⟨_, hlen, hcell⟩ := World.cells?_some h1
      obtain ⟨y0, y1, y2, k, _, _, g0, g1, g2⟩ := trod_struct3 (t := 24) Try.underlying24 h2
      match cs', hlen with
      | [v0, v1, v2], _ =>
        have e0 := hcell 0 (by omega)
        have e1 := hcell 1 (by omega)
        have e2 := hcell 2 (by omega)
        rw [add_add] at e0 e1 e2
        have c0 : Try.prog.cellsOf 3 = 1 := by kernel_rfl
        simp [c0] at g0 g1 g2
        obtain ⟨n0, q0, _, _⟩ := DataW.trod_int Try.underlying3 g0
        obtain ⟨n1, q1, _, _⟩ := DataW.trod_int Try.underlying3 g1
        obtain ⟨n2, q2, _, _⟩ := DataW.trod_int Try.underlying3 g2
        simp at q0 q1 q2
        subst q0 q1 q2
        exact ⟨(n0, n1, n2), by simpa using e0, by simpa using e1, by simpa using e2⟩
    obtain ⟨f, hf⟩ := choose_lt key
    refine ⟨(List.range len).map f, by simp, hl, by unfold maxLen at hc; omega, fun j hj => ?_⟩
    simp at hj
    obtain ⟨h1, h2, h3⟩ := hf j hj
    obtain ⟨bb, off, spot⟩ := A
    have hspot : spot = none := by simpa [Addr.add] using World.cell?_spot (hf 0 (by omega)).1
    subst hspot
    rw [Go.WideShapes.add_plain] at h1 h2 h3
    have hg : gt ((List.range len).map f) j = f j := by simp [gt, hj]
    rw [hg]
    refine ⟨bb, off, rfl, trivial, World.block_lt_of_cell? _ _ h1, h1, ?_, ?_⟩
    · rw [Nat.add_assoc]; exact h2
    · rw [Nat.add_assoc]; exact h3
theorem open_tm {H : Type} {enc : TypeId × Value → H} {w : World} {base : Nat} {spare : Nat → Bool} {held : Bool} {r : Reach} {b0 : Nat} {v : Value} {d : DataW H} {p : List MemPlace}
    (hv : Value.okWide Try.prog w r b0 24 v) (h : DataW.Trod enc Try.prog w base spare held 24 v d p) : ∃ a b c : Int, v = .agg #[.int .i64 a, .int .i64 b, .int .i64 c] := by
  obtain ⟨v0, v1, v2, y0, y1, y2, n, rfl, _, _, g0, g1, g2⟩ := open_agg3 (t := 24) Try.underlying24 (by kernel_rfl) (by kernel_rfl) hv h
  obtain ⟨n0, q0, _, _⟩ := DataW.trod_int Try.underlying3 g0
  obtain ⟨n1, q1, _, _⟩ := DataW.trod_int Try.underlying3 g1
  obtain ⟨n2, q2, _, _⟩ := DataW.trod_int Try.underlying3 g2
  simp at q0 q1 q2
  subst q0 q1 q2
  exact ⟨n0, n1, n2, rfl⟩

open Go.RowKit in
theorem tCheck_at (v : Value) (ts : List Tm) (w : World) (hK : KtC w v ts) (hl : ts.length ≤ 1000) : Calls Try.prog 16 #[v] w fun e w' => e = .returned (.int .i64 (chkE ts)) ∧ Below w.heap.size w w' := by
  obtain ⟨ad, cap, rfl, hc1, hc2, hA⟩ := hK
  exact tCheck_any _ ad cap ts w hA hl hc1
open Go.RowKit in
theorem rCheck_at (v : Value) (ts : List Tm) (w : World) (hK : KtC w v ts) (hl : ts.length ≤ 1000) : Calls Try.prog 17 #[v] w fun e w' => e = .returned (.int .i64 (chkE ts)) ∧ Below w.heap.size w w' := by
  obtain ⟨ad, cap, rfl, hc1, hc2, hA⟩ := hK
  exact rCheck_any _ ad cap ts w hA hl
open Go.RowKit in
theorem great_at (v : Value) (ts : List Tm) (w : World) (hK : KtC w v ts) : Calls Try.prog 11 #[v] w fun e w' => e = .returned (.bool (decide (40 < ts.length))) ∧ w = w' := by
  obtain ⟨ad, cap, rfl, hc1, hc2, hA⟩ := hK
  exact great_any ad ts.length cap w (by omega)

end Go.Proofs.Ytcmcgcogahkamaa
