/-
  The program's Expr and Parse.
-/
import Derived.Test.YtdgphhdkeikbaaaGreatDoorLxParM
import Derived.Test.YtdgphhdkeikbaaaGreatDoorLxPos
namespace Go.Proofs.YtdgphhdkeikbaaaGreatDoor
set_option linter.unusedSimpArgs false
set_option linter.unusedVariables false
open Go.RowKit

theorem ka_zero (φ : Nat → Prop) (w : World) : KA φ w zeroX.es nilX := by
  exact .mk [] none 0 (fun _ => nilX) (Nat.le_refl _) (by decide) (fun j hj => absurd hj (by simp)) (fun j hj => absurd hj (by simp))
def exG : Rs → Ex × Nat × Int
  | .ok e n => if ckE e = 0 then (e, n, 0) else (zeroX, 0, ckE e)
  | .bad n => (zeroX, n, 3)
  | .out => (zeroX, 0, 0)
/-- What Expr and Parse return. -/
def RetE (w : World) (x : Ending) (w' : World) (r : Ex × Nat × Int) : Prop := ∃ sa sn sc, x = .returned (.tuple #[exV r.1 (.slice sa sn sc), .int .i64 (r.2.1 : Nat), .int .i64 r.2.2]) ∧ KA (fun k => w.heap.size < k) w' r.1.es (.slice sa sn sc) ∧ Below w.heap.size w w'
theorem ret_ex {fn : Func} {p u v : Tmp} (hf : fn.results = #[.cell p TX, .tmp u, .tmp v]) (W : World) (g : Nat) (e : Ex) (sl x y : Value) (tmps : Array Value) (hg : W.heap[g]? = some (.cells #[.int .i64 e.k, .int .i64 e.o, .string e.s, .int .i64 e.v, sl] TX (0, 0)))
    (hp : tmps.getD p undef = .pointer (some ⟨g, 0, none⟩)) (hu : tmps.getD u undef = x) (hv : tmps.getD v undef = y) : (results fn tmps).run Tryz.prog W = .ok (.tuple #[exV e sl, x, y]) W := by
  have hl := run_loadVar_row (P := Tryz.prog) W g TX TX _ (0, 0) _ hg Tryz.underlying34 rfl (by kernel_rfl)
  have hp' : tmps[p]?.getD undef = .pointer (some ⟨g, 0, none⟩) := by simpa using hp
  have hu' : tmps[u]?.getD undef = x := by simpa using hu
  have hv' : tmps[v]?.getD undef = y := by simpa using hv
  simp only [results, hf]
  simp [Sem.run_bind, asAddr, hp', hu', hv', hl, Result.andThen, exV]
end Go.Proofs.YtdgphhdkeikbaaaGreatDoor
