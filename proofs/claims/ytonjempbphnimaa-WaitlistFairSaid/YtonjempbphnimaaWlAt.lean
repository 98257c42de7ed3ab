/-
  Check of waiters for values; a waiter boxed.
-/
import Derived.Test.YtonjempbphnimaaWlChk
import Derived.Test.YtonjempbphnimaaWlRefChk
import Derived.Test.YtonjempbphnimaaWlEq
namespace Go.Proofs.Ytonjempbphnimaa
open Go.RowKit

theorem wCheck_at (v : Value) (kd : Int) (ts : List Wl) (w : World) (hK : KwC w v ts) : Calls Try.prog 15 #[.int .i64 kd, v] w fun e w' => e = .returned (.int .i64 (wchE kd ts)) ∧ Below w.heap.size w w' := by
  obtain ⟨ad, cap, rfl, hc1, hc2, hA⟩ := hK
  exact wCheck_any _ ad cap kd ts w hA (by omega)
theorem rwCheck_at (v : Value) (kd : Int) (ts : List Wl) (w : World) (hK : KwC w v ts) : Calls Try.prog 16 #[.int .i64 kd, v] w fun e w' => e = .returned (.int .i64 (wchE kd ts)) ∧ Below w.heap.size w w' := by
  obtain ⟨ad, cap, rfl, hc1, hc2, hA⟩ := hK
  exact rwCheck_any _ ad cap kd ts w hA (by omega)
theorem eqW_same (u v : Value) (x : List Wl) (w : World) (hu : KwC w u x) (hv : KwC w v x) : Calls Try.prog 17 #[u, v] w fun e w' => e = .returned (.bool true) ∧ Below w.heap.size w w' := by
  have := eqW_at u v x x w hu hv
  rwa [decide_eq_true rfl] at this

end Go.Proofs.Ytonjempbphnimaa
