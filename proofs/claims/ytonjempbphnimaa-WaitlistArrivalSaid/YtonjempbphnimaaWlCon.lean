/-
  The library's ContainsFunc over waiters.
-/
import Derived.Test.YtonjempbphnimaaWlSeq
namespace Go.Proofs.Ytonjempbphnimaa
open Go.RowKit Go.Shelf

set_option maxRecDepth 100000 in
theorem wContainsF_any (φ : Nat → Prop) (fn : Nat) (bnd caps : Array Value) (ad : Option Addr) (cap : Nat) (ts : List Wl) (p : Wl → Bool) (w : World) (heg : ∀ args w, (callFunc fn args).run Try.prog w = .ok (.enter fn args) w) (hA : WlA φ w ad ts) (hl : ts.length ≤ 1000) (hp : PredW fn bnd caps p w) :
    Calls Try.prog 28 #[.slice ad ts.length cap, .func (.func fn) bnd caps] w fun e w' => e = .returned (.bool (ts.any p)) ∧ Below w.heap.size w w' := by
  have HI := Lib.hid (wIndex_any φ fn bnd caps ad cap ts p w heg hA hl hp)
  clear hA hp
  go_enter Try.func28, Try.ntmps28
  go_wp2_with fail
  refine HI.out.mono ?_
  rintro e w1 ⟨k, rfl, hk, b1⟩
  have hk := Lib.hid hk.any
  go_wp2
  go_ret
  exact ⟨by rw [← hk.out]; rfl, b1⟩
/-- ContainsFunc, of a value. -/
theorem wContains_at (v : Value) (fn : Nat) (bnd caps : Array Value) (ts : List Wl) (p : Wl → Bool) (w : World) (heg : ∀ args w, (callFunc fn args).run Try.prog w = .ok (.enter fn args) w) (hK : KwC w v ts) (hl : ts.length ≤ 1000) (hp : PredW fn bnd caps p w) :
    Calls Try.prog 28 #[v, .func (.func fn) bnd caps] w fun e w' => e = .returned (.bool (ts.any p)) ∧ Below w.heap.size w w' := by
  obtain ⟨ad, cap, rfl, _, _, hA⟩ := hK
  exact wContainsF_any _ fn bnd caps ad cap ts p w heg hA hl hp

end Go.Proofs.Ytonjempbphnimaa
