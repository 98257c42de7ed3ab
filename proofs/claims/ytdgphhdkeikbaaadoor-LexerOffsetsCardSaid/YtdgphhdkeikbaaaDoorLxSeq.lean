/-
  The library's IndexFunc over tokens.
-/
import Derived.Test.YtdgphhdkeikbaaaDoorLxParse2
namespace Go.Proofs.YtdgphhdkeikbaaaDoor
set_option linter.unusedSimpArgs false
set_option linter.unusedVariables false
open Go.RowKit

/-- A predicate on tokens that is a function which keeps all that was there. -/
def PredK (f : Nat) (bnd caps : Array Value) (p : Tk → Bool) (w : World) : Prop := ∀ (a : Int) (b : ByteArray) (c : Int) (d : Nat) (W : World), Below w.heap.size w W → Calls Tryd.prog f (bnd.push (.agg #[.int .i64 a, .string b, .int .i64 c, .int .i64 (d : Int)]) ++ caps) W fun e W' => e = .returned (.bool (p ⟨a, b, c, d⟩)) ∧ Below W.heap.size W W'
/-- The first place at which p holds, or -1. -/
def IxK (ts : List Tk) (p : Tk → Bool) (k : Int) : Prop := (k = -1 ∧ ∀ j, j < ts.length → p (gk ts j) = false) ∨ ∃ i : Nat, i < ts.length ∧ k = i ∧ p (gk ts i) = true ∧ ∀ j, j < i → p (gk ts j) = false
set_option maxRecDepth 100000 in
set_option maxHeartbeats 2000000 in
theorem kIndex_any (φ : Nat → Prop) (f : Nat) (bnd caps : Array Value) (ad : Option Addr) (cap : Nat) (ts : List Tk) (p : Tk → Bool) (w : World) (heg : ∀ args w, (callFunc f args).run Tryd.prog w = .ok (.enter f args) w) (hA : TkA φ w ad ts ∧ TkO φ w ad ts) (hl : ts.length ≤ 9223372036854775807) (hp : PredK f bnd caps p w) :
    Calls Tryd.prog 25 #[.slice ad ts.length cap, .func (.func f) bnd caps] w fun e w' => ∃ k : Int, e = .returned (.int .i64 k) ∧ IxK ts p k ∧ Below w.heap.size w w' := by
  have HL := Lib.hid hA
  have HP := Lib.hid hp
  clear hA hp
  go_enter Tryd.func25, Tryd.ntmps25
  go_wp2
  go_loopw [8] (fun x wr => ∃ k : Nat, k ≤ ts.length ∧ x = .int .i64 k ∧ Hid (∀ j, j < k → p (gk ts j) = false) ∧ Hid (Below w.heap.size w wr)) (fun x _ => ts.length - (intOf x).toNat)
  case atStart => exact ⟨0, Nat.zero_le _, rfl, Lib.hid (fun j hj => by omega), Lib.hid (Below.refl _ _)⟩
  case round =>
    obtain ⟨k, hk, rfl, HA, HB⟩ := hrel
    by_cases hkt : k < ts.length
    · have k1 : (k : Int) < (ts.length : Int) := by omega
      obtain ⟨b, off, rfl, _, hb, c0, c1, c2, _⟩ := (HL.out.1.below HB.out) k hkt
      have c3 := (HL.out.2.below HB.out).at_ hkt
      obtain ⟨⟨x, y, z, o⟩, ht⟩ : ∃ t, gk ts k = t := ⟨_, rfl⟩
      rw [ht] at c0 c1 c2 c3
      simp only [] at c0 c1 c2 c3
      have HC := HP.out x y z o wr HB.out
      cases hpk : p ⟨x, y, z, o⟩ with
      | true =>
        have HX : Hid (IxK ts p (k : Int)) := Lib.hid (.inr ⟨k, hkt, rfl, by rw [ht]; exact hpk, HA.out⟩)
        rw [hpk] at HC
        have HC := Lib.hid HC
        clear hpk ht
        go_wp2_with fail
        refine HC.out.mono ?_
        rintro e w4 ⟨rfl, b4⟩
        have B4 := Lib.hid (HB.out.trans (b4.mono HB.out.size))
        clear b4
        go_wp2
        go_ret
        exact ⟨_, rfl, HX.out, B4.out⟩
      | false =>
        have HA' : Hid (∀ j, j < k + 1 → p (gk ts j) = false) := Lib.hid (fun j hj => by
          by_cases e : j = k
          · rw [e, ht]; exact hpk
          · exact HA.out j (by omega))
        rw [hpk] at HC
        have HC := Lib.hid HC
        clear hpk ht
        go_wp2_with fail
        refine HC.out.mono ?_
        rintro e w4 ⟨rfl, b4⟩
        have B4 := Lib.hid (HB.out.trans (b4.mono HB.out.size))
        clear b4
        go_wp2
        go_roundw
        case rel => exact ⟨k + 1, by omega, by go_num, HA', B4⟩
        case measure => simp [intOf]; omega
    · obtain rfl : k = ts.length := by omega
      have HX : Hid (IxK ts p (-1)) := Lib.hid (.inl ⟨rfl, HA.out⟩)
      go_wp2
      go_ret
      exact ⟨_, rfl, HX.out, HB.out⟩

end Go.Proofs.YtdgphhdkeikbaaaDoor
