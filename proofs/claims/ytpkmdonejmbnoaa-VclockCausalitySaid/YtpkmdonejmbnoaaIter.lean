/-
  codec's digits, inRange, intBytes and the iterator that it returns: the bytes of an integer's encoding, one by one.
-/
import Derived.RangeFuncNested
import Derived.RangeFuncBound
import Derived.RangeFuncCalls
import Derived.RangeFuncLeaves
import Derived.Shelf.Abstract
import Derived.Shelf.RegionOpen
import Derived.WalkKit
import Derived.OwnWalkIn
import Derived.TacticsInMore
import Derived.LoopNIn
import Derived.LoopIn
import Derived.Outline
import Derived.Test.YtpkmdonejmbnoaaBase
namespace Go.Proofs.Ytpkmdonejmbnoaa
open Go.RowKit Go.Shelf
attribute [local go_sem] Oper.semAt_some

theorem digits_any (m : Nat) (w : World) (h : m ≤ 18446744073709551615) :
    Calls Try.prog 75 #[.int .u64 (m : Int)] w fun e w' => e = .returned (.int .i64 ((mag m).length : Int)) ∧ w = w' := by
  have hl := mag8 h
  have hb : Lib.bitLen m ≤ 64 := bitLenAux_le 64 64 m (by omega)
  have hd := Lib.hid (digits_eq m h)
  go_enter Try.func75, Try.ntmps75
  go_wp2_with (go_at_call 78; refine (Try.bits_Len64 _ _ (by omega) (by omega)).mono ?_; rintro e w' ⟨rfl, rfl⟩)
  go_ret
  refine ⟨?_, rfl⟩
  rw [← hd.out]
  simp

theorem inRange_any (n : Int) (w : World) :
    Calls Try.prog 61 #[.int .i64 n] w fun e w' => e = .returned (.bool (decide (InR n))) ∧ w = w' := by
  by_cases h1 : -4611686018427387904 ≤ n
  · by_cases h2 : n ≤ 4611686018427387904
    · have hd : decide (InR n) = true := by simp [InR, h1, h2]
      rw [hd]
      clear hd
      go_enter Try.func61, Try.ntmps61
      go_wp2
      go_ret
      exact ⟨rfl, rfl⟩
    · have hd : decide (InR n) = false := by simp [InR, h2]
      rw [hd]
      clear hd
      go_enter Try.func61, Try.ntmps61
      go_wp2
      go_ret
      exact ⟨rfl, rfl⟩
  · have hd : decide (InR n) = false := by simp [InR, h1]
    rw [hd]
    clear hd
    go_enter Try.func61, Try.ntmps61
    go_wp2
    go_ret
    exact ⟨rfl, rfl⟩

end Go.Proofs.Ytpkmdonejmbnoaa
