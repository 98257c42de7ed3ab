/-
  The examples of the chapter checksum hold: awake returns true.
-/
import Derived.Test.YtoffacjefnmmmaaRefFrame
namespace Go.Proofs.Ytoffacjefnmmmaa
open Go.RowKit

theorem sum_at (l : List UInt8) (n : Nat) (s : ByteArray) (hs : s.data.toList = l) (h : sumN l = n) (hl : s.size ≤ 9223372036854775807) (w : World) :
    Calls Try.prog 18 #[.string s] w fun e w' => e = .returned (.int .i64 (n : Int)) ∧ Below w.heap.size w w' := by
  have := sum_any s hl w
  rw [hs, h] at this
  exact this
theorem frame_empty : frameL [] = [128, 0, 129, 0, 129] := by
  have h : headL [] = [128] := by
    unfold headL encInt magOf invOf
    simp only [List.length_nil]
    unfold encM
    simp only [Int.natCast_zero, Int.lt_irrefl, if_false, Int.toNat_zero]
    rw [mag_zero]
    decide
  unfold frameL protL
  rw [h]
  decide
theorem seal_at (w : World) :
    Calls Try.prog 20 #[.string ⟨#[]⟩] w fun e w' => e = .returned (.tuple #[.string ⟨#[128, 0, 129, 0, 129]⟩, .int .i64 0]) ∧ Below w.heap.size w w' := by
  have := seal_small ⟨#[]⟩ (by decide) w
  rw [frame_empty] at this
  exact this

set_option maxHeartbeats 1000000 in
theorem awake_any (w : World) :
    Calls Try.prog 13 #[] w fun e w' => e = .returned (.bool true) ∧ Below w.heap.size w w' := by
  have H1 := Lib.hid (sum_at [] 1 ⟨#[]⟩ rfl (by decide) (by decide))
  have H2 := Lib.hid (sum_at [97] 6422626 ⟨#[97]⟩ rfl (by decide) (by decide))
  have H3 := Lib.hid (sum_at [97, 98] 19267780 ⟨#[97, 98]⟩ rfl (by decide) (by decide))
  go_enter Try.func13, Try.ntmps13
  go_wp2_with fail
  refine (seal_at _).mono ?_
  rintro e w1 ⟨rfl, b1⟩
  have s1 := b1.size
  go_wp2_with fail
  refine (H1.out _).mono ?_
  rintro e w2 ⟨rfl, b2⟩
  have c2 := b1.trans (b2.mono s1)
  have s2 := c2.size
  go_wp2_with fail
  refine (H2.out _).mono ?_
  rintro e w3 ⟨rfl, b3⟩
  have c3 := c2.trans (b3.mono s2)
  have s3 := c3.size
  go_wp2_with fail
  refine (H3.out _).mono ?_
  rintro e w4 ⟨rfl, b4⟩
  have c4 := c3.trans (b4.mono s3)
  go_wp2
  go_ret
  exact ⟨rfl, c4⟩

/-! ### For the laws' frames -/

theorem strOf_nil : strOf [] = ⟨#[]⟩ := rfl
theorem size_in {a : ByteArray} (h : a.size ≤ maxLen) : a.size ≤ 9223372036854775807 := by unfold maxLen at h; exact Nat.le_trans h (by decide)
theorem wf_i64 {a : Int} (h : (Lit.int .i64 a).wf = true) : -9223372036854775808 ≤ a ∧ a ≤ 9223372036854775807 := by
  simp [Lit.wf] at h
  exact h
theorem wf_u16 {a : Int} (h : (Lit.int .u16 a).wf = true) : ∃ m : Nat, a = (m : Int) ∧ m ≤ 65535 := by
  simp [Lit.wf] at h
  have e1 : IntKind.u16.min = 0 := by decide
  have e2 : IntKind.u16.max = 65535 := by decide
  exact ⟨a.toNat, by omega, by omega⟩
theorem wf_u8 {a : Int} (h : (Lit.int .u8 a).wf = true) : ∃ c : UInt8, a = (c.toNat : Int) := by
  simp [Lit.wf] at h
  have e1 : IntKind.u8.min = 0 := by decide
  have e2 : IntKind.u8.max = 255 := by decide
  exact ⟨UInt8.ofNat a.toNat, by rw [ofNat_toNat_lt (by omega)]; omega⟩

end Go.Proofs.Ytoffacjefnmmmaa
