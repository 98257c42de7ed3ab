/-
  The program's Tokens and Position.
-/
import Derived.Test.YtdgphhdkeikbaaaDoorLxDiv
namespace Go.Proofs.YtdgphhdkeikbaaaDoor
set_option linter.unusedSimpArgs false
set_option linter.unusedVariables false
open Go.RowKit

structure LxV (w : World) : Prop where
  er : ErV w
  sg : SgV w
theorem LxV.below {w w' : World} {B : Nat} (h : LxV w) (hb : Below B w w') (hB : w.heap.size ≤ B) : LxV w' := ⟨h.er.below hb (Nat.lt_of_lt_of_le h.er.lt hB), h.sg.below hb (Nat.lt_of_lt_of_le (h.sg.lt) hB)⟩
theorem Tokens_any (s : ByteArray) (w : World) (hs : s.size ≤ 9223372036854775807) (hv : LxV w) :
    Calls Tryd.prog 17 #[.string s] w fun x w' => ∃ v, x = .returned (.tuple #[v, .int .i64 ((lexT s).2.1 : Nat), .int .i64 (lexT s).2.2]) ∧ LkC (fun b => w.heap.size ≤ b) w' v (lexT s).1 ∧ Below w.heap.size w w' := by
  by_cases h : 4000 < s.size
  · have hL : lexT s = ([], 0, 4) := by unfold lexT; rw [if_pos h]
    have h1 : (4000 : Int) < (s.size : Int) := by omega
    rw [hL]
    clear h
    go_enter Tryd.func17, Tryd.ntmps17
    go_wp2
    go_ret3
    exact ⟨_, rfl, ⟨none, 0, rfl, Nat.zero_le _, by decide, fun j hj => absurd hj (by simp), fun j hj => absurd hj (by simp)⟩, Below.refl _ _⟩
  · have hL : lexT s = lexL s.data.toList := by unfold lexT; rw [if_neg h]
    have h1 : ¬ (4000 : Int) < (s.size : Int) := by omega
    have HD := Lib.hid (divide_any s w (by omega) hv.er hv.sg)
    rw [hL]
    clear h
    go_enter Tryd.func17, Tryd.ntmps17
    go_wp2_with fail
    refine HD.out.mono ?_
    rintro x w' ⟨v, rfl, hk, hb⟩
    obtain ⟨a, c, rfl, hh⟩ := hk
    have HK := Lib.hid hh
    have HB := Lib.hid hb
    clear hh hb
    go_wp2
    go_ret3
    exact ⟨_, rfl, ⟨a, c, rfl, HK.out⟩, HB.out⟩

/-! ### Position -/
def posL (l : LBy) : Int × Int := l.foldl (fun p c => if c = 10 then (p.1 + 1, 1) else (p.1, p.2 + 1)) (1, 1)
def posF (s : ByteArray) (at_ : Int) : Int × Int := if 0 ≤ at_ ∧ at_ ≤ s.size then posL (s.data.toList.take at_.toNat) else (0, 0)
theorem posL_snoc (l : LBy) (c : UInt8) : posL (l ++ [c]) = if c = 10 then ((posL l).1 + 1, 1) else ((posL l).1, (posL l).2 + 1) := by
  unfold posL
  rw [List.foldl_append]
  rfl
end Go.Proofs.YtdgphhdkeikbaaaDoor
