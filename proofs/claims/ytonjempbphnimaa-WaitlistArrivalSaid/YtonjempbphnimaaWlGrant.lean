/-
  What the program's Grant of waiters returns.
-/
import Derived.OwnWalk
import Derived.Test.YtonjempbphnimaaWlGr
namespace Go.Proofs.Ytonjempbphnimaa
open Go.RowKit Go.Shelf

set_option maxRecDepth 100000 in
set_option maxHeartbeats 2000000 in
theorem wGrant_any (v : Value) (ts : List Wl) (u : Int) (skip : Bool) (w : World) (hK : KwC w v ts) (hl : ts.length ≤ 1000) (hu : -9223372036854775808 ≤ u ∧ u ≤ 9223372036854775807) :
    Calls Try.prog 20 #[v, .int .i64 u, .bool skip] w fun e w' => ∃ x y, e = .returned (.tuple #[x, y, .int .i64 (grN skip u ts)]) ∧ FwC w.heap.size w' x (grG skip u ts) ∧ FwC w.heap.size w' y (grO skip u ts) ∧ Below w.heap.size w w' := by
  obtain ⟨ad, cap, rfl, hc1, hc2, hA⟩ := hK.all
  obtain ⟨w1, hw1⟩ : ∃ W, w.alloc (.cells #[.bool skip] 4) = W := ⟨_, rfl⟩
  obtain ⟨w2, hw2⟩ : ∃ W, w1.alloc (.cells #[.int .i64 u] 3) = W := ⟨_, rfl⟩
  obtain ⟨w3, hw3⟩ : ∃ W, w2.alloc (.cells #[.bool false] 4) = W := ⟨_, rfl⟩
  have hs1 : w1.heap.size = w.heap.size + 1 := by rw [← hw1]; simp
  have hs2 : w2.heap.size = w.heap.size + 2 := by rw [← hw2]; simp [hs1]
  have hs3 : w3.heap.size = w.heap.size + 3 := by rw [← hw3]; simp [hs2]
  have g1 : Boxed w1 w.heap.size 4 (.bool skip) := by rw [← hw1]; exact Boxed.new _ _ _
  have g2 : Boxed w2 (w.heap.size + 1) 3 (.int .i64 u) := by rw [← hw2, ← hs1]; exact Boxed.new _ _ _
  have g3 : Boxed w3 (w.heap.size + 2) 4 (.bool false) := by rw [← hw3, ← hs2]; exact Boxed.new _ _ _
  have hB : Below w.heap.size w w3 := by
    rw [← hw3, ← hw2, ← hw1]
    exact (((Below.refl _ w).alloc (Nat.le_refl _) _).alloc (by simp) _).alloc (by simp; omega) _
  have hI0 : GrI w.heap.size skip (grS skip u (ts.take 0)) w3 := by
    refine ⟨?_, ?_, g3⟩
    · rw [← hw3]
      refine Boxed.alloc ?_ _
      rw [← hw2]
      exact Boxed.alloc g1 _
    · rw [← hw3]
      exact Boxed.alloc g2 _
  have hX := split_any (fun b => b < w.heap.size) (GrS w.heap.size) (fun k W => GrI w.heap.size skip (grS skip u (ts.take k)) W) 48 #[] #[.pointer (some ⟨w.heap.size + 2, 0, none⟩), .pointer (some ⟨w.heap.size + 1, 0, none⟩), .pointer (some ⟨w.heap.size, 0, none⟩)] (canN skip u ts) ad cap ts w3 (enters_of Try.func48 (by kernel_rfl) rfl) (hA.below hB) hl (fun b h1 h2 => by have := h2.1; omega) (fun b h => by have := h.2; omega) hI0 (fun k W W' h hk => h.keep hk) (fun k W hk hI hKS a b c d f ht => by
    have h := grant1_any w.heap.size skip (grS skip u (ts.take k)) a b c d f W hI (by have := grS_left skip u (ts.take k); omega)
    refine h.mono ?_
    rintro e W' ⟨rfl, h1, h2⟩
    refine ⟨?_, ?_, h2⟩
    · unfold canN
      rw [ht]
    · rw [grS_succ skip u ts k hk, ht]
      exact h1)
  have HX := Lib.hid hX
  have HB := Lib.hid hB
  have HG := Lib.hid (selN_grant skip u ts ts.length (Nat.le_refl _))
  have HW1 := Lib.hid hw1
  have HW2 := Lib.hid hw2
  have HW3 := Lib.hid hw3
  have HS3 := Lib.hid hs3
  clear hA hX hB hI0 g1 g2 g3 hs1 hs2 hs3 hw1 hw2 hw3
  go_enter Try.func20, Try.ntmps20
  go_wp2_with fail
  rw [HW1.out, HW2.out, HW3.out, show w.heap.size + 1 + 1 = w.heap.size + 2 from rfl]
  refine HX.out.mono ?_
  rintro e w4 ⟨x, y, rfl, fx, fy, hI, hK⟩
  rw [HG.out.1, List.take_length] at fx
  rw [HG.out.2, List.take_length] at fy
  rw [List.take_length] at hI
  have p1 := hI.2.1.cell
  have HB4 := Lib.hid (HB.out.trans (hK.belowN (n := w.heap.size) (by have := HS3.out; omega) (fun b h => h.1)))
  have HFX : Hid (FwC w.heap.size w4 x (grG skip u ts)) := Lib.hid (fx.mono (by have := HS3.out; omega))
  have HFY : Hid (FwC w.heap.size w4 y (grO skip u ts)) := Lib.hid (fy.mono (by have := HS3.out; omega))
  obtain ⟨a1, d1, rfl, -, -, -⟩ := fx
  obtain ⟨a2, d2, rfl, -, -, -⟩ := fy
  clear hI hK
  obtain ⟨L, hL⟩ : ∃ L, (grS skip u ts).2.2.2 = L := ⟨_, rfl⟩
  have HL : Hid (grN skip u ts = L) := Lib.hid hL
  rw [hL] at p1
  generalize (grS skip u ts).1 = G1 at *
  generalize (grS skip u ts).2.1 = G2 at *
  clear hL
  go_wp2_with fail
  go_quiet (fail)
  go_wp2
  go_ret3
  refine ⟨_, _, by rw [HL.out]; rfl, ?_, ?_, ⟨HB4.out.os, HB4.out.tape, HB4.out.output, HB4.out.size, HB4.out.block⟩⟩
  · exact HFX.out.below ⟨rfl, rfl, rfl, Nat.le_refl _, fun _ _ => rfl⟩
  · exact HFY.out.below ⟨rfl, rfl, rfl, Nat.le_refl _, fun _ _ => rfl⟩

end Go.Proofs.Ytonjempbphnimaa
