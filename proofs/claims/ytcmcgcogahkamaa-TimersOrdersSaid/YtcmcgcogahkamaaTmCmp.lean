/-
  What the program's compare, keyOf and isOf of timers return, and the place of an added timer.
-/
import Derived.Test.YtcmcgcogahkamaaTmDev
namespace Go.Proofs.Ytcmcgcogahkamaa
open Go.RowKit

theorem two_boxes (w : World) (a b c x y z : Int) : ((w.alloc (.cells #[.int .i64 a, .int .i64 b, .int .i64 c] TT)).alloc (.cells #[.int .i64 x, .int .i64 y, .int .i64 z] TT)).drew.cell? ⟨w.heap.size, 0, none⟩ = some (.int .i64 a) ∧ ((w.alloc (.cells #[.int .i64 a, .int .i64 b, .int .i64 c] TT)).alloc (.cells #[.int .i64 x, .int .i64 y, .int .i64 z] TT)).drew.cell? ⟨w.heap.size, 1, none⟩ = some (.int .i64 b) ∧ ((w.alloc (.cells #[.int .i64 a, .int .i64 b, .int .i64 c] TT)).alloc (.cells #[.int .i64 x, .int .i64 y, .int .i64 z] TT)).drew.cell? ⟨w.heap.size, 2, none⟩ = some (.int .i64 c) ∧
    ((w.alloc (.cells #[.int .i64 a, .int .i64 b, .int .i64 c] TT)).alloc (.cells #[.int .i64 x, .int .i64 y, .int .i64 z] TT)).drew.cell? ⟨w.heap.size + 1, 0, none⟩ = some (.int .i64 x) ∧ ((w.alloc (.cells #[.int .i64 a, .int .i64 b, .int .i64 c] TT)).alloc (.cells #[.int .i64 x, .int .i64 y, .int .i64 z] TT)).drew.cell? ⟨w.heap.size + 1, 1, none⟩ = some (.int .i64 y) ∧ ((w.alloc (.cells #[.int .i64 a, .int .i64 b, .int .i64 c] TT)).alloc (.cells #[.int .i64 x, .int .i64 y, .int .i64 z] TT)).drew.cell? ⟨w.heap.size + 1, 2, none⟩ = some (.int .i64 z) := by
  refine ⟨?_, ?_, ?_, ?_, ?_, ?_⟩ <;> go_simp

set_option maxHeartbeats 1000000 in
/-- compare. -/
theorem tCompare_any (a b c x y z : Int) (w : World) : Calls Try.prog 45 #[tmA (a, b, c), tmA (x, y, z)] w fun e w' => e = .returned (.int .i64 (cmpT (a, b, c) (x, y, z))) ∧ Below w.heap.size w w' := by
  unfold tmA encT cmpT
  dsimp only
  have HC : Hid (∀ (a b : Int) (W : World), Calls Try.prog 61 #[.int .i64 a, .int .i64 b] W fun e w' => e = .returned (.int .i64 (cmp1 a b)) ∧ w' = W) := Lib.hid (fun a b W => (cmp1_any a b W).mono fun e w' h => ⟨h.1, h.2.symm⟩)
  obtain ⟨u1, h1⟩ : ∃ u, cmp1 a x = u := ⟨_, rfl⟩
  obtain ⟨u2, h2⟩ : ∃ u, cmp1 b y = u := ⟨_, rfl⟩
  obtain ⟨u3, h3⟩ : ∃ u, cmp1 c z = u := ⟨_, rfl⟩
  have C1 := fun W => HC.out a x W
  have C2 := fun W => HC.out b y W
  have C3 := fun W => HC.out c z W
  rw [h1] at C1 ⊢
  rw [h2] at C2 ⊢
  rw [h3] at C3 ⊢
  have C1 := Lib.hid C1
  have C2 := Lib.hid C2
  have C3 := Lib.hid C3
  clear h1 h2 h3 HC
  go_enter Try.func45, Try.ntmps45
  go_wp2_with fail
  refine wp_region_still_tail 15 (by kernel_rfl) (by kernel_rfl) ?_
  obtain ⟨w2, hw2⟩ : ∃ W, ((w.alloc (.cells #[.int .i64 a, .int .i64 b, .int .i64 c] TT)).alloc (.cells #[.int .i64 x, .int .i64 y, .int .i64 z] TT)).drew = W := ⟨_, rfl⟩
  change wpStill _ _ ((w.alloc (.cells #[.int .i64 a, .int .i64 b, .int .i64 c] TT)).alloc (.cells #[.int .i64 x, .int .i64 y, .int .i64 z] TT)).drew (fun a' => wpList _ _ _ _ a' ((w.alloc (.cells #[.int .i64 a, .int .i64 b, .int .i64 c] TT)).alloc (.cells #[.int .i64 x, .int .i64 y, .int .i64 z] TT)).drew) _ _
  have hB6 := two_boxes w a b c x y z
  have hb : Below w.heap.size w w2 := by rw [← hw2]; exact (((Below.refl _ w).alloc (Nat.le_refl _) _).alloc (by simp) _).drew
  rw [hw2] at hB6 ⊢
  obtain ⟨p0, p1, p2, q0, q1, q2⟩ := hB6
  have HB := Lib.hid hb
  have hz : w.heap.size ≤ w2.heap.size := hb.size
  have HZ := Lib.hid hz
  clear hb hw2 hz
  simp only [List.take_succ_cons, List.take_zero, List.drop_succ_cons, List.drop_zero]
  repeat still_step
  still_call (C1.out _)
  repeat still_step
  still_call (C2.out _)
  repeat still_step
  still_call (C3.out _)
  repeat still_step
  refine wpStill_nil ?_
  go_wp2_with fail
  refine (or3_any u1 u2 u3 _ _ ?_ ?_ ?_).mono ?_
  · go_simp
  · go_simp
  · go_simp
  rintro e w4 ⟨rfl, rfl⟩
  go_wp2
  go_ret
  exact ⟨rfl, HB.out.alloc HZ.out _⟩

/-- keyOf. -/
theorem tKeyOf_any (a b c : Int) (w : World) : Calls Try.prog 39 #[tmA (a, b, c)] w fun e w' => e = .returned (.agg #[.int .i64 b, .int .i64 c]) ∧ Below w.heap.size w w' := by
  unfold tmA encT
  dsimp only
  go_enter Try.func39, Try.ntmps39
  go_wp2
  refine bodyPost_ret (v := .agg #[.int .i64 b, .int .i64 c]) ?_ rfl ⟨rfl, ?_⟩
  · simp [results, Try.results39, go_sem]
  · exact ((Below.refl _ w).alloc (Nat.le_refl _) _).alloc (by simp) _

end Go.Proofs.Ytcmcgcogahkamaa
