/-
  What the closures of TimersLast and TimersOrders answer: whether two timers have the same key.
-/
import Derived.Test.YtcmcgcogahkamaaHeldTop
import Derived.Test.YtcmcgcogahkamaaTmPred
namespace Go.Proofs.Ytcmcgcogahkamaa
open Go.RowKit Go.Shelf

set_option maxRecDepth 100000 in
set_option maxHeartbeats 4000000 in
theorem last1_pred (g : Nat) (x y z : Int) (w : World) (h : w.cell? ⟨g, 0, none⟩ = some (.int .i64 x) ∧ w.cell? ⟨g, 1, none⟩ = some (.int .i64 y) ∧ w.cell? ⟨g, 2, none⟩ = some (.int .i64 z)) : PredT 28 #[] #[.pointer (some ⟨g, 0, none⟩)] (fun t => keyB t y z) w := by
  intro a b c W hB
  obtain ⟨W1, hW1⟩ : ∃ X, W.alloc (.cells #[.int .i64 a, .int .i64 b, .int .i64 c] TT) = X := ⟨_, rfl⟩
  have hb0 : Below W.heap.size W W1 := by rw [← hW1]; exact (Below.refl _ _).alloc (Nat.le_refl _) _
  have hx : W1.cell? ⟨W.heap.size, 0, none⟩ = some (.int .i64 a) ∧ W1.cell? ⟨W.heap.size, 1, none⟩ = some (.int .i64 b) ∧ W1.cell? ⟨W.heap.size, 2, none⟩ = some (.int .i64 c) := by rw [← hW1]; exact box3 W a b c
  have hy := keep3 (keep3 h hB) hb0
  have hq : ∀ V : World, (binOp .eql TT (.agg #[.int .i64 0, .int .i64 b, .int .i64 c]) (.agg #[.int .i64 0, .int .i64 y, .int .i64 z])).run Try.prog V = .ok (.bool (keyB (a, b, c) y z)) V := fun V => by
    rw [run_eqT, sameT_eq]
    congr 2
    rw [Bool.eq_iff_iff, decide_eq_true_eq, keyB_iff]
    simp
  have HQ := Lib.hid hq
  have HW1 := Lib.hid hW1
  obtain ⟨W0, hW0⟩ : ∃ X, W1.drew = X := ⟨_, rfl⟩
  have hd : Below W1.heap.size W1 W0 := by rw [← hW0]; exact (Below.refl _ _).drew
  have HX := Lib.hid (keep3 hx hd)
  have HY := Lib.hid (keep3 hy hd)
  have HB0 := Lib.hid (hb0.trans (hd.mono hb0.size))
  have HSB : Hid (∀ V, Below W0.heap.size W0 V → (V.cell? ⟨W.heap.size, 0, none⟩ = some (.int .i64 a) ∧ V.cell? ⟨W.heap.size, 1, none⟩ = some (.int .i64 b) ∧ V.cell? ⟨W.heap.size, 2, none⟩ = some (.int .i64 c)) ∧ (V.cell? ⟨g, 0, none⟩ = some (.int .i64 x) ∧ V.cell? ⟨g, 1, none⟩ = some (.int .i64 y) ∧ V.cell? ⟨g, 2, none⟩ = some (.int .i64 z))) := Lib.hid (fun V hV => ⟨keep3 HX.out hV, keep3 HY.out hV⟩)
  have HW0 := Lib.hid hW0
  obtain ⟨KB, hKB⟩ : ∃ X, keyB (a, b, c) y z = X := ⟨_, rfl⟩
  rw [hKB] at HQ
  have HKB := Lib.hid hKB
  clear hB hb0 hx hy hq hW1 hd hW0 h hKB
  go_enter Try.func28, Try.ntmps28
  go_wp2_with fail
  refine wp_region_held (S := fun V => (V.cell? ⟨W.heap.size, 0, none⟩ = some (.int .i64 a) ∧ V.cell? ⟨W.heap.size, 1, none⟩ = some (.int .i64 b) ∧ V.cell? ⟨W.heap.size, 2, none⟩ = some (.int .i64 c)) ∧ (V.cell? ⟨g, 0, none⟩ = some (.int .i64 x) ∧ V.cell? ⟨g, 1, none⟩ = some (.int .i64 y) ∧ V.cell? ⟨g, 2, none⟩ = some (.int .i64 z))) (by kernel_rfl) ?_
  rw [HW1.out]
  change wpAnyH _ _ _ _ _ _ _ _ W1.drew
  rw [HW0.out]
  have HS0 := Lib.hid (HSB.out _ (Below.refl _ _))
  refine wpAnyH_read (i := 0) (v := .agg #[.int .i64 a, .int .i64 b, .int .i64 c]) rfl (by kernel_rfl) (by kernel_rfl) (by kernel_rfl) (fun _ _ _ h => h) (by rfl) ?_ HS0.out ?_
  · rintro w' ⟨⟨h1, h2, h3⟩, -⟩
    go_simp
  simp only [Act.put, List.setIfInBounds_toArray, List.set_cons_zero, List.set_cons_succ]
  refine wpAnyH_read (i := 2) (v := .agg #[.int .i64 x, .int .i64 y, .int .i64 z]) rfl (by kernel_rfl) (by kernel_rfl) (by kernel_rfl) (fun _ _ _ h => h) (by rfl) ?_ HS0.out ?_
  · rintro w' ⟨-, h1, h2, h3⟩
    go_simp
  simp only [Act.put, List.setIfInBounds_toArray, List.set_cons_zero, List.set_cons_succ]
  refine wpAnyH_next (i := 1) rfl (by kernel_rfl) ?_
  have hK1 := Lib.hid (key_any a b c W0)
  go_wp2_with fail
  refine hK1.out.mono ?_
  rintro e w1 ⟨rfl, b1⟩
  have HB1 : Hid (Below W0.heap.size W0 w1) := Lib.hid (b1)
  clear b1
  go_wp2_with fail
  refine ⟨HSB.out _ HB1.out, ?_⟩
  refine wpAnyH_next (i := 3) rfl (by kernel_rfl) ?_
  have hK2 := Lib.hid (key_any x y z w1)
  go_wp2_with fail
  refine hK2.out.mono ?_
  rintro e w2 ⟨rfl, b2⟩
  have HBL : Hid (Below W0.heap.size W0 w2) := Lib.hid (HB1.out.trans (b2.mono HB1.out.size))
  clear b2
  go_wp2_with fail
  refine ⟨HSB.out _ HBL.out, ?_⟩
  refine wpAnyH_read (i := 4) (v := .bool KB) rfl (by kernel_rfl) (by kernel_rfl) (by kernel_rfl) (fun _ _ _ h => h) (by rfl) ?_ (HSB.out _ HBL.out) ?_
  · rintro V -
    have h4 := HQ.out V
    have h5 := run_eqGuard_agg (P := Try.prog) (w := V) .eql TT (.tmp 5) (.tmp 7) #[.int .i64 0, .int .i64 b, .int .i64 c] #[.int .i64 0, .int .i64 y, .int .i64 z] (by kernel_rfl)
    simp only [TT] at h4 h5
    simp [execOp, h4, h5, Act.eval, Result.andThen]
  simp only [Act.put, List.setIfInBounds_toArray, List.set_cons_zero, List.set_cons_succ]
  refine wpAnyH_next (i := 5) rfl (by kernel_rfl) ?_
  go_wp2_with fail
  refine ⟨HSB.out _ HBL.out, ?_⟩
  refine wpAnyH_done (by kernel_rfl) ?_ _
  go_wp2
  go_ret
  exact ⟨by rw [← HKB.out]; rfl, HB0.out.trans (HBL.out.mono HB0.out.size)⟩

set_option maxRecDepth 100000 in
set_option maxHeartbeats 4000000 in
theorem orders1_pred (g : Nat) (x y z : Int) (w : World) (h : w.cell? ⟨g, 0, none⟩ = some (.int .i64 x) ∧ w.cell? ⟨g, 1, none⟩ = some (.int .i64 y) ∧ w.cell? ⟨g, 2, none⟩ = some (.int .i64 z)) : PredT 31 #[] #[.pointer (some ⟨g, 0, none⟩)] (fun t => keyB t y z) w := by
  intro a b c W hB
  obtain ⟨W1, hW1⟩ : ∃ X, W.alloc (.cells #[.int .i64 a, .int .i64 b, .int .i64 c] TT) = X := ⟨_, rfl⟩
  have hb0 : Below W.heap.size W W1 := by rw [← hW1]; exact (Below.refl _ _).alloc (Nat.le_refl _) _
  have hx : W1.cell? ⟨W.heap.size, 0, none⟩ = some (.int .i64 a) ∧ W1.cell? ⟨W.heap.size, 1, none⟩ = some (.int .i64 b) ∧ W1.cell? ⟨W.heap.size, 2, none⟩ = some (.int .i64 c) := by rw [← hW1]; exact box3 W a b c
  have hy := keep3 (keep3 h hB) hb0
  have hq : ∀ V : World, (binOp .eql TT (.agg #[.int .i64 0, .int .i64 b, .int .i64 c]) (.agg #[.int .i64 0, .int .i64 y, .int .i64 z])).run Try.prog V = .ok (.bool (keyB (a, b, c) y z)) V := fun V => by
    rw [run_eqT, sameT_eq]
    congr 2
    rw [Bool.eq_iff_iff, decide_eq_true_eq, keyB_iff]
    simp
  have HQ := Lib.hid hq
  have HW1 := Lib.hid hW1
  obtain ⟨W0, hW0⟩ : ∃ X, W1.drew = X := ⟨_, rfl⟩
  have hd : Below W1.heap.size W1 W0 := by rw [← hW0]; exact (Below.refl _ _).drew
  have HX := Lib.hid (keep3 hx hd)
  have HY := Lib.hid (keep3 hy hd)
  have HB0 := Lib.hid (hb0.trans (hd.mono hb0.size))
  have HSB : Hid (∀ V, Below W0.heap.size W0 V → (V.cell? ⟨W.heap.size, 0, none⟩ = some (.int .i64 a) ∧ V.cell? ⟨W.heap.size, 1, none⟩ = some (.int .i64 b) ∧ V.cell? ⟨W.heap.size, 2, none⟩ = some (.int .i64 c)) ∧ (V.cell? ⟨g, 0, none⟩ = some (.int .i64 x) ∧ V.cell? ⟨g, 1, none⟩ = some (.int .i64 y) ∧ V.cell? ⟨g, 2, none⟩ = some (.int .i64 z))) := Lib.hid (fun V hV => ⟨keep3 HX.out hV, keep3 HY.out hV⟩)
  have HW0 := Lib.hid hW0
  obtain ⟨KB, hKB⟩ : ∃ X, keyB (a, b, c) y z = X := ⟨_, rfl⟩
  rw [hKB] at HQ
  have HKB := Lib.hid hKB
  clear hB hb0 hx hy hq hW1 hd hW0 h hKB
  go_enter Try.func31, Try.ntmps31
  go_wp2_with fail
  refine wp_region_held (S := fun V => (V.cell? ⟨W.heap.size, 0, none⟩ = some (.int .i64 a) ∧ V.cell? ⟨W.heap.size, 1, none⟩ = some (.int .i64 b) ∧ V.cell? ⟨W.heap.size, 2, none⟩ = some (.int .i64 c)) ∧ (V.cell? ⟨g, 0, none⟩ = some (.int .i64 x) ∧ V.cell? ⟨g, 1, none⟩ = some (.int .i64 y) ∧ V.cell? ⟨g, 2, none⟩ = some (.int .i64 z))) (by kernel_rfl) ?_
  rw [HW1.out]
  change wpAnyH _ _ _ _ _ _ _ _ W1.drew
  rw [HW0.out]
  have HS0 := Lib.hid (HSB.out _ (Below.refl _ _))
  refine wpAnyH_read (i := 0) (v := .agg #[.int .i64 a, .int .i64 b, .int .i64 c]) rfl (by kernel_rfl) (by kernel_rfl) (by kernel_rfl) (fun _ _ _ h => h) (by rfl) ?_ HS0.out ?_
  · rintro w' ⟨⟨h1, h2, h3⟩, -⟩
    go_simp
  simp only [Act.put, List.setIfInBounds_toArray, List.set_cons_zero, List.set_cons_succ]
  refine wpAnyH_read (i := 2) (v := .agg #[.int .i64 x, .int .i64 y, .int .i64 z]) rfl (by kernel_rfl) (by kernel_rfl) (by kernel_rfl) (fun _ _ _ h => h) (by rfl) ?_ HS0.out ?_
  · rintro w' ⟨-, h1, h2, h3⟩
    go_simp
  simp only [Act.put, List.setIfInBounds_toArray, List.set_cons_zero, List.set_cons_succ]
  refine wpAnyH_next (i := 1) rfl (by kernel_rfl) ?_
  have hK1 := Lib.hid (key_any a b c W0)
  go_wp2_with fail
  refine hK1.out.mono ?_
  rintro e w1 ⟨rfl, b1⟩
  have HB1 : Hid (Below W0.heap.size W0 w1) := Lib.hid (b1)
  clear b1
  go_wp2_with fail
  refine ⟨HSB.out _ HB1.out, ?_⟩
  refine wpAnyH_next (i := 3) rfl (by kernel_rfl) ?_
  have hK2 := Lib.hid (key_any x y z w1)
  go_wp2_with fail
  refine hK2.out.mono ?_
  rintro e w2 ⟨rfl, b2⟩
  have HBL : Hid (Below W0.heap.size W0 w2) := Lib.hid (HB1.out.trans (b2.mono HB1.out.size))
  clear b2
  go_wp2_with fail
  refine ⟨HSB.out _ HBL.out, ?_⟩
  refine wpAnyH_read (i := 4) (v := .bool KB) rfl (by kernel_rfl) (by kernel_rfl) (by kernel_rfl) (fun _ _ _ h => h) (by rfl) ?_ (HSB.out _ HBL.out) ?_
  · rintro V -
    have h4 := HQ.out V
    have h5 := run_eqGuard_agg (P := Try.prog) (w := V) .eql TT (.tmp 5) (.tmp 7) #[.int .i64 0, .int .i64 b, .int .i64 c] #[.int .i64 0, .int .i64 y, .int .i64 z] (by kernel_rfl)
    simp only [TT] at h4 h5
    simp [execOp, h4, h5, Act.eval, Result.andThen]
  simp only [Act.put, List.setIfInBounds_toArray, List.set_cons_zero, List.set_cons_succ]
  refine wpAnyH_next (i := 5) rfl (by kernel_rfl) ?_
  go_wp2_with fail
  refine ⟨HSB.out _ HBL.out, ?_⟩
  refine wpAnyH_done (by kernel_rfl) ?_ _
  go_wp2
  go_ret
  exact ⟨by rw [← HKB.out]; rfl, HB0.out.trans (HBL.out.mono HB0.out.size)⟩

end Go.Proofs.Ytcmcgcogahkamaa
