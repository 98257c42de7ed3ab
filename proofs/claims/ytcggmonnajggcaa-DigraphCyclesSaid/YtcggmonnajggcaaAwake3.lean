/-
  The statements' own examples of digraph hold.
-/
import Derived.Test.YtcggmonnajggcaaDigMine
import Derived.Test.YtcggmonnajggcaaAwakeGraph
import Derived.StillTailTactics
namespace Go.Proofs.Ytcggmonnajggcaa
open Go.RowKit

theorem loop_laid (w : World) : EdgesA (w.heap.size + 1) (w.alloc (.cells #[.int .i64 0, .int .i64 1, .int .i64 1, .int .i64 2, .int .i64 2, .int .i64 0, .int .i64 2, .int .i64 3] TE)) (some ⟨w.heap.size, 0, none⟩) loopE := by
  intro j hj
  match j, hj with
  | 0, _ => exact ⟨w.heap.size, 0, rfl, by omega, by simp [loopE], by simp [loopE]⟩
  | 1, _ => exact ⟨w.heap.size, 0, rfl, by omega, by simp [loopE], by simp [loopE]⟩
  | 2, _ => exact ⟨w.heap.size, 0, rfl, by omega, by simp [loopE], by simp [loopE]⟩
  | 3, _ => exact ⟨w.heap.size, 0, rfl, by omega, by simp [loopE], by simp [loopE]⟩

theorem open_laid (w : World) : EdgesA (w.heap.size + 1) (w.alloc (.cells #[.int .i64 0, .int .i64 1, .int .i64 1, .int .i64 2, .int .i64 2, .int .i64 3] TE)) (some ⟨w.heap.size, 0, none⟩) openE := by
  intro j hj
  match j, hj with
  | 0, _ => exact ⟨w.heap.size, 0, rfl, by omega, by simp [openE], by simp [openE]⟩
  | 1, _ => exact ⟨w.heap.size, 0, rfl, by omega, by simp [openE], by simp [openE]⟩
  | 2, _ => exact ⟨w.heap.size, 0, rfl, by omega, by simp [openE], by simp [openE]⟩
theorem lit_ints (w : World) (l : List Nat) (cs : Array Value) (hc : cs.toList = natV l) (hl : l.length ≤ 10) : IntsA (w.alloc (.cells cs TI)).heap.size (w.alloc (.cells cs TI)) (some ⟨w.heap.size, 0, none⟩) (intsOf l) := by
  have hn : cs.size = l.length := by rw [← Array.length_toList, hc, natV_length]
  have h := ownsRow_new w w.heap.size (Nat.le_refl _) TI cs l.length hn (by unfold maxLen; omega)
  rw [hc] at h
  obtain ⟨a, c, e, hi⟩ := RowN.ints (B := w.heap.size) (l := l) ⟨_, _, rfl, h⟩
  rw [intsOf_length] at e
  cases e
  exact hi
/-- slices.Equal of a result and of a list that has just been laid. -/
theorem eq_lit (w W : World) (v : Value) (l : List Nat) (n : Nat) (cs : Array Value) (hv : Ints w v l) (hW : w.alloc (.cells cs TI) = W) (hc : cs.toList = natV l) (hl : l.length = n) (hn : n ≤ 10) :
    Calls Try.prog 15 #[v, .slice (some ⟨w.heap.size, 0, none⟩) n n] W fun e w' => e = .returned (.bool true) ∧ Below w.heap.size w w' := by
  have hi := lit_ints w l cs hc (by omega)
  have hv2 := hv.below ((Below.refl w.heap.size w).alloc (Nat.le_refl _) (.cells cs TI))
  rw [hW] at hi hv2
  obtain ⟨a, c, rfl, i2, l2⟩ := hv2
  have h := eqInts_any _ _ a (some ⟨w.heap.size, 0, none⟩) c n (intsOf l) (intsOf l) W i2 hi l2 l2
  rw [decide_eq_true rfl] at h
  have e : (intsOf l).length = n := by rw [intsOf_length, hl]
  rw [e] at h ⊢
  refine h.mono ?_
  rintro e w' ⟨rfl, q, rfl⟩
  exact ⟨rfl, below_drewN' (by rw [← hW]; exact (Below.refl _ w).alloc (Nat.le_refl _) _)⟩

theorem lit_lists (w W : World) (hW : ((w.alloc (.cells #[.int .i64 0, .int .i64 1, .int .i64 2] TI)).alloc (.cells #[.int .i64 3] TI)).alloc (.cells #[.slice (some ⟨w.heap.size, 0, none⟩) 3 3, .slice (some ⟨w.heap.size + 1, 0, none⟩) 1 1] TL) = W) :
    ListsA W.heap.size W (some ⟨w.heap.size + 1 + 1, 0, none⟩) (listsOf [[0, 1, 2], [3]]) ∧ Below w.heap.size w W := by
  obtain ⟨w1, hw1⟩ : ∃ w1, w.alloc (.cells #[.int .i64 0, .int .i64 1, .int .i64 2] TI) = w1 := ⟨_, rfl⟩
  obtain ⟨w2, hw2⟩ : ∃ w2, w1.alloc (.cells #[.int .i64 3] TI) = w2 := ⟨_, rfl⟩
  have z1 : w1.heap.size = w.heap.size + 1 := by rw [← hw1]; simp
  have z2 : w2.heap.size = w.heap.size + 1 + 1 := by rw [← hw2]; simp [z1]
  have i0 := lit_ints w [0, 1, 2] #[.int .i64 0, .int .i64 1, .int .i64 2] rfl (by decide)
  have i1 := lit_ints w1 [3] #[.int .i64 3] rfl (by decide)
  rw [hw1] at i0 hW
  rw [hw2] at i1 hW
  have b0 : Below w.heap.size w w1 := by rw [← hw1]; exact (Below.refl _ w).alloc (Nat.le_refl _) _
  have b1 : Below w1.heap.size w1 w2 := by rw [← hw2]; exact (Below.refl _ w1).alloc (Nat.le_refl _) _
  have b2 : Below w2.heap.size w2 W := by rw [← hW]; exact (Below.refl _ w2).alloc (Nat.le_refl _) _
  have j0 := (((i0.below b1).mono b1.size).below b2).mono b2.size
  have j1 := (i1.below b2).mono b2.size
  have c0 : W.cell? ⟨w.heap.size + 1 + 1, 0, none⟩ = some (.slice (some ⟨w.heap.size, 0, none⟩) 3 3) := by rw [← hW, ← z2]; simp
  have c1 : W.cell? ⟨w.heap.size + 1 + 1, 1, none⟩ = some (.slice (some ⟨w.heap.size + 1, 0, none⟩) 1 1) := by rw [← hW, ← z2]; simp
  have zW : w.heap.size + 1 + 1 < W.heap.size := by rw [← hW]; simp [z2]
  refine ⟨fun i hi => ?_, b0.trans ((b1.mono (by omega)).trans (b2.mono (by omega)))⟩
  match i, hi with
  | 0, _ => exact ⟨_, 0, _, 3, rfl, zW, c0, j0, by decide⟩
  | 1, _ => exact ⟨_, 0, _, 1, rfl, zW, c1, by rw [← z1]; exact j1, by decide⟩

set_option maxRecDepth 100000 in
set_option maxHeartbeats 4000000 in
theorem awake_any (w : World) : Calls Try.prog 12 #[] w fun e w' => e = .returned (.bool true) ∧ Below w.heap.size w w' := by
  obtain ⟨w1, hw1⟩ : ∃ w1, w.alloc (.cells #[.int .i64 0, .int .i64 1, .int .i64 1, .int .i64 2, .int .i64 2, .int .i64 0, .int .i64 2, .int .i64 3] TE) = w1 := ⟨_, rfl⟩
  have hE := loop_laid w
  have b1 : Below w.heap.size w w1 := by rw [← hw1]; exact (Below.refl _ w).alloc (Nat.le_refl _) _
  have z1 : w1.heap.size = w.heap.size + 1 := by rw [← hw1]; simp
  rw [hw1, ← z1] at hE
  have HC := myCycle 4 _ 4 loopE w1 hE (by decide) (by decide)
  rw [loop_cycL, loop_cycE, show loopE.length = 4 from rfl] at HC
  have HCY := Lib.hid HC
  have HE := Lib.hid hE
  have HW := Lib.hid hw1
  clear HC hE hw1
  go_enter Try.func12, Try.ntmps12
  go_wp2_with fail
  rw [HW.out]
  refine HCY.out.mono ?_
  rintro e w2 ⟨v2, rfl, k2, b2⟩
  have e2 := HE.out.below b2
  have hb2 : Below w.heap.size w w2 := b1.trans (b2.mono b1.size)
  have p0 : w2.cell? ⟨w.heap.size, 0, none⟩ = some (.int .i64 0) := by obtain ⟨b, o, e, _, h, _⟩ := e2 0 (by decide); cases e; exact h
  have p1 : w2.cell? ⟨w.heap.size, 1, none⟩ = some (.int .i64 1) := by obtain ⟨b, o, e, _, _, h⟩ := e2 0 (by decide); cases e; exact h
  have p2 : w2.cell? ⟨w.heap.size, 2, none⟩ = some (.int .i64 1) := by obtain ⟨b, o, e, _, h, _⟩ := e2 1 (by decide); cases e; exact h
  have p3 : w2.cell? ⟨w.heap.size, 3, none⟩ = some (.int .i64 2) := by obtain ⟨b, o, e, _, _, h⟩ := e2 1 (by decide); cases e; exact h
  have p6 : w2.cell? ⟨w.heap.size, 6, none⟩ = some (.int .i64 2) := by obtain ⟨b, o, e, _, h, _⟩ := e2 3 (by decide); cases e; exact h
  have p7 : w2.cell? ⟨w.heap.size, 7, none⟩ = some (.int .i64 3) := by obtain ⟨b, o, e, _, _, h⟩ := e2 3 (by decide); cases e; exact h
  have K2 := Lib.hid k2
  have B2 := Lib.hid hb2
  have hlt2 : w.heap.size < w2.heap.size := by have := b2.size; omega
  have EE2 : Hid (EdgesA w2.heap.size w2 (some ⟨w.heap.size, 0, none⟩) loopE) := Lib.hid (e2.mono b2.size)
  clear k2 hb2 e2 b2 b1 z1
  go_wp2_with fail
  refine wp_region_still_tail 9 (by kernel_rfl) (by kernel_rfl) ?_
  change wpStill _ _ w2.drew (fun a' => wpList _ _ _ _ a' w2.drew) _ _
  obtain ⟨we, hwe⟩ : ∃ we, w2.drew = we := ⟨_, rfl⟩
  rw [hwe]
  have s0 : we.cell? ⟨w.heap.size, 0, none⟩ = some (.int .i64 0) := by rw [← hwe]; exact p0
  have s1 : we.cell? ⟨w.heap.size, 1, none⟩ = some (.int .i64 1) := by rw [← hwe]; exact p1
  have s2 : we.cell? ⟨w.heap.size, 2, none⟩ = some (.int .i64 1) := by rw [← hwe]; exact p2
  have s3 : we.cell? ⟨w.heap.size, 3, none⟩ = some (.int .i64 2) := by rw [← hwe]; exact p3
  have s6 : we.cell? ⟨w.heap.size, 6, none⟩ = some (.int .i64 2) := by rw [← hwe]; exact p6
  have s7 : we.cell? ⟨w.heap.size, 7, none⟩ = some (.int .i64 3) := by rw [← hwe]; exact p7
  have KE : Hid (Ints we v2 [0, 1, 2]) := Lib.hid (by rw [← hwe]; exact K2.out.below ((Below.refl _ _).drew))
  have BE : Hid (Below w.heap.size w we) := Lib.hid (by rw [← hwe]; exact B2.out.drew)
  have hsz : w.heap.size < we.heap.size := by rw [← hwe]; exact hlt2
  have EE : Hid (EdgesA we.heap.size we (some ⟨w.heap.size, 0, none⟩) loopE) := Lib.hid (by rw [← hwe]; exact EE2.out.below ((Below.refl _ _).drew))
  clear hwe p0 p1 p2 p3 p6 p7
  simp only [List.take_succ_cons, List.take_zero, List.drop_succ_cons, List.drop_zero]
  repeat still_step
  refine wpStill_nil ?_
  clear s0 s1 s2 s3 s6 s7
  obtain ⟨w3, hw3⟩ : ∃ w3, we.alloc (.cells #[.int .i64 0, .int .i64 1, .int .i64 1, .int .i64 2, .int .i64 2, .int .i64 3] TE) = w3 := ⟨_, rfl⟩
  have oe := open_laid we
  have b3 : Below we.heap.size we w3 := by rw [← hw3]; exact (Below.refl _ we).alloc (Nat.le_refl _) _
  have z3 : w3.heap.size = we.heap.size + 1 := by rw [← hw3]; simp
  rw [hw3, ← z3] at oe
  have h4 := myOrder 4 _ 3 openE w3 oe (by decide) (by decide)
  rw [open_ordL, open_ordE, show openE.length = 3 from rfl] at h4
  have H4 := Lib.hid h4
  have OE := Lib.hid oe
  have K3 := Lib.hid (KE.out.below b3)
  have B3 := Lib.hid (BE.out.trans (b3.mono BE.out.size))
  have E3 : Hid (EdgesA w3.heap.size w3 (some ⟨w.heap.size, 0, none⟩) loopE) := Lib.hid ((EE.out.below b3).mono b3.size)
  have HW3 := Lib.hid hw3
  clear h4 oe hw3 z3 b3 KE BE EE K2 B2 EE2 hlt2
  go_wp2_with fail
  rw [HW3.out]
  refine H4.out.mono ?_
  rintro e w4 ⟨v4, rfl, k4, b4⟩
  have h5 := myRanks 4 _ 3 openE w4 ((OE.out.below b4).mono b4.size) (by decide) (by decide)
  rw [open_rankL, open_ordE, show openE.length = 3 from rfl] at h5
  have H5 := Lib.hid h5
  have K4a := Lib.hid (K3.out.below b4)
  have K4 := Lib.hid k4
  have E4 := Lib.hid ((E3.out.below b4).mono b4.size)
  have B4 := Lib.hid (B3.out.trans (b4.mono B3.out.size))
  clear h5 k4 b4
  go_wp2_with fail
  refine H5.out.mono ?_
  rintro e w5 ⟨v5, rfl, k5, b5⟩
  have K5a := Lib.hid (K4a.out.below b5)
  have K5b := Lib.hid (K4.out.below b5)
  have K5 := Lib.hid k5
  have E5 := Lib.hid ((E4.out.below b5).mono b5.size)
  have B5 := Lib.hid (B4.out.trans (b5.mono B4.out.size))
  clear k5 b5
  go_wp2_with fail
  refine (eq_lit w5 _ v2 [0, 1, 2] 3 _ K5a.out rfl rfl rfl (by omega)).mono ?_
  rintro e w6 ⟨rfl, b6⟩
  have K6b := Lib.hid (K5b.out.below b6)
  have K6 := Lib.hid (K5.out.below b6)
  have E6 := Lib.hid ((E5.out.below b6).mono b6.size)
  have B6 := Lib.hid (B5.out.trans (b6.mono B5.out.size))
  clear b6
  go_wp2_with fail
  refine (eq_lit w6 _ v4 [0, 1, 2, 3] 4 _ K6b.out rfl rfl rfl (by omega)).mono ?_
  rintro e w7 ⟨rfl, b7⟩
  have K7 := Lib.hid (K6.out.below b7)
  have E7 := Lib.hid ((E6.out.below b7).mono b7.size)
  have B7 := Lib.hid (B6.out.trans (b7.mono B6.out.size))
  clear b7
  go_wp2_with fail
  refine (eq_lit w7 _ v5 [0, 1, 2, 3] 4 _ K7.out rfl rfl rfl (by omega)).mono ?_
  rintro e w8 ⟨rfl, b8⟩
  have e8 := (E7.out.below b8).mono b8.size
  have B8 := Lib.hid (B7.out.trans (b8.mono B7.out.size))
  have h9 := myComponents 4 _ 4 loopE w8 e8 (by decide) (by decide)
  rw [loop_compL, show loopE.length = 4 from rfl] at h9
  have H9 := Lib.hid h9
  have E8 := Lib.hid e8
  clear h9 e8 b8
  go_wp2_with fail
  refine H9.out.mono ?_
  rintro e w9 ⟨v9, rfl, k9, b9⟩
  have K9 := Lib.hid k9
  have E9 := Lib.hid ((E8.out.below b9).mono b9.size)
  have B9 := Lib.hid (B8.out.trans (b9.mono B8.out.size))
  clear k9 b9
  obtain ⟨w10, hw10⟩ : ∃ W, ((w9.alloc (.cells #[.int .i64 0, .int .i64 1, .int .i64 2] TI)).alloc (.cells #[.int .i64 3] TI)).alloc (.cells #[.slice (some ⟨w9.heap.size, 0, none⟩) 3 3, .slice (some ⟨w9.heap.size + 1, 0, none⟩) 1 1] TL) = W := ⟨_, rfl⟩
  obtain ⟨l10, b10⟩ := lit_lists w9 w10 hw10
  obtain ⟨a9, c9, rfl, i9, m9⟩ := K9.out.below b10
  have h10 := sameLists_any _ _ a9 _ c9 2 _ _ w10 i9 l10 m9 m9
  rw [decide_eq_true rfl] at h10
  have H10 : Hid (Calls Try.prog 18 #[.slice a9 (listsOf [[0, 1, 2], [3]]).length c9, .slice (some ⟨w9.heap.size + 1 + 1, 0, none⟩) 2 2] w10 fun e w' => e = .returned (.bool true) ∧ ∃ q, w' = w10.drewN q) := Lib.hid h10
  have E10 := Lib.hid ((E9.out.below b10).mono b10.size)
  have B10 := Lib.hid (B9.out.trans (b10.mono B9.out.size))
  have HW10 := Lib.hid hw10
  clear hw10 l10 b10 i9 m9 h10
  go_wp2_with fail
  rw [HW10.out]
  refine H10.out.mono ?_
  rintro e w11 ⟨rfl, q, hq⟩
  have b11 : Below w10.heap.size w10 w11 := by rw [hq]; exact below_drewN' (Below.refl _ _)
  have e11 := (E10.out.below b11).mono b11.size
  have h12 := myReach 4 3 _ 4 loopE w11 e11 (by decide) (by decide)
  rw [loop_reachL, show loopE.length = 4 from rfl] at h12
  have H12 := Lib.hid h12
  have B11 := Lib.hid (B10.out.trans (b11.mono B10.out.size))
  clear h12 e11 b11 hq
  go_wp2_with fail
  refine H12.out.mono ?_
  rintro e w12 ⟨v12, rfl, k12, b12⟩
  have K12 := Lib.hid k12
  have B12 := Lib.hid (B11.out.trans (b12.mono B11.out.size))
  clear k12 b12
  go_wp2_with fail
  refine (eq_lit w12 _ v12 [3] 1 _ K12.out rfl rfl rfl (by omega)).mono ?_
  rintro e w13 ⟨rfl, b13⟩
  go_wp2
  go_ret
  exact ⟨rfl, B12.out.trans (b13.mono B12.out.size)⟩

end Go.Proofs.Ytcggmonnajggcaa
