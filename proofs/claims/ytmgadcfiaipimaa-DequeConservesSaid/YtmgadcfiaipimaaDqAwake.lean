/-
  The statements' examples hold.
-/
import Derived.Test.YtmgadcfiaipimaaDqPlay
import Derived.Test.YtmgadcfiaipimaaDqSame
namespace Go.Proofs.Ytmgadcfiaipimaa
open Go.RowKit

theorem kz_lit (W : World) (zs : List Int) (n : Nat) (hn : zs.length = n) (hl : n ≤ 1000) : KZ (W.alloc (.cells (intV zs).toArray TZ)) (.slice (some ⟨W.heap.size, 0, none⟩) n n) zs := by
  subst hn
  refine ⟨some ⟨W.heap.size, 0, none⟩, zs.length, rfl, Nat.le_refl _, by omega, fun j hj => ⟨W.heap.size, 0, rfl, by simp, ?_⟩⟩
  rw [Nat.zero_add, Lib.cell_of_heap (World.alloc_heap_new W _), List.getElem?_toArray, intV_get _ hj]
  rfl
def exO : List (Int × Int) := [(1, 1), (1, 2), (1, 3), (3, 0), (2, 0)]
theorem ke_lit (W : World) : KE (W.alloc (.cells #[.int .i64 1, .int .i64 1, .int .i64 1, .int .i64 2, .int .i64 1, .int .i64 3, .int .i64 3, .int .i64 0, .int .i64 2, .int .i64 0] TE)) (.slice (some ⟨W.heap.size, 0, none⟩) 5 5) exO := by
  refine ⟨some ⟨W.heap.size, 0, none⟩, 5, rfl, by decide, by decide, fun j hj => ⟨W.heap.size, 0, rfl, by simp, ?_⟩⟩
  match j, hj with
  | 0, _ => exact ⟨by simp [exO, ge], by simp [exO, ge]⟩
  | 1, _ => exact ⟨by simp [exO, ge], by simp [exO, ge]⟩
  | 2, _ => exact ⟨by simp [exO, ge], by simp [exO, ge]⟩
  | 3, _ => exact ⟨by simp [exO, ge], by simp [exO, ge]⟩
  | 4, _ => exact ⟨by simp [exO, ge], by simp [exO, ge]⟩
theorem ex_play : playS [] exO = ([2], [1, 3], 0) := by decide +kernel
theorem ex_halfR : halfR [4, 5, 6] = [6] := by decide +kernel
theorem ex_halfU : halfU [4, 5, 6] = [4, 5] := by decide +kernel

set_option maxRecDepth 100000 in
set_option maxHeartbeats 8000000 in
theorem awake_any (w : World) : Calls Try.prog 11 #[] w fun e w' => e = .returned (.bool true) ∧ Below w.heap.size w w' := by
  have HB0 : Hid (Below w.heap.size w w) := Lib.hid (Below.refl _ w)
  obtain ⟨W1, hW1⟩ : ∃ W, w.alloc (.cells #[.int .i64 1, .int .i64 1, .int .i64 1, .int .i64 2, .int .i64 1, .int .i64 3, .int .i64 3, .int .i64 0, .int .i64 2, .int .i64 0] TE) = W := ⟨_, rfl⟩
  have bW1 : Below w.heap.size w W1 := by rw [← hW1]; exact (Below.refl _ _).alloc (Nat.le_refl _) _
  have hE1 : KE W1 (.slice (some ⟨w.heap.size, 0, none⟩) 5 5) exO := by rw [← hW1]; exact ke_lit w
  have HBW1 := Lib.hid bW1
  have hP := play_any (.slice none 0 0) _ [] exO W1 (KzC.nil _ _ _ _ (by decide)) hE1
  unfold RetP at hP
  rw [ex_play] at hP
  have HP := Lib.hid hP
  have HW1 := Lib.hid hW1
  clear hW1 bW1 hE1 hP
  go_enter Try.func11, Try.ntmps11
  go_wp2_with fail
  rw [HW1.out]
  refine HP.out.mono ?_
  rintro e w1 ⟨u1, o1, rfl, k1, l1, b1⟩
  have HB1 := Lib.hid (HBW1.out.trans (b1.mono HBW1.out.size))
  have Ka := Lib.hid k1.kz
  have Kb := Lib.hid l1.kz
  clear k1 l1 b1
  obtain ⟨w2, hw2⟩ : ∃ W, w1.alloc (.cells #[.int .i64 4, .int .i64 5, .int .i64 6] TZ) = W := ⟨_, rfl⟩
  have b2 : Below w1.heap.size w1 w2 := by rw [← hw2]; exact (Below.refl _ _).alloc (Nat.le_refl _) _
  have kl_2 : KZ w2 (.slice (some ⟨w1.heap.size, 0, none⟩) 3 3) [4, 5, 6] := by rw [← hw2]; exact kz_lit w1 [4, 5, 6] 3 rfl (by decide)
  have HB2 := Lib.hid (HB1.out.trans (b2.mono HB1.out.size))
  have Ka_2 := Lib.hid (KZ.below Ka.out b2)
  have Kb_2 := Lib.hid (KZ.below Kb.out b2)
  have Kl_2 := Lib.hid kl_2
  have HW2 := Lib.hid hw2
  clear hw2 b2 kl_2
  have hC3 := half_any _ [4, 5, 6] w2 Kl_2.out
  rw [ex_halfR, ex_halfU] at hC3
  have HC3 := Lib.hid hC3
  clear hC3
  go_wp2_with fail
  rw [HW2.out]
  refine HC3.out.mono ?_
  rintro e w3 ⟨r, u, rfl, kr, ku, b3⟩
  have HB3 := Lib.hid (HB2.out.trans (b3.mono HB2.out.size))
  have Ka_3 := Lib.hid (KZ.below Ka_2.out b3)
  have Kb_3 := Lib.hid (KZ.below Kb_2.out b3)
  have Kl_3 := Lib.hid (KZ.below Kl_2.out b3)
  have Kr_3 := Lib.hid (kr.kz)
  have Ku_3 := Lib.hid (ku.kz)
  clear b3 kr ku
  obtain ⟨w4, hw4⟩ : ∃ W, w3.alloc (.cells #[.int .i64 2] TZ) = W := ⟨_, rfl⟩
  have b4 : Below w3.heap.size w3 w4 := by rw [← hw4]; exact (Below.refl _ _).alloc (Nat.le_refl _) _
  have kq_4 : KZ w4 (.slice (some ⟨w3.heap.size, 0, none⟩) 1 1) [2] := by rw [← hw4]; exact kz_lit w3 [2] 1 rfl (by decide)
  have HB4 := Lib.hid (HB3.out.trans (b4.mono HB3.out.size))
  have Ka_4 := Lib.hid (KZ.below Ka_3.out b4)
  have Kb_4 := Lib.hid (KZ.below Kb_3.out b4)
  have Kr_4 := Lib.hid (KZ.below Kr_3.out b4)
  have Ku_4 := Lib.hid (KZ.below Ku_3.out b4)
  have Kq_4 := Lib.hid kq_4
  have HW4 := Lib.hid hw4
  clear hw4 b4 kq_4
  have hC5 := same_yes _ _ [2] w4 Ka_4.out Kq_4.out
  have HC5 := Lib.hid hC5
  clear hC5
  go_wp2_with fail
  rw [HW4.out]
  refine HC5.out.mono ?_
  rintro e w5 ⟨rfl, b5⟩
  have HB5 := Lib.hid (HB4.out.trans (b5.mono HB4.out.size))
  have Ka_5 := Lib.hid (KZ.below Ka_4.out b5)
  have Kb_5 := Lib.hid (KZ.below Kb_4.out b5)
  have Kr_5 := Lib.hid (KZ.below Kr_4.out b5)
  have Ku_5 := Lib.hid (KZ.below Ku_4.out b5)
  have Kq_5 := Lib.hid (KZ.below Kq_4.out b5)
  clear b5
  obtain ⟨w6, hw6⟩ : ∃ W, w5.alloc (.cells #[.int .i64 1, .int .i64 3] TZ) = W := ⟨_, rfl⟩
  have b6 : Below w5.heap.size w5 w6 := by rw [← hw6]; exact (Below.refl _ _).alloc (Nat.le_refl _) _
  have kq_6 : KZ w6 (.slice (some ⟨w5.heap.size, 0, none⟩) 2 2) [1, 3] := by rw [← hw6]; exact kz_lit w5 [1, 3] 2 rfl (by decide)
  have HB6 := Lib.hid (HB5.out.trans (b6.mono HB5.out.size))
  have Kb_6 := Lib.hid (KZ.below Kb_5.out b6)
  have Kr_6 := Lib.hid (KZ.below Kr_5.out b6)
  have Ku_6 := Lib.hid (KZ.below Ku_5.out b6)
  have Kq_6 := Lib.hid kq_6
  have HW6 := Lib.hid hw6
  clear hw6 b6 kq_6
  have hC7 := same_yes _ _ [1, 3] w6 Kb_6.out Kq_6.out
  have HC7 := Lib.hid hC7
  clear hC7
  go_wp2_with fail
  rw [HW6.out]
  refine HC7.out.mono ?_
  rintro e w7 ⟨rfl, b7⟩
  have HB7 := Lib.hid (HB6.out.trans (b7.mono HB6.out.size))
  have Kb_7 := Lib.hid (KZ.below Kb_6.out b7)
  have Kr_7 := Lib.hid (KZ.below Kr_6.out b7)
  have Ku_7 := Lib.hid (KZ.below Ku_6.out b7)
  have Kq_7 := Lib.hid (KZ.below Kq_6.out b7)
  clear b7
  obtain ⟨w8, hw8⟩ : ∃ W, w7.alloc (.cells #[.int .i64 6] TZ) = W := ⟨_, rfl⟩
  have b8 : Below w7.heap.size w7 w8 := by rw [← hw8]; exact (Below.refl _ _).alloc (Nat.le_refl _) _
  have kq_8 : KZ w8 (.slice (some ⟨w7.heap.size, 0, none⟩) 1 1) [6] := by rw [← hw8]; exact kz_lit w7 [6] 1 rfl (by decide)
  have HB8 := Lib.hid (HB7.out.trans (b8.mono HB7.out.size))
  have Kr_8 := Lib.hid (KZ.below Kr_7.out b8)
  have Ku_8 := Lib.hid (KZ.below Ku_7.out b8)
  have Kq_8 := Lib.hid kq_8
  have HW8 := Lib.hid hw8
  clear hw8 b8 kq_8
  have hC9 := same_yes _ _ [6] w8 Kr_8.out Kq_8.out
  have HC9 := Lib.hid hC9
  clear hC9
  go_wp2_with fail
  rw [HW8.out]
  refine HC9.out.mono ?_
  rintro e w9 ⟨rfl, b9⟩
  have HB9 := Lib.hid (HB8.out.trans (b9.mono HB8.out.size))
  have Kr_9 := Lib.hid (KZ.below Kr_8.out b9)
  have Ku_9 := Lib.hid (KZ.below Ku_8.out b9)
  have Kq_9 := Lib.hid (KZ.below Kq_8.out b9)
  clear b9
  obtain ⟨w10, hw10⟩ : ∃ W, w9.alloc (.cells #[.int .i64 4, .int .i64 5] TZ) = W := ⟨_, rfl⟩
  have b10 : Below w9.heap.size w9 w10 := by rw [← hw10]; exact (Below.refl _ _).alloc (Nat.le_refl _) _
  have kq_10 : KZ w10 (.slice (some ⟨w9.heap.size, 0, none⟩) 2 2) [4, 5] := by rw [← hw10]; exact kz_lit w9 [4, 5] 2 rfl (by decide)
  have HB10 := Lib.hid (HB9.out.trans (b10.mono HB9.out.size))
  have Ku_10 := Lib.hid (KZ.below Ku_9.out b10)
  have Kq_10 := Lib.hid kq_10
  have HW10 := Lib.hid hw10
  clear hw10 b10 kq_10
  have hC11 := same_yes _ _ [4, 5] w10 Ku_10.out Kq_10.out
  have HC11 := Lib.hid hC11
  clear hC11
  go_wp2_with fail
  rw [HW10.out]
  refine HC11.out.mono ?_
  rintro e w11 ⟨rfl, b11⟩
  have HB11 := Lib.hid (HB10.out.trans (b11.mono HB10.out.size))
  have Ku_11 := Lib.hid (KZ.below Ku_10.out b11)
  have Kq_11 := Lib.hid (KZ.below Kq_10.out b11)
  clear b11
  go_wp2
  go_ret
  exact ⟨rfl, HB11.out⟩

end Go.Proofs.Ytmgadcfiaipimaa
