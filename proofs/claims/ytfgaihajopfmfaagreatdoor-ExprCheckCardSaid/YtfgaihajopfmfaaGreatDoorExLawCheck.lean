/-
  The walk of ExprCheck.
-/
import Derived.Test.YtfgaihajopfmfaaGreatDoorExAwake
import Derived.Test.YtfgaihajopfmfaaGreatDoorExREq
import Derived.Test.YtfgaihajopfmfaaGreatDoorExSame
import Derived.Test.YtfgaihajopfmfaaGreatDoorExSub
import Derived.Test.YtfgaihajopfmfaaGreatDoorExOpen
import Derived.Test.YtfgaihajopfmfaaGreatDoorHeldTop
namespace Go.Proofs.YtfgaihajopfmfaaGreatDoor
set_option linter.unusedSimpArgs false
set_option linter.unusedVariables false
open Go.RowKit

set_option maxRecDepth 100000 in
set_option maxHeartbeats 16000000 in
theorem exprCheck_walk (ex : Ex) (slx : Value) (ey : Ex) (sly : Value) (w : World) (hKx : KX w ex slx) (hfx : fitE ex) (hKy : KX w ey sly) (hfy : fitE ey) (hI : TabI w) :
    Calls Tryz.prog 3 #[exV ex slx, exV ey sly] w fun e w' => e = .returned (.bool true) ∧ Below w.heap.size w w' := by
  have HB0 : Hid (Below w.heap.size w w) := Lib.hid (Below.refl _ w)
  have ZI_0 := Lib.hid hI
  obtain ⟨ax, cx, _, e1, _, _, _⟩ := KA.inv hKx
  obtain ⟨nx, e2⟩ : ∃ n, ex.es.length = n := ⟨_, rfl⟩
  rw [e2] at e1
  subst e1
  clear e2
  have Xx_0 := Lib.hid hKx
  have HFx := Lib.hid hfx
  obtain ⟨ay, cy, _, e1, _, _, _⟩ := KA.inv hKy
  obtain ⟨ny, e2⟩ : ∃ n, ey.es.length = n := ⟨_, rfl⟩
  rw [e2] at e1
  subst e1
  clear e2
  have Xy_0 := Lib.hid hKy
  have HFy := Lib.hid hfy
  clear hI hKx hfx hKy hfy
  simp only [exV]
  obtain ⟨w1, hw1⟩ : ∃ W, (w.alloc (.cells #[.int .i64 ex.k, .int .i64 ex.o, .string ex.s, .int .i64 ex.v, (.slice ax nx cx)] TX (0, 0))).alloc (.cells #[.int .i64 ey.k, .int .i64 ey.o, .string ey.s, .int .i64 ey.v, (.slice ay ny cy)] TX (0, 0)) = W := ⟨_, rfl⟩
  obtain ⟨t0, t1, b1⟩ := twoBlocks w (.cells #[.int .i64 ex.k, .int .i64 ex.o, .string ex.s, .int .i64 ex.v, (.slice ax nx cx)] TX (0, 0)) (.cells #[.int .i64 ey.k, .int .i64 ey.o, .string ey.s, .int .i64 ey.v, (.slice ay ny cy)] TX (0, 0))
  rw [hw1] at t0 t1 b1
  have HB1 := Lib.hid (HB0.out.trans (b1.mono HB0.out.size))
  have Xx_1 := Lib.hid (KA.carry Xx_0.out b1)
  have Xy_1 := Lib.hid (KA.carry Xy_0.out b1)
  have ZI_1 := Lib.hid (TabI.below ZI_0.out b1)
  have Zx_1 : Hid (AtX w1 w.heap.size 0 ex (.slice ax nx cx)) := Lib.hid (by refine ⟨?_, ?_, ?_, ?_, ?_⟩ <;> simp [World.cell?, t0])
  have Zy_1 : Hid (AtX w1 (w.heap.size + 1) 0 ey (.slice ay ny cy)) := Lib.hid (by refine ⟨?_, ?_, ?_, ?_, ?_⟩ <;> simp [World.cell?, t1])
  have HW1 := Lib.hid hw1
  clear t0 t1 b1 hw1
  go_enter Tryz.func3, Tryz.ntmps3
  cases hg : grE ex with
  | true =>
    have hC2 := rGreat_any ex (.slice ax nx cx) w1 Xx_1.out
    simp only [exV] at hC2
    rw [hg] at hC2
    have HC2 := Lib.hid hC2
    clear hC2
    go_wp2_with fail
    rw [HW1.out]
    refine HC2.out.mono ?_
    rintro e w2 ⟨rfl, b2⟩
    have HB2 := Lib.hid (HB1.out.trans (b2.mono HB1.out.size))
    have Xx_2 := Lib.hid (KA.carry Xx_1.out b2)
    have Xy_2 := Lib.hid (KA.carry Xy_1.out b2)
    have ZI_2 := Lib.hid (TabI.below ZI_1.out b2)
    have Zx_2 := Lib.hid (AtX.later Zx_1.out b2)
    have Zy_2 := Lib.hid (AtX.later Zy_1.out b2)
    clear b2 HC2
    have hC3 := awake_any w2 ZI_2.out
    have HC3 := Lib.hid hC3
    clear hC3
    go_wp2_with fail
    refine HC3.out.mono ?_
    rintro e w3 ⟨rfl, b3⟩
    have HB3 := Lib.hid (HB2.out.trans (b3.mono HB2.out.size))
    have Xx_3 := Lib.hid (KA.carry Xx_2.out b3)
    have Xy_3 := Lib.hid (KA.carry Xy_2.out b3)
    have ZI_3 := Lib.hid (TabI.below ZI_2.out b3)
    have Zx_3 := Lib.hid (AtX.later Zx_2.out b3)
    have Zy_3 := Lib.hid (AtX.later Zy_2.out b3)
    clear b3 HC3
    go_wp2
    go_ret
    exact ⟨rfl, HB3.out⟩
  | false =>
    have hC2 := rGreat_any ex (.slice ax nx cx) w1 Xx_1.out
    simp only [exV] at hC2
    rw [hg] at hC2
    have HC2 := Lib.hid hC2
    clear hC2
    go_wp2_with fail
    rw [HW1.out]
    refine HC2.out.mono ?_
    rintro e w2 ⟨rfl, b2⟩
    have HB2 := Lib.hid (HB1.out.trans (b2.mono HB1.out.size))
    have Xx_2 := Lib.hid (KA.carry Xx_1.out b2)
    have Xy_2 := Lib.hid (KA.carry Xy_1.out b2)
    have ZI_2 := Lib.hid (TabI.below ZI_1.out b2)
    have Zx_2 := Lib.hid (AtX.later Zx_1.out b2)
    have Zy_2 := Lib.hid (AtX.later Zy_1.out b2)
    clear b2 HC2
    cases hh : grE ey with
    | true =>
      have hC3 := rGreat_any ey (.slice ay ny cy) w2 Xy_2.out
      simp only [exV] at hC3
      rw [hh] at hC3
      have HC3 := Lib.hid hC3
      clear hC3
      obtain ⟨qy0, qy1, qy2, qy3, qy4⟩ := Zy_2.out
      simp only [Nat.zero_add] at qy1 qy2 qy3 qy4
      go_wp2_with fail
      refine HC3.out.mono ?_
      rintro e w3 ⟨rfl, b3⟩
      have HB3 := Lib.hid (HB2.out.trans (b3.mono HB2.out.size))
      have Xx_3 := Lib.hid (KA.carry Xx_2.out b3)
      have Xy_3 := Lib.hid (KA.carry Xy_2.out b3)
      have ZI_3 := Lib.hid (TabI.below ZI_2.out b3)
      have Zx_3 := Lib.hid (AtX.later Zx_2.out b3)
      have Zy_3 := Lib.hid (AtX.later Zy_2.out b3)
      clear b3 HC3 qy0 qy1 qy2 qy3 qy4
      have hC4 := awake_any w3 ZI_3.out
      have HC4 := Lib.hid hC4
      clear hC4
      go_wp2_with fail
      refine HC4.out.mono ?_
      rintro e w4 ⟨rfl, b4⟩
      have HB4 := Lib.hid (HB3.out.trans (b4.mono HB3.out.size))
      have Xx_4 := Lib.hid (KA.carry Xx_3.out b4)
      have Xy_4 := Lib.hid (KA.carry Xy_3.out b4)
      have ZI_4 := Lib.hid (TabI.below ZI_3.out b4)
      have Zx_4 := Lib.hid (AtX.later Zx_3.out b4)
      have Zy_4 := Lib.hid (AtX.later Zy_3.out b4)
      clear b4 HC4
      go_wp2
      go_ret
      exact ⟨rfl, HB4.out⟩
    | false =>
      have hC3 := rGreat_any ey (.slice ay ny cy) w2 Xy_2.out
      simp only [exV] at hC3
      rw [hh] at hC3
      have HC3 := Lib.hid hC3
      clear hC3
      obtain ⟨qy0, qy1, qy2, qy3, qy4⟩ := Zy_2.out
      simp only [Nat.zero_add] at qy1 qy2 qy3 qy4
      go_wp2_with fail
      refine HC3.out.mono ?_
      rintro e w3 ⟨rfl, b3⟩
      have HB3 := Lib.hid (HB2.out.trans (b3.mono HB2.out.size))
      have Xx_3 := Lib.hid (KA.carry Xx_2.out b3)
      have Xy_3 := Lib.hid (KA.carry Xy_2.out b3)
      have ZI_3 := Lib.hid (TabI.below ZI_2.out b3)
      have Zx_3 := Lib.hid (AtX.later Zx_2.out b3)
      have Zy_3 := Lib.hid (AtX.later Zy_2.out b3)
      clear b3 HC3 qy0 qy1 qy2 qy3 qy4
      obtain ⟨N, hN⟩ : ∃ q, nmF ex = q := ⟨_, rfl⟩
      obtain ⟨Sx, hSx⟩ : ∃ q, txF ex = q := ⟨_, rfl⟩
      obtain ⟨Px, hPx⟩ : ∃ q, ckE ex = q := ⟨_, rfl⟩
      obtain ⟨Zs, hZs⟩ : ∃ q, min (szE ex) 101 = q := ⟨_, rfl⟩
      obtain ⟨Q, hQ⟩ : ∃ q, equE ex ey = q := ⟨_, rfl⟩
      have KhN := Lib.hid hN
      have KSx := Lib.hid hSx
      have KPx := Lib.hid hPx
      have KZs := Lib.hid hZs
      have KhQ := Lib.hid hQ
      clear hN hg hh hSx hPx hZs hQ
      have hC4 := printA ex Sx Px (.slice ax nx cx) w3 Xx_3.out ZI_3.out HFx.out ⟨KSx.out, KPx.out⟩
      simp only [exV] at hC4
      have HC4 := Lib.hid hC4
      clear hC4
      obtain ⟨qx0, qx1, qx2, qx3, qx4⟩ := Zx_3.out
      simp only [Nat.zero_add] at qx1 qx2 qx3 qx4
      go_wp2_with fail
      refine HC4.out.mono ?_
      rintro e w4 ⟨rfl, b4⟩
      have HB4 := Lib.hid (HB3.out.trans (b4.mono HB3.out.size))
      have Xx_4 := Lib.hid (KA.carry Xx_3.out b4)
      have Xy_4 := Lib.hid (KA.carry Xy_3.out b4)
      have ZI_4 := Lib.hid (TabI.below ZI_3.out b4)
      have Zx_4 := Lib.hid (AtX.later Zx_3.out b4)
      have Zy_4 := Lib.hid (AtX.later Zy_3.out b4)
      clear b4 HC4 qx0 qx1 qx2 qx3 qx4
      have hC5 := rPrint_any ex ax nx cx w4 Xx_4.out HFx.out
      simp only [exV] at hC5
      rw [KSx.out, KPx.out] at hC5
      have HC5 := Lib.hid hC5
      clear hC5
      obtain ⟨qx0, qx1, qx2, qx3, qx4⟩ := Zx_4.out
      simp only [Nat.zero_add] at qx1 qx2 qx3 qx4
      go_wp2_with fail
      refine HC5.out.mono ?_
      rintro e w5 ⟨rfl, b5⟩
      have HB5 := Lib.hid (HB4.out.trans (b5.mono HB4.out.size))
      have Xx_5 := Lib.hid (KA.carry Xx_4.out b5)
      have Xy_5 := Lib.hid (KA.carry Xy_4.out b5)
      have ZI_5 := Lib.hid (TabI.below ZI_4.out b5)
      have Zx_5 := Lib.hid (AtX.later Zx_4.out b5)
      have Zy_5 := Lib.hid (AtX.later Zy_4.out b5)
      clear b5 HC5 qx0 qx1 qx2 qx3 qx4
      obtain ⟨s1, s2, s3⟩ := str_yes (show Sx = Sx from rfl)
      obtain ⟨p1, p2⟩ := ieq (show Px = Px from rfl)
      obtain ⟨z1, z2⟩ := ieq (show (Zs : Int) = (Zs : Int) from rfl)
      have qQ : (Q == Q) = true := by simp
      go_wp2_with fail
      refine wp_region_held (S := fun w' => AtX w' (w.heap.size) (0) ex (.slice ax nx cx) ∧ AtX w' (w.heap.size + 1) (0) ey (.slice ay ny cy)) (by kernel_rfl) ?_
      change wpAnyH _ _ _ _ _ _ _ _ w5.drew
      obtain ⟨w6, hw6⟩ : ∃ W, w5.drew = W := ⟨_, rfl⟩
      have b6 : Below w5.heap.size w5 w6 := by rw [← hw6]; exact (Below.refl _ _).drew
      have HB6 := Lib.hid (HB5.out.trans (b6.mono HB5.out.size))
      have Xx_6 := Lib.hid (KA.carry Xx_5.out b6)
      have Xy_6 := Lib.hid (KA.carry Xy_5.out b6)
      have ZI_6 := Lib.hid (TabI.below ZI_5.out b6)
      have Zx_6 := Lib.hid (AtX.later Zx_5.out b6)
      have Zy_6 := Lib.hid (AtX.later Zy_5.out b6)
      rw [hw6]
      have HDR6 := Lib.hid b6
      clear b6 hw6
      refine wpAnyH_read (i := 0) (v := .agg #[.int .i64 ex.k, .int .i64 ex.o, .string ex.s, .int .i64 ex.v, (.slice ax nx cx)]) rfl (by kernel_rfl) (by kernel_rfl) (by kernel_rfl) (fun _ _ _ h => h) (by rfl) (by rintro V ⟨⟨r00, r01, r02, r03, r04⟩, ⟨r10, r11, r12, r13, r14⟩⟩; simp only [Nat.zero_add] at r01 r02 r03 r04; go_simp) (⟨Zx_6.out, Zy_6.out⟩) ?_
      simp only [Act.put, List.setIfInBounds_toArray, List.set_cons_zero, List.set_cons_succ]
      refine wpAnyH_read (i := 2) (v := .agg #[.int .i64 ex.k, .int .i64 ex.o, .string ex.s, .int .i64 ex.v, (.slice ax nx cx)]) rfl (by kernel_rfl) (by kernel_rfl) (by kernel_rfl) (fun _ _ _ h => h) (by rfl) (by rintro V ⟨⟨r00, r01, r02, r03, r04⟩, ⟨r10, r11, r12, r13, r14⟩⟩; simp only [Nat.zero_add] at r01 r02 r03 r04; go_simp) (⟨Zx_6.out, Zy_6.out⟩) ?_
      simp only [Act.put, List.setIfInBounds_toArray, List.set_cons_zero, List.set_cons_succ]
      refine wpAnyH_next (i := 1) rfl (by kernel_rfl) ?_
      have hC7 := check_any ex (.slice ax nx cx) w6 Xx_6.out HFx.out
      simp only [exV] at hC7
      rw [KPx.out] at hC7
      have HC7 := Lib.hid hC7
      clear hC7
      go_wp2_with fail
      refine HC7.out.mono ?_
      rintro e w7 ⟨rfl, b7⟩
      have HB7 := Lib.hid (HB6.out.trans (b7.mono HB6.out.size))
      have Xx_7 := Lib.hid (KA.carry Xx_6.out b7)
      have Xy_7 := Lib.hid (KA.carry Xy_6.out b7)
      have ZI_7 := Lib.hid (TabI.below ZI_6.out b7)
      have Zx_7 := Lib.hid (AtX.later Zx_6.out b7)
      have Zy_7 := Lib.hid (AtX.later Zy_6.out b7)
      clear b7 HC7
      try simp only [exV]
      go_wp2_with fail
      refine ⟨⟨Zx_7.out, Zy_7.out⟩, ?_⟩
      refine wpAnyH_next (i := 3) rfl (by kernel_rfl) ?_
      have hC8 := rCheck_any ex (.slice ax nx cx) w7 Xx_7.out HFx.out
      simp only [exV] at hC8
      rw [KPx.out] at hC8
      have HC8 := Lib.hid hC8
      clear hC8
      go_wp2_with fail
      refine HC8.out.mono ?_
      rintro e w8 ⟨rfl, b8⟩
      have HB8 := Lib.hid (HB7.out.trans (b8.mono HB7.out.size))
      have Xx_8 := Lib.hid (KA.carry Xx_7.out b8)
      have Xy_8 := Lib.hid (KA.carry Xy_7.out b8)
      have ZI_8 := Lib.hid (TabI.below ZI_7.out b8)
      have Zx_8 := Lib.hid (AtX.later Zx_7.out b8)
      have Zy_8 := Lib.hid (AtX.later Zy_7.out b8)
      clear b8 HC8
      try simp only [exV]
      go_wp2_with fail
      refine ⟨⟨Zx_8.out, Zy_8.out⟩, ?_⟩
      refine wpAnyH_next (i := 4) rfl (by kernel_rfl) ?_
      go_wp2_with fail
      refine ⟨⟨Zx_8.out, Zy_8.out⟩, ?_⟩
      refine wpAnyH_next (i := 5) rfl (by kernel_rfl) ?_
      go_wp2_with fail
      refine ⟨⟨Zx_8.out, Zy_8.out⟩, ?_⟩
      refine wpAnyH_read (i := 6) (v := .agg #[.int .i64 ex.k, .int .i64 ex.o, .string ex.s, .int .i64 ex.v, (.slice ax nx cx)]) rfl (by kernel_rfl) (by kernel_rfl) (by kernel_rfl) (fun _ _ _ h => h) (by rfl) (by rintro V ⟨⟨r00, r01, r02, r03, r04⟩, ⟨r10, r11, r12, r13, r14⟩⟩; simp only [Nat.zero_add] at r01 r02 r03 r04; go_simp) (⟨Zx_8.out, Zy_8.out⟩) ?_
      simp only [Act.put, List.setIfInBounds_toArray, List.set_cons_zero, List.set_cons_succ]
      refine wpAnyH_read (i := 8) (v := .agg #[.int .i64 ex.k, .int .i64 ex.o, .string ex.s, .int .i64 ex.v, (.slice ax nx cx)]) rfl (by kernel_rfl) (by kernel_rfl) (by kernel_rfl) (fun _ _ _ h => h) (by rfl) (by rintro V ⟨⟨r00, r01, r02, r03, r04⟩, ⟨r10, r11, r12, r13, r14⟩⟩; simp only [Nat.zero_add] at r01 r02 r03 r04; go_simp) (⟨Zx_8.out, Zy_8.out⟩) ?_
      simp only [Act.put, List.setIfInBounds_toArray, List.set_cons_zero, List.set_cons_succ]
      refine wpAnyH_next (i := 7) rfl (by kernel_rfl) ?_
      have hC9 := size_any ex (.slice ax nx cx) w8 Xx_8.out HFx.out
      simp only [exV] at hC9
      rw [KZs.out] at hC9
      have HC9 := Lib.hid hC9
      clear hC9
      go_wp2_with fail
      refine HC9.out.mono ?_
      rintro e w9 ⟨rfl, b9⟩
      have HB9 := Lib.hid (HB8.out.trans (b9.mono HB8.out.size))
      have Xx_9 := Lib.hid (KA.carry Xx_8.out b9)
      have Xy_9 := Lib.hid (KA.carry Xy_8.out b9)
      have ZI_9 := Lib.hid (TabI.below ZI_8.out b9)
      have Zx_9 := Lib.hid (AtX.later Zx_8.out b9)
      have Zy_9 := Lib.hid (AtX.later Zy_8.out b9)
      clear b9 HC9
      try simp only [exV]
      go_wp2_with fail
      refine ⟨⟨Zx_9.out, Zy_9.out⟩, ?_⟩
      refine wpAnyH_next (i := 9) rfl (by kernel_rfl) ?_
      have hC10 := rSize_any ex (.slice ax nx cx) w9 Xx_9.out
      simp only [exV] at hC10
      rw [KZs.out] at hC10
      have HC10 := Lib.hid hC10
      clear hC10
      go_wp2_with fail
      refine HC10.out.mono ?_
      rintro e w10 ⟨rfl, b10⟩
      have HB10 := Lib.hid (HB9.out.trans (b10.mono HB9.out.size))
      have Xx_10 := Lib.hid (KA.carry Xx_9.out b10)
      have Xy_10 := Lib.hid (KA.carry Xy_9.out b10)
      have ZI_10 := Lib.hid (TabI.below ZI_9.out b10)
      have Zx_10 := Lib.hid (AtX.later Zx_9.out b10)
      have Zy_10 := Lib.hid (AtX.later Zy_9.out b10)
      clear b10 HC10
      try simp only [exV]
      go_wp2_with fail
      refine ⟨⟨Zx_10.out, Zy_10.out⟩, ?_⟩
      refine wpAnyH_next (i := 10) rfl (by kernel_rfl) ?_
      go_wp2_with fail
      refine ⟨⟨Zx_10.out, Zy_10.out⟩, ?_⟩
      refine wpAnyH_next (i := 11) rfl (by kernel_rfl) ?_
      go_wp2_with fail
      refine ⟨⟨Zx_10.out, Zy_10.out⟩, ?_⟩
      refine wpAnyH_next (i := 12) rfl (by kernel_rfl) ?_
      go_wp2_with fail
      refine ⟨⟨Zx_10.out, Zy_10.out⟩, ?_⟩
      refine wpAnyH_read (i := 13) (v := .agg #[.int .i64 ex.k, .int .i64 ex.o, .string ex.s, .int .i64 ex.v, (.slice ax nx cx)]) rfl (by kernel_rfl) (by kernel_rfl) (by kernel_rfl) (fun _ _ _ h => h) (by rfl) (by rintro V ⟨⟨r00, r01, r02, r03, r04⟩, ⟨r10, r11, r12, r13, r14⟩⟩; simp only [Nat.zero_add] at r01 r02 r03 r04; go_simp) (⟨Zx_10.out, Zy_10.out⟩) ?_
      simp only [Act.put, List.setIfInBounds_toArray, List.set_cons_zero, List.set_cons_succ]
      refine wpAnyH_read (i := 15) (v := .agg #[.int .i64 ex.k, .int .i64 ex.o, .string ex.s, .int .i64 ex.v, (.slice ax nx cx)]) rfl (by kernel_rfl) (by kernel_rfl) (by kernel_rfl) (fun _ _ _ h => h) (by rfl) (by rintro V ⟨⟨r00, r01, r02, r03, r04⟩, ⟨r10, r11, r12, r13, r14⟩⟩; simp only [Nat.zero_add] at r01 r02 r03 r04; go_simp) (⟨Zx_10.out, Zy_10.out⟩) ?_
      simp only [Act.put, List.setIfInBounds_toArray, List.set_cons_zero, List.set_cons_succ]
      refine wpAnyH_next (i := 14) rfl (by kernel_rfl) ?_
      have hC11 := Names_any ex ax nx cx w10 Xx_10.out HFx.out
      simp only [exV] at hC11
      rw [KhN.out] at hC11
      have HC11 := Lib.hid hC11
      clear hC11
      go_wp2_with fail
      refine HC11.out.mono ?_
      rintro e w11 ⟨vn, rfl, kn, b11⟩
      have HB11 := Lib.hid (HB10.out.trans (b11.mono HB10.out.size))
      have Xx_11 := Lib.hid (KA.carry Xx_10.out b11)
      have Xy_11 := Lib.hid (KA.carry Xy_10.out b11)
      have ZI_11 := Lib.hid (TabI.below ZI_10.out b11)
      have Zx_11 := Lib.hid (AtX.later Zx_10.out b11)
      have Zy_11 := Lib.hid (AtX.later Zy_10.out b11)
      clear b11 HC11
      try simp only [exV]
      go_wp2_with fail
      refine ⟨⟨Zx_11.out, Zy_11.out⟩, ?_⟩
      have Zn_11 := Lib.hid kn
      clear kn
      refine wpAnyH_next (i := 16) rfl (by kernel_rfl) ?_
      have hC12 := rNames_any ex ax nx cx w11 Xx_11.out HFx.out
      simp only [exV] at hC12
      rw [KhN.out] at hC12
      have HC12 := Lib.hid hC12
      clear hC12
      go_wp2_with fail
      refine HC12.out.mono ?_
      rintro e w12 ⟨vm, rfl, km, b12⟩
      have HB12 := Lib.hid (HB11.out.trans (b12.mono HB11.out.size))
      have Xx_12 := Lib.hid (KA.carry Xx_11.out b12)
      have Xy_12 := Lib.hid (KA.carry Xy_11.out b12)
      have ZI_12 := Lib.hid (TabI.below ZI_11.out b12)
      have Zx_12 := Lib.hid (AtX.later Zx_11.out b12)
      have Zy_12 := Lib.hid (AtX.later Zy_11.out b12)
      have Zn_12 := Lib.hid (KS.carry Zn_11.out b12)
      clear b12 HC12
      try simp only [exV]
      go_wp2_with fail
      refine ⟨⟨Zx_12.out, Zy_12.out⟩, ?_⟩
      have Zm_12 := Lib.hid km
      clear km
      refine wpAnyH_next (i := 17) rfl (by kernel_rfl) ?_
      have hC13 := eqStr_any N vn vm w12 Zn_12.out Zm_12.out
      have HC13 := Lib.hid hC13
      clear hC13
      go_wp2_with fail
      refine HC13.out.mono ?_
      rintro e w13 ⟨rfl, b13⟩
      have HB13 := Lib.hid (HB12.out.trans (b13.mono HB12.out.size))
      have Xx_13 := Lib.hid (KA.carry Xx_12.out b13)
      have Xy_13 := Lib.hid (KA.carry Xy_12.out b13)
      have ZI_13 := Lib.hid (TabI.below ZI_12.out b13)
      have Zx_13 := Lib.hid (AtX.later Zx_12.out b13)
      have Zy_13 := Lib.hid (AtX.later Zy_12.out b13)
      have Zn_13 := Lib.hid (KS.carry Zn_12.out b13)
      have Zm_13 := Lib.hid (KS.carry Zm_12.out b13)
      clear b13 HC13
      try simp only [exV]
      go_wp2_with fail
      refine ⟨⟨Zx_13.out, Zy_13.out⟩, ?_⟩
      refine wpAnyH_next (i := 18) rfl (by kernel_rfl) ?_
      go_wp2_with fail
      refine ⟨⟨Zx_13.out, Zy_13.out⟩, ?_⟩
      refine wpAnyH_next (i := 19) rfl (by kernel_rfl) ?_
      go_wp2_with fail
      refine ⟨⟨Zx_13.out, Zy_13.out⟩, ?_⟩
      refine wpAnyH_read (i := 20) (v := .string Sx) rfl (by kernel_rfl) (by kernel_rfl) (by kernel_rfl) (fun _ _ _ h => h) (by rfl) (fun _ _ => rfl) (⟨Zx_13.out, Zy_13.out⟩) ?_
      simp only [Act.put, List.setIfInBounds_toArray, List.set_cons_zero, List.set_cons_succ]
      refine wpAnyH_read (i := 21) (v := .string Sx) rfl (by kernel_rfl) (by kernel_rfl) (by kernel_rfl) (fun _ _ _ h => h) (by rfl) (fun _ _ => rfl) (⟨Zx_13.out, Zy_13.out⟩) ?_
      simp only [Act.put, List.setIfInBounds_toArray, List.set_cons_zero, List.set_cons_succ]
      refine wpAnyH_next (i := 22) rfl (by kernel_rfl) ?_
      go_wp2_with fail
      refine ⟨⟨Zx_13.out, Zy_13.out⟩, ?_⟩
      refine wpAnyH_next (i := 23) rfl (by kernel_rfl) ?_
      go_wp2_with fail
      refine ⟨⟨Zx_13.out, Zy_13.out⟩, ?_⟩
      refine wpAnyH_next (i := 24) rfl (by kernel_rfl) ?_
      go_wp2_with fail
      refine ⟨⟨Zx_13.out, Zy_13.out⟩, ?_⟩
      refine wpAnyH_read (i := 25) (v := .int .i64 Px) rfl (by kernel_rfl) (by kernel_rfl) (by kernel_rfl) (fun _ _ _ h => h) (by rfl) (fun _ _ => rfl) (⟨Zx_13.out, Zy_13.out⟩) ?_
      simp only [Act.put, List.setIfInBounds_toArray, List.set_cons_zero, List.set_cons_succ]
      refine wpAnyH_read (i := 26) (v := .int .i64 Px) rfl (by kernel_rfl) (by kernel_rfl) (by kernel_rfl) (fun _ _ _ h => h) (by rfl) (fun _ _ => rfl) (⟨Zx_13.out, Zy_13.out⟩) ?_
      simp only [Act.put, List.setIfInBounds_toArray, List.set_cons_zero, List.set_cons_succ]
      refine wpAnyH_next (i := 27) rfl (by kernel_rfl) ?_
      go_wp2_with fail
      refine ⟨⟨Zx_13.out, Zy_13.out⟩, ?_⟩
      refine wpAnyH_next (i := 28) rfl (by kernel_rfl) ?_
      go_wp2_with fail
      refine ⟨⟨Zx_13.out, Zy_13.out⟩, ?_⟩
      refine wpAnyH_next (i := 29) rfl (by kernel_rfl) ?_
      go_wp2_with fail
      refine ⟨⟨Zx_13.out, Zy_13.out⟩, ?_⟩
      refine wpAnyH_read (i := 30) (v := .agg #[.int .i64 ex.k, .int .i64 ex.o, .string ex.s, .int .i64 ex.v, (.slice ax nx cx)]) rfl (by kernel_rfl) (by kernel_rfl) (by kernel_rfl) (fun _ _ _ h => h) (by rfl) (by rintro V ⟨⟨r00, r01, r02, r03, r04⟩, ⟨r10, r11, r12, r13, r14⟩⟩; simp only [Nat.zero_add] at r01 r02 r03 r04; go_simp) (⟨Zx_13.out, Zy_13.out⟩) ?_
      simp only [Act.put, List.setIfInBounds_toArray, List.set_cons_zero, List.set_cons_succ]
      refine wpAnyH_read (i := 31) (v := .agg #[.int .i64 ey.k, .int .i64 ey.o, .string ey.s, .int .i64 ey.v, (.slice ay ny cy)]) rfl (by kernel_rfl) (by kernel_rfl) (by kernel_rfl) (fun _ _ _ h => h) (by rfl) (by rintro V ⟨⟨r00, r01, r02, r03, r04⟩, ⟨r10, r11, r12, r13, r14⟩⟩; simp only [Nat.zero_add] at r11 r12 r13 r14; go_simp) (⟨Zx_13.out, Zy_13.out⟩) ?_
      simp only [Act.put, List.setIfInBounds_toArray, List.set_cons_zero, List.set_cons_succ]
      refine wpAnyH_read (i := 33) (v := .agg #[.int .i64 ex.k, .int .i64 ex.o, .string ex.s, .int .i64 ex.v, (.slice ax nx cx)]) rfl (by kernel_rfl) (by kernel_rfl) (by kernel_rfl) (fun _ _ _ h => h) (by rfl) (by rintro V ⟨⟨r00, r01, r02, r03, r04⟩, ⟨r10, r11, r12, r13, r14⟩⟩; simp only [Nat.zero_add] at r01 r02 r03 r04; go_simp) (⟨Zx_13.out, Zy_13.out⟩) ?_
      simp only [Act.put, List.setIfInBounds_toArray, List.set_cons_zero, List.set_cons_succ]
      refine wpAnyH_read (i := 34) (v := .agg #[.int .i64 ey.k, .int .i64 ey.o, .string ey.s, .int .i64 ey.v, (.slice ay ny cy)]) rfl (by kernel_rfl) (by kernel_rfl) (by kernel_rfl) (fun _ _ _ h => h) (by rfl) (by rintro V ⟨⟨r00, r01, r02, r03, r04⟩, ⟨r10, r11, r12, r13, r14⟩⟩; simp only [Nat.zero_add] at r11 r12 r13 r14; go_simp) (⟨Zx_13.out, Zy_13.out⟩) ?_
      simp only [Act.put, List.setIfInBounds_toArray, List.set_cons_zero, List.set_cons_succ]
      refine wpAnyH_next (i := 32) rfl (by kernel_rfl) ?_
      have hC14 := Equal_any ex ey ax nx cx ay ny cy w13 Xx_13.out Xy_13.out HFx.out HFy.out
      simp only [exV] at hC14
      rw [KhQ.out] at hC14
      have HC14 := Lib.hid hC14
      clear hC14
      go_wp2_with fail
      refine HC14.out.mono ?_
      rintro e w14 ⟨rfl, b14⟩
      have HB14 := Lib.hid (HB13.out.trans (b14.mono HB13.out.size))
      have Xx_14 := Lib.hid (KA.carry Xx_13.out b14)
      have Xy_14 := Lib.hid (KA.carry Xy_13.out b14)
      have ZI_14 := Lib.hid (TabI.below ZI_13.out b14)
      have Zx_14 := Lib.hid (AtX.later Zx_13.out b14)
      have Zy_14 := Lib.hid (AtX.later Zy_13.out b14)
      have Zn_14 := Lib.hid (KS.carry Zn_13.out b14)
      have Zm_14 := Lib.hid (KS.carry Zm_13.out b14)
      clear b14 HC14
      try simp only [exV]
      go_wp2_with fail
      refine ⟨⟨Zx_14.out, Zy_14.out⟩, ?_⟩
      refine wpAnyH_next (i := 35) rfl (by kernel_rfl) ?_
      have hC15 := rEqual_any ex ey (.slice ax nx cx) (.slice ay ny cy) w14 Xx_14.out Xy_14.out HFx.out HFy.out
      simp only [exV] at hC15
      rw [KhQ.out] at hC15
      have HC15 := Lib.hid hC15
      clear hC15
      go_wp2_with fail
      refine HC15.out.mono ?_
      rintro e w15 ⟨rfl, b15⟩
      have HB15 := Lib.hid (HB14.out.trans (b15.mono HB14.out.size))
      have Xx_15 := Lib.hid (KA.carry Xx_14.out b15)
      have Xy_15 := Lib.hid (KA.carry Xy_14.out b15)
      have ZI_15 := Lib.hid (TabI.below ZI_14.out b15)
      have Zx_15 := Lib.hid (AtX.later Zx_14.out b15)
      have Zy_15 := Lib.hid (AtX.later Zy_14.out b15)
      have Zn_15 := Lib.hid (KS.carry Zn_14.out b15)
      have Zm_15 := Lib.hid (KS.carry Zm_14.out b15)
      clear b15 HC15
      try simp only [exV]
      go_wp2_with fail
      refine ⟨⟨Zx_15.out, Zy_15.out⟩, ?_⟩
      refine wpAnyH_next (i := 36) rfl (by kernel_rfl) ?_
      go_wp2_with fail
      refine ⟨⟨Zx_15.out, Zy_15.out⟩, ?_⟩
      refine wpAnyH_next (i := 37) rfl (by kernel_rfl) ?_
      go_wp2_with fail
      refine ⟨⟨Zx_15.out, Zy_15.out⟩, ?_⟩
      refine wpAnyH_next (i := 38) rfl (by kernel_rfl) ?_
      go_wp2_with fail
      refine ⟨⟨Zx_15.out, Zy_15.out⟩, ?_⟩
      refine wpAnyH_next (i := 39) rfl (by kernel_rfl) ?_
      have hC16 := awake_any w15 ZI_15.out
      have HC16 := Lib.hid hC16
      clear hC16
      go_wp2_with fail
      refine HC16.out.mono ?_
      rintro e w16 ⟨rfl, b16⟩
      have HB16 := Lib.hid (HB15.out.trans (b16.mono HB15.out.size))
      have Xx_16 := Lib.hid (KA.carry Xx_15.out b16)
      have Xy_16 := Lib.hid (KA.carry Xy_15.out b16)
      have ZI_16 := Lib.hid (TabI.below ZI_15.out b16)
      have Zx_16 := Lib.hid (AtX.later Zx_15.out b16)
      have Zy_16 := Lib.hid (AtX.later Zy_15.out b16)
      have Zn_16 := Lib.hid (KS.carry Zn_15.out b16)
      have Zm_16 := Lib.hid (KS.carry Zm_15.out b16)
      clear b16 HC16
      try simp only [exV]
      go_wp2_with fail
      refine ⟨⟨Zx_16.out, Zy_16.out⟩, ?_⟩
      refine wpAnyH_next (i := 40) rfl (by kernel_rfl) ?_
      go_wp2_with fail
      refine ⟨⟨Zx_16.out, Zy_16.out⟩, ?_⟩
      refine wpAnyH_next (i := 41) rfl (by kernel_rfl) ?_
      go_wp2_with fail
      refine ⟨⟨Zx_16.out, Zy_16.out⟩, ?_⟩
      refine wpAnyH_done (by kernel_rfl) ?_ _
      go_wp2
      go_ret
      exact ⟨rfl, HB16.out⟩

end Go.Proofs.YtfgaihajopfmfaaGreatDoor
