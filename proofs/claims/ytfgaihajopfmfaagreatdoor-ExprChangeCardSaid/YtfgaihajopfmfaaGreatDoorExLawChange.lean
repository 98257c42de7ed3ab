/-
  The walk of ExprChange.
-/
import Derived.Test.YtfgaihajopfmfaaGreatDoorExAwake
import Derived.Test.YtfgaihajopfmfaaGreatDoorExRSub2
import Derived.Test.YtfgaihajopfmfaaGreatDoorExOpen
namespace Go.Proofs.YtfgaihajopfmfaaGreatDoor
set_option linter.unusedSimpArgs false
set_option linter.unusedVariables false
open Go.RowKit

theorem fld_self {e : Ex} : zrE (fldF e) = true ∨ equE (fldF e) (fldF e) = true := by
  by_cases h : ckE e = 0
  · right
    have hc : ckE (fldF e) = 0 := by unfold fldF; rw [if_pos h]; exact fold_ck e h
    have : eqE (fldF e) (fldF e) = true := (eqE_iff _ _).2 rfl
    unfold equE
    simp [hc, this]
  · left
    unfold fldF
    rw [if_neg h]
    decide
theorem sub_self {nm : ByteArray} {e y : Ex} : zrE (subF nm e y).1 = true ∨ equE (subF nm e y).1 (subF nm e y).1 = true := by
  unfold subF
  by_cases h1 : ckE e ≠ 0 ∨ ckE y ≠ 0
  · left; rw [if_pos h1]; decide
  · rw [if_neg h1]
    by_cases h2 : nmB nm = false
    · left; rw [if_pos h2]; decide
    · rw [if_neg h2]
      by_cases h3 : ckE (sbE nm y e) ≠ 0
      · left; rw [if_pos h3]; exact (by decide : zrE zeroX = true)
      · right
        rw [if_neg h3]
        have : eqE (sbE nm y e) (sbE nm y e) = true := (eqE_iff _ _).2 rfl
        simp only [ne_eq, Decidable.not_not] at h3
        unfold equE
        simp [h3, this]
theorem self_fit {e : Ex} (h : zrE e = true ∨ equE e e = true) : fitE e := by
  rcases h with h | h
  · obtain ⟨k, o, s, v, es⟩ := e
    unfold zrE at h
    simp only [mkK, mkO, mkS, mkV, mkE, Bool.and_eq_true, decide_eq_true_eq] at h
    obtain ⟨⟨⟨_, h1⟩, _⟩, h2⟩ := h
    have e1 : s = .empty := @of_decide_eq_true _ _ h1
    have e2 : es.length = 0 := @of_decide_eq_true _ _ h2
    have e3 : es = [] := List.eq_nil_of_length_eq_zero e2
    clear h1 h2 e2
    subst e1 e3
    exact ⟨by decide, trivial⟩
  · unfold equE at h
    simp only [Bool.and_eq_true, decide_eq_true_eq] at h
    exact prE_fit e (ckE_ok.1 h.1.1).2.2

set_option maxRecDepth 100000 in
set_option maxHeartbeats 16000000 in
theorem exprChange_walk (ex : Ex) (slx : Value) (nm : ByteArray) (ey : Ex) (sly : Value) (w : World) (hKx : KX w ex slx) (hfx : fitE ex) (hKy : KX w ey sly) (hfy : fitE ey) (hnm : nm.size ≤ 9223372036854775807) (hI : TabI w) :
    Calls Tryz.prog 4 #[exV ex slx, .string nm, exV ey sly] w fun e w' => e = .returned (.bool true) ∧ Below w.heap.size w w' := by
  have HB0 : Hid (Below w.heap.size w w) := Lib.hid (Below.refl _ w)
  have ZI_0 := Lib.hid hI
  obtain ⟨ax, cx, _, e1, _, _, _⟩ := KA.inv hKx
  obtain ⟨nx, e2⟩ : ∃ n, ex.es.length = n := ⟨_, rfl⟩
  rw [e2] at e1
  subst e1
  clear e2
  have Xx_0 := Lib.hid hKx
  have HFx := Lib.hid hfx
  obtain ⟨ay, cy, _, e1, _, _, _⟩ := KA.inv hKy
  obtain ⟨ny, e2⟩ : ∃ n, ey.es.length = n := ⟨_, rfl⟩
  rw [e2] at e1
  subst e1
  clear e2
  have Xy_0 := Lib.hid hKy
  have HFy := Lib.hid hfy
  clear hI hKx hfx hKy hfy
  simp only [exV]
  obtain ⟨w1, hw1⟩ : ∃ W, (w.alloc (.cells #[.int .i64 ex.k, .int .i64 ex.o, .string ex.s, .int .i64 ex.v, (.slice ax nx cx)] TX (0, 0))).alloc (.cells #[.int .i64 ey.k, .int .i64 ey.o, .string ey.s, .int .i64 ey.v, (.slice ay ny cy)] TX (0, 0)) = W := ⟨_, rfl⟩
  obtain ⟨t0, t1, b1⟩ := twoBlocks w (.cells #[.int .i64 ex.k, .int .i64 ex.o, .string ex.s, .int .i64 ex.v, (.slice ax nx cx)] TX (0, 0)) (.cells #[.int .i64 ey.k, .int .i64 ey.o, .string ey.s, .int .i64 ey.v, (.slice ay ny cy)] TX (0, 0))
  rw [hw1] at t0 t1 b1
  have HB1 := Lib.hid (HB0.out.trans (b1.mono HB0.out.size))
  have Xx_1 := Lib.hid (KA.carry Xx_0.out b1)
  have Xy_1 := Lib.hid (KA.carry Xy_0.out b1)
  have ZI_1 := Lib.hid (TabI.below ZI_0.out b1)
  have Zx_1 : Hid (AtX w1 w.heap.size 0 ex (.slice ax nx cx)) := Lib.hid (by refine ⟨?_, ?_, ?_, ?_, ?_⟩ <;> simp [World.cell?, t0])
  have Zy_1 : Hid (AtX w1 (w.heap.size + 1) 0 ey (.slice ay ny cy)) := Lib.hid (by refine ⟨?_, ?_, ?_, ?_, ?_⟩ <;> simp [World.cell?, t1])
  have HW1 := Lib.hid hw1
  have HNM := Lib.hid hnm
  clear t0 t1 b1 hw1 hnm
  go_enter Tryz.func4, Tryz.ntmps4
  cases hg : grE ex with
  | true =>
    have hC2 := rGreat_any ex (.slice ax nx cx) w1 Xx_1.out
    simp only [exV] at hC2
    rw [hg] at hC2
    have HC2 := Lib.hid hC2
    clear hC2
    go_wp2_with fail
    rw [HW1.out]
    refine HC2.out.mono ?_
    rintro e w2 ⟨rfl, b2⟩
    have HB2 := Lib.hid (HB1.out.trans (b2.mono HB1.out.size))
    have Xx_2 := Lib.hid (KA.carry Xx_1.out b2)
    have Xy_2 := Lib.hid (KA.carry Xy_1.out b2)
    have ZI_2 := Lib.hid (TabI.below ZI_1.out b2)
    have Zx_2 := Lib.hid (AtX.later Zx_1.out b2)
    have Zy_2 := Lib.hid (AtX.later Zy_1.out b2)
    clear b2 HC2
    have hC3 := awake_any w2 ZI_2.out
    have HC3 := Lib.hid hC3
    clear hC3
    go_wp2_with fail
    refine HC3.out.mono ?_
    rintro e w3 ⟨rfl, b3⟩
    have HB3 := Lib.hid (HB2.out.trans (b3.mono HB2.out.size))
    have Xx_3 := Lib.hid (KA.carry Xx_2.out b3)
    have Xy_3 := Lib.hid (KA.carry Xy_2.out b3)
    have ZI_3 := Lib.hid (TabI.below ZI_2.out b3)
    have Zx_3 := Lib.hid (AtX.later Zx_2.out b3)
    have Zy_3 := Lib.hid (AtX.later Zy_2.out b3)
    clear b3 HC3
    go_wp2
    go_ret
    exact ⟨rfl, HB3.out⟩
  | false =>
    have hC2 := rGreat_any ex (.slice ax nx cx) w1 Xx_1.out
    simp only [exV] at hC2
    rw [hg] at hC2
    have HC2 := Lib.hid hC2
    clear hC2
    go_wp2_with fail
    rw [HW1.out]
    refine HC2.out.mono ?_
    rintro e w2 ⟨rfl, b2⟩
    have HB2 := Lib.hid (HB1.out.trans (b2.mono HB1.out.size))
    have Xx_2 := Lib.hid (KA.carry Xx_1.out b2)
    have Xy_2 := Lib.hid (KA.carry Xy_1.out b2)
    have ZI_2 := Lib.hid (TabI.below ZI_1.out b2)
    have Zx_2 := Lib.hid (AtX.later Zx_1.out b2)
    have Zy_2 := Lib.hid (AtX.later Zy_1.out b2)
    clear b2 HC2
    cases hh : grE ey with
    | true =>
      have hC3 := rGreat_any ey (.slice ay ny cy) w2 Xy_2.out
      simp only [exV] at hC3
      rw [hh] at hC3
      have HC3 := Lib.hid hC3
      clear hC3
      obtain ⟨qy0, qy1, qy2, qy3, qy4⟩ := Zy_2.out
      simp only [Nat.zero_add] at qy1 qy2 qy3 qy4
      go_wp2_with fail
      refine HC3.out.mono ?_
      rintro e w3 ⟨rfl, b3⟩
      have HB3 := Lib.hid (HB2.out.trans (b3.mono HB2.out.size))
      have Xx_3 := Lib.hid (KA.carry Xx_2.out b3)
      have Xy_3 := Lib.hid (KA.carry Xy_2.out b3)
      have ZI_3 := Lib.hid (TabI.below ZI_2.out b3)
      have Zx_3 := Lib.hid (AtX.later Zx_2.out b3)
      have Zy_3 := Lib.hid (AtX.later Zy_2.out b3)
      clear b3 HC3 qy0 qy1 qy2 qy3 qy4
      have hC4 := awake_any w3 ZI_3.out
      have HC4 := Lib.hid hC4
      clear hC4
      go_wp2_with fail
      refine HC4.out.mono ?_
      rintro e w4 ⟨rfl, b4⟩
      have HB4 := Lib.hid (HB3.out.trans (b4.mono HB3.out.size))
      have Xx_4 := Lib.hid (KA.carry Xx_3.out b4)
      have Xy_4 := Lib.hid (KA.carry Xy_3.out b4)
      have ZI_4 := Lib.hid (TabI.below ZI_3.out b4)
      have Zx_4 := Lib.hid (AtX.later Zx_3.out b4)
      have Zy_4 := Lib.hid (AtX.later Zy_3.out b4)
      clear b4 HC4
      go_wp2
      go_ret
      exact ⟨rfl, HB4.out⟩
    | false =>
      by_cases hl : 40 < nm.size
      · have hl2 : (40 : Int) < (nm.size : Int) := by omega
        have hC3 := rGreat_any ey (.slice ay ny cy) w2 Xy_2.out
        simp only [exV] at hC3
        rw [hh] at hC3
        have HC3 := Lib.hid hC3
        clear hC3
        obtain ⟨qy0, qy1, qy2, qy3, qy4⟩ := Zy_2.out
        simp only [Nat.zero_add] at qy1 qy2 qy3 qy4
        go_wp2_with fail
        refine HC3.out.mono ?_
        rintro e w3 ⟨rfl, b3⟩
        have HB3 := Lib.hid (HB2.out.trans (b3.mono HB2.out.size))
        have Xx_3 := Lib.hid (KA.carry Xx_2.out b3)
        have Xy_3 := Lib.hid (KA.carry Xy_2.out b3)
        have ZI_3 := Lib.hid (TabI.below ZI_2.out b3)
        have Zx_3 := Lib.hid (AtX.later Zx_2.out b3)
        have Zy_3 := Lib.hid (AtX.later Zy_2.out b3)
        clear b3 HC3 qy0 qy1 qy2 qy3 qy4
        have hC4 := awake_any w3 ZI_3.out
        have HC4 := Lib.hid hC4
        clear hC4
        go_wp2_with fail
        refine HC4.out.mono ?_
        rintro e w4 ⟨rfl, b4⟩
        have HB4 := Lib.hid (HB3.out.trans (b4.mono HB3.out.size))
        have Xx_4 := Lib.hid (KA.carry Xx_3.out b4)
        have Xy_4 := Lib.hid (KA.carry Xy_3.out b4)
        have ZI_4 := Lib.hid (TabI.below ZI_3.out b4)
        have Zx_4 := Lib.hid (AtX.later Zx_3.out b4)
        have Zy_4 := Lib.hid (AtX.later Zy_3.out b4)
        clear b4 HC4
        go_wp2
        go_ret
        exact ⟨rfl, HB4.out⟩
      · have hl2 : ¬ (40 : Int) < (nm.size : Int) := by omega
        obtain ⟨Fx, hF⟩ : ∃ r, fldF ex = r := ⟨_, rfl⟩
        obtain ⟨N, hN⟩ : ∃ r, ckE ex = r := ⟨_, rfl⟩
        obtain ⟨⟨Sx, M⟩, hS⟩ : ∃ r, subF nm ex ey = r := ⟨_, rfl⟩
        have HFS := Lib.hid (fld_self (e := ex))
        have HSS := Lib.hid (sub_self (nm := nm) (e := ex) (y := ey))
        rw [hF] at HFS
        rw [hS] at HSS
        have KhF := Lib.hid hF
        have KhN := Lib.hid hN
        have KhS := Lib.hid hS
        have HFF := Lib.hid (self_fit HFS.out)
        have HSF := Lib.hid (self_fit HSS.out)
        simp only [] at HSS HSF
        clear hF hN hS
        have hC3 := rGreat_any ey (.slice ay ny cy) w2 Xy_2.out
        simp only [exV] at hC3
        rw [hh] at hC3
        have HC3 := Lib.hid hC3
        clear hC3
        obtain ⟨qy0, qy1, qy2, qy3, qy4⟩ := Zy_2.out
        simp only [Nat.zero_add] at qy1 qy2 qy3 qy4
        go_wp2_with fail
        refine HC3.out.mono ?_
        rintro e w3 ⟨rfl, b3⟩
        have HB3 := Lib.hid (HB2.out.trans (b3.mono HB2.out.size))
        have Xx_3 := Lib.hid (KA.carry Xx_2.out b3)
        have Xy_3 := Lib.hid (KA.carry Xy_2.out b3)
        have ZI_3 := Lib.hid (TabI.below ZI_2.out b3)
        have Zx_3 := Lib.hid (AtX.later Zx_2.out b3)
        have Zy_3 := Lib.hid (AtX.later Zy_2.out b3)
        clear b3 HC3 qy0 qy1 qy2 qy3 qy4
        clear hg hh hl
        have hC4 := foldA ex Fx N (.slice ax nx cx) w3 Xx_3.out HFx.out ⟨KhF.out, KhN.out⟩
        simp only [exV] at hC4
        have HC4 := Lib.hid hC4
        clear hC4
        obtain ⟨qx0, qx1, qx2, qx3, qx4⟩ := Zx_3.out
        simp only [Nat.zero_add] at qx1 qx2 qx3 qx4
        go_wp2_with fail
        refine HC4.out.mono ?_
        rintro e w4 ⟨af, nf, cf, rfl, kf, b4⟩
        have HB4 := Lib.hid (HB3.out.trans (b4.mono HB3.out.size))
        have Xx_4 := Lib.hid (KA.carry Xx_3.out b4)
        have Xy_4 := Lib.hid (KA.carry Xy_3.out b4)
        have ZI_4 := Lib.hid (TabI.below ZI_3.out b4)
        have Zx_4 := Lib.hid (AtX.later Zx_3.out b4)
        have Zy_4 := Lib.hid (AtX.later Zy_3.out b4)
        have Xf_4 := Lib.hid (kf)
        clear b4 HC4 kf qx0 qx1 qx2 qx3 qx4
        try simp only [exV]
        obtain ⟨W5, hW5⟩ : ∃ W, w4.alloc (.cells #[.int .i64 0, .int .i64 0, .string ⟨#[]⟩, .int .i64 0, .slice none 0 0] TX (0, 0)) = W := ⟨_, rfl⟩
        obtain ⟨g1, b5, g3⟩ := varX w4 Fx ((.slice af nf cf)) W5 hW5
        have HG5 := Lib.hid g1
        have HW5 := Lib.hid hW5
        obtain ⟨w5, hw5⟩ : ∃ X, W5.setRow w4.heap.size #[.int .i64 Fx.k, .int .i64 Fx.o, .string Fx.s, .int .i64 Fx.v, (.slice af nf cf)] = X := ⟨_, rfl⟩
        rw [hw5] at b5 g3
        have HB5 := Lib.hid (HB4.out.trans (b5.mono HB4.out.size))
        have Xx_5 := Lib.hid (KA.carry Xx_4.out b5)
        have Xy_5 := Lib.hid (KA.carry Xy_4.out b5)
        have Xf_5 := Lib.hid (KA.carry Xf_4.out b5)
        have ZI_5 := Lib.hid (TabI.below ZI_4.out b5)
        have Zx_5 := Lib.hid (AtX.later Zx_4.out b5)
        have Zy_5 := Lib.hid (AtX.later Zy_4.out b5)
        have Zf_5 := Lib.hid g3
        have HV5 := Lib.hid hw5
        clear hW5 g1 g3 hw5 b5
        obtain ⟨qx0, qx1, qx2, qx3, qx4⟩ := Zx_5.out
        simp only [Nat.zero_add] at qx1 qx2 qx3 qx4
        try simp only [exV]
        go_wp2_with (rw [HW5.out]; refine wpList_store_row rfl TX (.tmp 7) (.tmp 30) rfl w4.heap.size #[.int .i64 Fx.k, .int .i64 Fx.o, .string Fx.s, .int .i64 Fx.v, (.slice af nf cf)] rfl rfl _ _ HG5.out (by kernel_rfl) rfl (by simp [Value.oneCell']) ?_; rw [HV5.out])
        have hC6 := rFold_any ex ax nx cx w5 Xx_5.out HFx.out
        simp only [exV] at hC6
        rw [KhF.out, KhN.out] at hC6
        have HC6 := Lib.hid hC6
        clear hC6
        refine HC6.out.mono ?_
        rintro e w6 ⟨ag, ng, cg, rfl, kg, b6⟩
        have HB6 := Lib.hid (HB5.out.trans (b6.mono HB5.out.size))
        have Xx_6 := Lib.hid (KA.carry Xx_5.out b6)
        have Xy_6 := Lib.hid (KA.carry Xy_5.out b6)
        have Xf_6 := Lib.hid (KA.carry Xf_5.out b6)
        have ZI_6 := Lib.hid (TabI.below ZI_5.out b6)
        have Zx_6 := Lib.hid (AtX.later Zx_5.out b6)
        have Zy_6 := Lib.hid (AtX.later Zy_5.out b6)
        have Zf_6 := Lib.hid (AtX.later Zf_5.out b6)
        have Xg_6 := Lib.hid (kg)
        clear b6 HC6 kg qx0 qx1 qx2 qx3 qx4
        try simp only [exV]
        obtain ⟨W7, hW7⟩ : ∃ W, w6.alloc (.cells #[.int .i64 0, .int .i64 0, .string ⟨#[]⟩, .int .i64 0, .slice none 0 0] TX (0, 0)) = W := ⟨_, rfl⟩
        obtain ⟨g1, b7, g3⟩ := varX w6 Fx ((.slice ag ng cg)) W7 hW7
        have HG7 := Lib.hid g1
        have HW7 := Lib.hid hW7
        obtain ⟨w7, hw7⟩ : ∃ X, W7.setRow w6.heap.size #[.int .i64 Fx.k, .int .i64 Fx.o, .string Fx.s, .int .i64 Fx.v, (.slice ag ng cg)] = X := ⟨_, rfl⟩
        rw [hw7] at b7 g3
        have HB7 := Lib.hid (HB6.out.trans (b7.mono HB6.out.size))
        have Xx_7 := Lib.hid (KA.carry Xx_6.out b7)
        have Xy_7 := Lib.hid (KA.carry Xy_6.out b7)
        have Xf_7 := Lib.hid (KA.carry Xf_6.out b7)
        have Xg_7 := Lib.hid (KA.carry Xg_6.out b7)
        have ZI_7 := Lib.hid (TabI.below ZI_6.out b7)
        have Zx_7 := Lib.hid (AtX.later Zx_6.out b7)
        have Zy_7 := Lib.hid (AtX.later Zy_6.out b7)
        have Zf_7 := Lib.hid (AtX.later Zf_6.out b7)
        have Zg_7 := Lib.hid g3
        have HV7 := Lib.hid hw7
        clear hW7 g1 g3 hw7 b7
        obtain ⟨qx0, qx1, qx2, qx3, qx4⟩ := Zx_7.out
        simp only [Nat.zero_add] at qx1 qx2 qx3 qx4
        obtain ⟨qy0, qy1, qy2, qy3, qy4⟩ := Zy_7.out
        simp only [Nat.zero_add] at qy1 qy2 qy3 qy4
        try simp only [exV]
        go_wp2_with (rw [HW7.out]; refine wpList_store_row rfl TX (.tmp 9) (.tmp 35) rfl w6.heap.size #[.int .i64 Fx.k, .int .i64 Fx.o, .string Fx.s, .int .i64 Fx.v, (.slice ag ng cg)] rfl rfl _ _ HG7.out (by kernel_rfl) rfl (by simp [Value.oneCell']) ?_; rw [HV7.out])
        have hC8 := Substitute_any nm ex ey ax nx cx ay ny cy w7 Xx_7.out Xy_7.out HFx.out HFy.out HNM.out
        simp only [exV] at hC8
        rw [KhS.out] at hC8
        have HC8 := Lib.hid hC8
        clear hC8
        refine HC8.out.mono ?_
        rintro e w8 ⟨ah, nh, ch, rfl, kh, b8⟩
        have HB8 := Lib.hid (HB7.out.trans (b8.mono HB7.out.size))
        have Xx_8 := Lib.hid (KA.carry Xx_7.out b8)
        have Xy_8 := Lib.hid (KA.carry Xy_7.out b8)
        have Xf_8 := Lib.hid (KA.carry Xf_7.out b8)
        have Xg_8 := Lib.hid (KA.carry Xg_7.out b8)
        have ZI_8 := Lib.hid (TabI.below ZI_7.out b8)
        have Zx_8 := Lib.hid (AtX.later Zx_7.out b8)
        have Zy_8 := Lib.hid (AtX.later Zy_7.out b8)
        have Zf_8 := Lib.hid (AtX.later Zf_7.out b8)
        have Zg_8 := Lib.hid (AtX.later Zg_7.out b8)
        have Xh_8 := Lib.hid (kh)
        clear b8 HC8 kh qx0 qx1 qx2 qx3 qx4 qy0 qy1 qy2 qy3 qy4
        try simp only [exV]
        obtain ⟨W9, hW9⟩ : ∃ W, w8.alloc (.cells #[.int .i64 0, .int .i64 0, .string ⟨#[]⟩, .int .i64 0, .slice none 0 0] TX (0, 0)) = W := ⟨_, rfl⟩
        obtain ⟨g1, b9, g3⟩ := varX w8 Sx ((.slice ah nh ch)) W9 hW9
        have HG9 := Lib.hid g1
        have HW9 := Lib.hid hW9
        obtain ⟨w9, hw9⟩ : ∃ X, W9.setRow w8.heap.size #[.int .i64 Sx.k, .int .i64 Sx.o, .string Sx.s, .int .i64 Sx.v, (.slice ah nh ch)] = X := ⟨_, rfl⟩
        rw [hw9] at b9 g3
        have HB9 := Lib.hid (HB8.out.trans (b9.mono HB8.out.size))
        have Xx_9 := Lib.hid (KA.carry Xx_8.out b9)
        have Xy_9 := Lib.hid (KA.carry Xy_8.out b9)
        have Xf_9 := Lib.hid (KA.carry Xf_8.out b9)
        have Xg_9 := Lib.hid (KA.carry Xg_8.out b9)
        have Xh_9 := Lib.hid (KA.carry Xh_8.out b9)
        have ZI_9 := Lib.hid (TabI.below ZI_8.out b9)
        have Zx_9 := Lib.hid (AtX.later Zx_8.out b9)
        have Zy_9 := Lib.hid (AtX.later Zy_8.out b9)
        have Zf_9 := Lib.hid (AtX.later Zf_8.out b9)
        have Zg_9 := Lib.hid (AtX.later Zg_8.out b9)
        have Zh_9 := Lib.hid g3
        have HV9 := Lib.hid hw9
        clear hW9 g1 g3 hw9 b9
        obtain ⟨qx0, qx1, qx2, qx3, qx4⟩ := Zx_9.out
        simp only [Nat.zero_add] at qx1 qx2 qx3 qx4
        obtain ⟨qy0, qy1, qy2, qy3, qy4⟩ := Zy_9.out
        simp only [Nat.zero_add] at qy1 qy2 qy3 qy4
        try simp only [exV]
        go_wp2_with (rw [HW9.out]; refine wpList_store_row rfl TX (.tmp 11) (.tmp 42) rfl w8.heap.size #[.int .i64 Sx.k, .int .i64 Sx.o, .string Sx.s, .int .i64 Sx.v, (.slice ah nh ch)] rfl rfl _ _ HG9.out (by kernel_rfl) rfl (by simp [Value.oneCell']) ?_; rw [HV9.out])
        have hC10 := rSubstitute_any nm ex ey ax nx cx ay ny cy w9 Xx_9.out Xy_9.out HFx.out HFy.out HNM.out
        simp only [exV] at hC10
        rw [KhS.out] at hC10
        have HC10 := Lib.hid hC10
        clear hC10
        refine HC10.out.mono ?_
        rintro e w10 ⟨ai, ni, ci, rfl, ki, b10⟩
        have HB10 := Lib.hid (HB9.out.trans (b10.mono HB9.out.size))
        have Xx_10 := Lib.hid (KA.carry Xx_9.out b10)
        have Xy_10 := Lib.hid (KA.carry Xy_9.out b10)
        have Xf_10 := Lib.hid (KA.carry Xf_9.out b10)
        have Xg_10 := Lib.hid (KA.carry Xg_9.out b10)
        have Xh_10 := Lib.hid (KA.carry Xh_9.out b10)
        have ZI_10 := Lib.hid (TabI.below ZI_9.out b10)
        have Zx_10 := Lib.hid (AtX.later Zx_9.out b10)
        have Zy_10 := Lib.hid (AtX.later Zy_9.out b10)
        have Zf_10 := Lib.hid (AtX.later Zf_9.out b10)
        have Zg_10 := Lib.hid (AtX.later Zg_9.out b10)
        have Zh_10 := Lib.hid (AtX.later Zh_9.out b10)
        have Xi_10 := Lib.hid (ki)
        clear b10 HC10 ki qx0 qx1 qx2 qx3 qx4 qy0 qy1 qy2 qy3 qy4
        try simp only [exV]
        obtain ⟨W11, hW11⟩ : ∃ W, w10.alloc (.cells #[.int .i64 0, .int .i64 0, .string ⟨#[]⟩, .int .i64 0, .slice none 0 0] TX (0, 0)) = W := ⟨_, rfl⟩
        obtain ⟨g1, b11, g3⟩ := varX w10 Sx ((.slice ai ni ci)) W11 hW11
        have HG11 := Lib.hid g1
        have HW11 := Lib.hid hW11
        obtain ⟨w11, hw11⟩ : ∃ X, W11.setRow w10.heap.size #[.int .i64 Sx.k, .int .i64 Sx.o, .string Sx.s, .int .i64 Sx.v, (.slice ai ni ci)] = X := ⟨_, rfl⟩
        rw [hw11] at b11 g3
        have HB11 := Lib.hid (HB10.out.trans (b11.mono HB10.out.size))
        have Xx_11 := Lib.hid (KA.carry Xx_10.out b11)
        have Xy_11 := Lib.hid (KA.carry Xy_10.out b11)
        have Xf_11 := Lib.hid (KA.carry Xf_10.out b11)
        have Xg_11 := Lib.hid (KA.carry Xg_10.out b11)
        have Xh_11 := Lib.hid (KA.carry Xh_10.out b11)
        have Xi_11 := Lib.hid (KA.carry Xi_10.out b11)
        have ZI_11 := Lib.hid (TabI.below ZI_10.out b11)
        have Zx_11 := Lib.hid (AtX.later Zx_10.out b11)
        have Zy_11 := Lib.hid (AtX.later Zy_10.out b11)
        have Zf_11 := Lib.hid (AtX.later Zf_10.out b11)
        have Zg_11 := Lib.hid (AtX.later Zg_10.out b11)
        have Zh_11 := Lib.hid (AtX.later Zh_10.out b11)
        have Zi_11 := Lib.hid g3
        have HV11 := Lib.hid hw11
        clear hW11 g1 g3 hw11 b11
        obtain ⟨qf0, qf1, qf2, qf3, qf4⟩ := Zf_11.out
        simp only [Nat.zero_add] at qf1 qf2 qf3 qf4
        obtain ⟨qg0, qg1, qg2, qg3, qg4⟩ := Zg_11.out
        simp only [Nat.zero_add] at qg1 qg2 qg3 qg4
        try simp only [exV]
        go_wp2_with (rw [HW11.out]; refine wpList_store_row rfl TX (.tmp 13) (.tmp 49) rfl w10.heap.size #[.int .i64 Sx.k, .int .i64 Sx.o, .string Sx.s, .int .i64 Sx.v, (.slice ai ni ci)] rfl rfl _ _ HG11.out (by kernel_rfl) rfl (by simp [Value.oneCell']) ?_; rw [HV11.out])
        have hC12 := same_yes Fx af nf cf ag ng cg w11 Xf_11.out Xg_11.out HFF.out HFS.out
        simp only [exV] at hC12
        have HC12 := Lib.hid hC12
        clear hC12
        refine HC12.out.mono ?_
        rintro e w12 ⟨rfl, b12⟩
        have HB12 := Lib.hid (HB11.out.trans (b12.mono HB11.out.size))
        have Xx_12 := Lib.hid (KA.carry Xx_11.out b12)
        have Xy_12 := Lib.hid (KA.carry Xy_11.out b12)
        have Xf_12 := Lib.hid (KA.carry Xf_11.out b12)
        have Xg_12 := Lib.hid (KA.carry Xg_11.out b12)
        have Xh_12 := Lib.hid (KA.carry Xh_11.out b12)
        have Xi_12 := Lib.hid (KA.carry Xi_11.out b12)
        have ZI_12 := Lib.hid (TabI.below ZI_11.out b12)
        have Zx_12 := Lib.hid (AtX.later Zx_11.out b12)
        have Zy_12 := Lib.hid (AtX.later Zy_11.out b12)
        have Zf_12 := Lib.hid (AtX.later Zf_11.out b12)
        have Zg_12 := Lib.hid (AtX.later Zg_11.out b12)
        have Zh_12 := Lib.hid (AtX.later Zh_11.out b12)
        have Zi_12 := Lib.hid (AtX.later Zi_11.out b12)
        clear b12 HC12 qf0 qf1 qf2 qf3 qf4 qg0 qg1 qg2 qg3 qg4
        obtain ⟨n1, n2⟩ := ieq (show N = N from rfl)
        obtain ⟨m1, m2⟩ := ieq (show M = M from rfl)
        have hC13 := same_yes Sx ah nh ch ai ni ci w12 Xh_12.out Xi_12.out HSF.out HSS.out
        simp only [exV] at hC13
        have HC13 := Lib.hid hC13
        clear hC13
        obtain ⟨qh0, qh1, qh2, qh3, qh4⟩ := Zh_12.out
        simp only [Nat.zero_add] at qh1 qh2 qh3 qh4
        obtain ⟨qi0, qi1, qi2, qi3, qi4⟩ := Zi_12.out
        simp only [Nat.zero_add] at qi1 qi2 qi3 qi4
        go_wp2_with fail
        refine HC13.out.mono ?_
        rintro e w13 ⟨rfl, b13⟩
        have HB13 := Lib.hid (HB12.out.trans (b13.mono HB12.out.size))
        have Xx_13 := Lib.hid (KA.carry Xx_12.out b13)
        have Xy_13 := Lib.hid (KA.carry Xy_12.out b13)
        have Xf_13 := Lib.hid (KA.carry Xf_12.out b13)
        have Xg_13 := Lib.hid (KA.carry Xg_12.out b13)
        have Xh_13 := Lib.hid (KA.carry Xh_12.out b13)
        have Xi_13 := Lib.hid (KA.carry Xi_12.out b13)
        have ZI_13 := Lib.hid (TabI.below ZI_12.out b13)
        have Zx_13 := Lib.hid (AtX.later Zx_12.out b13)
        have Zy_13 := Lib.hid (AtX.later Zy_12.out b13)
        have Zf_13 := Lib.hid (AtX.later Zf_12.out b13)
        have Zg_13 := Lib.hid (AtX.later Zg_12.out b13)
        have Zh_13 := Lib.hid (AtX.later Zh_12.out b13)
        have Zi_13 := Lib.hid (AtX.later Zi_12.out b13)
        clear b13 HC13 qh0 qh1 qh2 qh3 qh4 qi0 qi1 qi2 qi3 qi4
        have hC14 := awake_any w13 ZI_13.out
        have HC14 := Lib.hid hC14
        clear hC14
        go_wp2_with fail
        refine HC14.out.mono ?_
        rintro e w14 ⟨rfl, b14⟩
        have HB14 := Lib.hid (HB13.out.trans (b14.mono HB13.out.size))
        have Xx_14 := Lib.hid (KA.carry Xx_13.out b14)
        have Xy_14 := Lib.hid (KA.carry Xy_13.out b14)
        have Xf_14 := Lib.hid (KA.carry Xf_13.out b14)
        have Xg_14 := Lib.hid (KA.carry Xg_13.out b14)
        have Xh_14 := Lib.hid (KA.carry Xh_13.out b14)
        have Xi_14 := Lib.hid (KA.carry Xi_13.out b14)
        have ZI_14 := Lib.hid (TabI.below ZI_13.out b14)
        have Zx_14 := Lib.hid (AtX.later Zx_13.out b14)
        have Zy_14 := Lib.hid (AtX.later Zy_13.out b14)
        have Zf_14 := Lib.hid (AtX.later Zf_13.out b14)
        have Zg_14 := Lib.hid (AtX.later Zg_13.out b14)
        have Zh_14 := Lib.hid (AtX.later Zh_13.out b14)
        have Zi_14 := Lib.hid (AtX.later Zi_13.out b14)
        clear b14 HC14
        go_wp2
        go_ret
        exact ⟨rfl, HB14.out⟩

end Go.Proofs.YtfgaihajopfmfaaGreatDoor
