/-
  The walk of ExprFold.
-/
import Derived.Test.YtfgaihajopfmfaaDoorExAwake
import Derived.Test.YtfgaihajopfmfaaDoorExSame
import Derived.Test.YtfgaihajopfmfaaDoorExMath
import Derived.Test.YtfgaihajopfmfaaDoorExOpen
namespace Go.Proofs.YtfgaihajopfmfaaDoor
set_option linter.unusedSimpArgs false
set_option linter.unusedVariables false
open Go.RowKit

theorem fold_tyF (l : List Bd) {e : Ex} (h : ckE e = 0) : tyF l (fldE e) = tyF l e := by
  have h1 := (fold_same l e (ckE_ok.1 h).2.2).1
  unfold tyF
  rw [h, fold_ck e h, h1]
theorem fold_vlF (l : List Bd) {e : Ex} (h : ckE e = 0) : vlF l (fldE e) = vlF l e := by
  have h1 := (fold_same l e (ckE_ok.1 h).2.2).2
  unfold vlF
  rw [fold_tyF l h, h1]
theorem equE_refl {e : Ex} (h : ckE e = 0) : equE e e = true := by
  have : eqE e e = true := (eqE_iff e e).2 rfl
  unfold equE
  simp [h, this]

set_option maxRecDepth 100000 in
set_option maxHeartbeats 16000000 in
theorem exprFold_walk (ex : Ex) (slx : Value) (vbl : Value) (ll : List Bd) (w : World) (hKx : KX w ex slx) (hfx : fitE ex) (hBl : KB w vbl ll) (hll : fitB ll) (hI : TabI w) :
    Calls Tryd.prog 5 #[exV ex slx, vbl] w fun e w' => e = .returned (.bool true) ∧ Below w.heap.size w w' := by
  have HB0 : Hid (Below w.heap.size w w) := Lib.hid (Below.refl _ w)
  have ZI_0 := Lib.hid hI
  obtain ⟨ax, cx, _, e1, _, _, _⟩ := KA.inv hKx
  obtain ⟨nx, e2⟩ : ∃ n, ex.es.length = n := ⟨_, rfl⟩
  rw [e2] at e1
  subst e1
  clear e2
  have Xx_0 := Lib.hid hKx
  have HFx := Lib.hid hfx
  obtain ⟨al, cl, e1, _, _, _⟩ := id hBl
  obtain ⟨nl, e2⟩ : ∃ n, ll.length = n := ⟨_, rfl⟩
  rw [e2] at e1
  subst e1
  clear e2
  have Bl_0 := Lib.hid hBl
  have HLl := Lib.hid hll
  clear hI hKx hfx hBl hll
  simp only [exV]
  obtain ⟨w1, hw1⟩ : ∃ W, w.alloc (.cells #[.int .i64 ex.k, .int .i64 ex.o, .string ex.s, .int .i64 ex.v, (.slice ax nx cx)] TX (0, 0)) = W := ⟨_, rfl⟩
  have b1 : Below w.heap.size w w1 := by rw [← hw1]; exact below_allocW w _
  have z1 : AtX w1 w.heap.size 0 ex ((.slice ax nx cx)) := by rw [← hw1]; exact boxX w ex.k ex.o ex.s ex.v _ ex.es
  have HB1 := Lib.hid (HB0.out.trans (b1.mono HB0.out.size))
  have Xx_1 := Lib.hid (KA.carry Xx_0.out b1)
  have Bl_1 := Lib.hid (KB.carry Bl_0.out b1)
  have ZI_1 := Lib.hid (TabI.below ZI_0.out b1)
  have Zx_1 := Lib.hid z1
  have HW1 := Lib.hid hw1
  clear hw1 b1 z1
  go_enter Tryd.func5, Tryd.ntmps5
  cases hg : grE ex with
  | true =>
    have hC2 := rGreat_any ex (.slice ax nx cx) w1 Xx_1.out
    simp only [exV] at hC2
    rw [hg] at hC2
    have HC2 := Lib.hid hC2
    clear hC2
    go_wp2_with fail
    rw [HW1.out]
    refine HC2.out.mono ?_
    rintro e w2 ⟨rfl, b2⟩
    have HB2 := Lib.hid (HB1.out.trans (b2.mono HB1.out.size))
    have Xx_2 := Lib.hid (KA.carry Xx_1.out b2)
    have Bl_2 := Lib.hid (KB.carry Bl_1.out b2)
    have ZI_2 := Lib.hid (TabI.below ZI_1.out b2)
    have Zx_2 := Lib.hid (AtX.later Zx_1.out b2)
    clear b2 HC2
    have hC3 := awake_any w2 ZI_2.out
    have HC3 := Lib.hid hC3
    clear hC3
    go_wp2_with fail
    refine HC3.out.mono ?_
    rintro e w3 ⟨rfl, b3⟩
    have HB3 := Lib.hid (HB2.out.trans (b3.mono HB2.out.size))
    have Xx_3 := Lib.hid (KA.carry Xx_2.out b3)
    have Bl_3 := Lib.hid (KB.carry Bl_2.out b3)
    have ZI_3 := Lib.hid (TabI.below ZI_2.out b3)
    have Zx_3 := Lib.hid (AtX.later Zx_2.out b3)
    clear b3 HC3
    go_wp2
    go_ret
    exact ⟨rfl, HB3.out⟩
  | false =>
    have hC2 := rGreat_any ex (.slice ax nx cx) w1 Xx_1.out
    simp only [exV] at hC2
    rw [hg] at hC2
    have HC2 := Lib.hid hC2
    clear hC2
    go_wp2_with fail
    rw [HW1.out]
    refine HC2.out.mono ?_
    rintro e w2 ⟨rfl, b2⟩
    have HB2 := Lib.hid (HB1.out.trans (b2.mono HB1.out.size))
    have Xx_2 := Lib.hid (KA.carry Xx_1.out b2)
    have Bl_2 := Lib.hid (KB.carry Bl_1.out b2)
    have ZI_2 := Lib.hid (TabI.below ZI_1.out b2)
    have Zx_2 := Lib.hid (AtX.later Zx_1.out b2)
    clear b2 HC2
    cases hh : gtB ll with
    | true =>
      have hC3 := rGreatB_any ll (.slice al nl cl) w2 Bl_2.out
      rw [hh] at hC3
      have HC3 := Lib.hid hC3
      clear hC3
      go_wp2_with fail
      refine HC3.out.mono ?_
      rintro e w3 ⟨rfl, b3⟩
      have HB3 := Lib.hid (HB2.out.trans (b3.mono HB2.out.size))
      have Xx_3 := Lib.hid (KA.carry Xx_2.out b3)
      have Bl_3 := Lib.hid (KB.carry Bl_2.out b3)
      have ZI_3 := Lib.hid (TabI.below ZI_2.out b3)
      have Zx_3 := Lib.hid (AtX.later Zx_2.out b3)
      clear b3 HC3
      have hC4 := awake_any w3 ZI_3.out
      have HC4 := Lib.hid hC4
      clear hC4
      go_wp2_with fail
      refine HC4.out.mono ?_
      rintro e w4 ⟨rfl, b4⟩
      have HB4 := Lib.hid (HB3.out.trans (b4.mono HB3.out.size))
      have Xx_4 := Lib.hid (KA.carry Xx_3.out b4)
      have Bl_4 := Lib.hid (KB.carry Bl_3.out b4)
      have ZI_4 := Lib.hid (TabI.below ZI_3.out b4)
      have Zx_4 := Lib.hid (AtX.later Zx_3.out b4)
      clear b4 HC4
      go_wp2
      go_ret
      exact ⟨rfl, HB4.out⟩
    | false =>
      have hC3 := rGreatB_any ll (.slice al nl cl) w2 Bl_2.out
      rw [hh] at hC3
      have HC3 := Lib.hid hC3
      clear hC3
      go_wp2_with fail
      refine HC3.out.mono ?_
      rintro e w3 ⟨rfl, b3⟩
      have HB3 := Lib.hid (HB2.out.trans (b3.mono HB2.out.size))
      have Xx_3 := Lib.hid (KA.carry Xx_2.out b3)
      have Bl_3 := Lib.hid (KB.carry Bl_2.out b3)
      have ZI_3 := Lib.hid (TabI.below ZI_2.out b3)
      have Zx_3 := Lib.hid (AtX.later Zx_2.out b3)
      clear b3 HC3
      clear hh hg
      obtain ⟨F, hF⟩ : ∃ r, fldF ex = r := ⟨_, rfl⟩
      obtain ⟨Xn, hX⟩ : ∃ r, ckE ex = r := ⟨_, rfl⟩
      have hC4 := foldA ex F Xn (.slice ax nx cx) w3 Xx_3.out HFx.out ⟨hF, hX⟩
      simp only [exV] at hC4
      have HC4 := Lib.hid hC4
      clear hC4
      obtain ⟨qx0, qx1, qx2, qx3, qx4⟩ := Zx_3.out
      simp only [Nat.zero_add] at qx1 qx2 qx3 qx4
      go_wp2_with fail
      refine HC4.out.mono ?_
      rintro e w4 ⟨af, nf, cf, rfl, kf, b4⟩
      have HB4 := Lib.hid (HB3.out.trans (b4.mono HB3.out.size))
      have Xx_4 := Lib.hid (KA.carry Xx_3.out b4)
      have Bl_4 := Lib.hid (KB.carry Bl_3.out b4)
      have ZI_4 := Lib.hid (TabI.below ZI_3.out b4)
      have Zx_4 := Lib.hid (AtX.later Zx_3.out b4)
      have Xf_4 := Lib.hid (kf)
      clear b4 HC4 kf qx0 qx1 qx2 qx3 qx4
      try simp only [exV]
      by_cases hz : Xn = 0
      · subst hz
        have hF : fldE ex = F := by rw [← hF]; unfold fldF; rw [if_pos hX]
        have HCK := Lib.hid hX
        have hcF : ckE F = 0 := by rw [← hF]; exact fold_ck ex hX
        have hGF : fldF F = F := by unfold fldF; rw [if_pos hcF, ← hF]; exact fold_idem ex (ckE_ok.1 hX).2.2
        have HEQ := Lib.hid (equE_refl hcF)
        have HFF := Lib.hid (prE_fit F (ckE_ok.1 hcF).2.2)
        have hty : tyF ll F = tyF ll ex := by rw [← hF]; exact fold_tyF ll hX
        have hvl : vlF ll F = vlF ll ex := by rw [← hF]; exact fold_vlF ll hX
        have hsz : szE F ≤ szE ex := by rw [← hF]; exact fold_size ex (ckE_ok.1 hX).2.2
        obtain ⟨P, hP⟩ : ∃ n, min (szE F) 101 = n := ⟨_, rfl⟩
        obtain ⟨Q, hQ⟩ : ∃ n, min (szE ex) 101 = n := ⟨_, rfl⟩
        have hpq : P ≤ Q := by omega
        obtain ⟨⟨T, A⟩, hT⟩ : ∃ q, tyF ll ex = q := ⟨_, rfl⟩
        obtain ⟨⟨V, C⟩, hV⟩ : ∃ q, vlF ll ex = q := ⟨_, rfl⟩
        rw [hT] at hty
        rw [hV] at hvl
        have HGF := Lib.hid (And.intro hGF hcF)
        have KhT := Lib.hid hT
        have KhV := Lib.hid hV
        have Khty := Lib.hid hty
        have Khvl := Lib.hid hvl
        have KhP := Lib.hid hP
        have KhQ := Lib.hid hQ
        have HPQ := Lib.hid hpq
        clear hF hX hcF hGF hty hvl hsz hpq hT hV hP hQ
        obtain ⟨W5, hW5⟩ : ∃ W, w4.alloc (.cells #[.int .i64 0, .int .i64 0, .string ⟨#[]⟩, .int .i64 0, .slice none 0 0] TX (0, 0)) = W := ⟨_, rfl⟩
        obtain ⟨g1, b5, g3⟩ := varX w4 F ((.slice af nf cf)) W5 hW5
        have HG5 := Lib.hid g1
        have HW5 := Lib.hid hW5
        obtain ⟨w5, hw5⟩ : ∃ X, W5.setRow w4.heap.size #[.int .i64 F.k, .int .i64 F.o, .string F.s, .int .i64 F.v, (.slice af nf cf)] = X := ⟨_, rfl⟩
        rw [hw5] at b5 g3
        have HB5 := Lib.hid (HB4.out.trans (b5.mono HB4.out.size))
        have Xx_5 := Lib.hid (KA.carry Xx_4.out b5)
        have Xf_5 := Lib.hid (KA.carry Xf_4.out b5)
        have Bl_5 := Lib.hid (KB.carry Bl_4.out b5)
        have ZI_5 := Lib.hid (TabI.below ZI_4.out b5)
        have Zx_5 := Lib.hid (AtX.later Zx_4.out b5)
        have Zf_5 := Lib.hid g3
        have HV5 := Lib.hid hw5
        clear hW5 g1 g3 hw5 b5
        obtain ⟨qf0, qf1, qf2, qf3, qf4⟩ := Zf_5.out
        simp only [Nat.zero_add] at qf1 qf2 qf3 qf4
        try simp only [exV]
        go_wp2_with (rw [HW5.out]; refine wpList_store_row rfl TX (.tmp 5) (.tmp 27) rfl w4.heap.size #[.int .i64 F.k, .int .i64 F.o, .string F.s, .int .i64 F.v, (.slice af nf cf)] rfl rfl _ _ HG5.out (by kernel_rfl) rfl (by simp [Value.oneCell']) ?_; rw [HV5.out])
        have hC6 := foldA F F 0 (.slice af nf cf) w5 Xf_5.out HFF.out HGF.out
        simp only [exV] at hC6
        have HC6 := Lib.hid hC6
        clear hC6
        refine HC6.out.mono ?_
        rintro e w6 ⟨ag, ng, cg, rfl, kg, b6⟩
        have HB6 := Lib.hid (HB5.out.trans (b6.mono HB5.out.size))
        have Xx_6 := Lib.hid (KA.carry Xx_5.out b6)
        have Xf_6 := Lib.hid (KA.carry Xf_5.out b6)
        have Bl_6 := Lib.hid (KB.carry Bl_5.out b6)
        have ZI_6 := Lib.hid (TabI.below ZI_5.out b6)
        have Zx_6 := Lib.hid (AtX.later Zx_5.out b6)
        have Zf_6 := Lib.hid (AtX.later Zf_5.out b6)
        have Xg_6 := Lib.hid (kg)
        clear b6 HC6 kg qf0 qf1 qf2 qf3 qf4
        try simp only [exV]
        obtain ⟨W7, hW7⟩ : ∃ W, w6.alloc (.cells #[.int .i64 0, .int .i64 0, .string ⟨#[]⟩, .int .i64 0, .slice none 0 0] TX (0, 0)) = W := ⟨_, rfl⟩
        obtain ⟨g1, b7, g3⟩ := varX w6 F ((.slice ag ng cg)) W7 hW7
        have HG7 := Lib.hid g1
        have HW7 := Lib.hid hW7
        obtain ⟨w7, hw7⟩ : ∃ X, W7.setRow w6.heap.size #[.int .i64 F.k, .int .i64 F.o, .string F.s, .int .i64 F.v, (.slice ag ng cg)] = X := ⟨_, rfl⟩
        rw [hw7] at b7 g3
        have HB7 := Lib.hid (HB6.out.trans (b7.mono HB6.out.size))
        have Xx_7 := Lib.hid (KA.carry Xx_6.out b7)
        have Xf_7 := Lib.hid (KA.carry Xf_6.out b7)
        have Xg_7 := Lib.hid (KA.carry Xg_6.out b7)
        have Bl_7 := Lib.hid (KB.carry Bl_6.out b7)
        have ZI_7 := Lib.hid (TabI.below ZI_6.out b7)
        have Zx_7 := Lib.hid (AtX.later Zx_6.out b7)
        have Zf_7 := Lib.hid (AtX.later Zf_6.out b7)
        have Zg_7 := Lib.hid g3
        have HV7 := Lib.hid hw7
        clear hW7 g1 g3 hw7 b7
        obtain ⟨qx0, qx1, qx2, qx3, qx4⟩ := Zx_7.out
        simp only [Nat.zero_add] at qx1 qx2 qx3 qx4
        try simp only [exV]
        go_wp2_with (rw [HW7.out]; refine wpList_store_row rfl TX (.tmp 7) (.tmp 41) rfl w6.heap.size #[.int .i64 F.k, .int .i64 F.o, .string F.s, .int .i64 F.v, (.slice ag ng cg)] rfl rfl _ _ HG7.out (by kernel_rfl) rfl (by simp [Value.oneCell']) ?_; rw [HV7.out])
        have hC8 := Type_any ll (.slice al nl cl) ex (.slice ax nx cx) w7 Xx_7.out Bl_7.out HFx.out HLl.out
        simp only [exV] at hC8
        rw [KhT.out] at hC8
        have HC8 := Lib.hid hC8
        clear hC8
        refine HC8.out.mono ?_
        rintro e w8 ⟨rfl, b8⟩
        have HB8 := Lib.hid (HB7.out.trans (b8.mono HB7.out.size))
        have Xx_8 := Lib.hid (KA.carry Xx_7.out b8)
        have Xf_8 := Lib.hid (KA.carry Xf_7.out b8)
        have Xg_8 := Lib.hid (KA.carry Xg_7.out b8)
        have Bl_8 := Lib.hid (KB.carry Bl_7.out b8)
        have ZI_8 := Lib.hid (TabI.below ZI_7.out b8)
        have Zx_8 := Lib.hid (AtX.later Zx_7.out b8)
        have Zf_8 := Lib.hid (AtX.later Zf_7.out b8)
        have Zg_8 := Lib.hid (AtX.later Zg_7.out b8)
        clear b8 HC8 qx0 qx1 qx2 qx3 qx4
        have hC9 := Type_any ll (.slice al nl cl) F (.slice af nf cf) w8 Xf_8.out Bl_8.out HFF.out HLl.out
        simp only [exV] at hC9
        rw [Khty.out] at hC9
        have HC9 := Lib.hid hC9
        clear hC9
        obtain ⟨qf0, qf1, qf2, qf3, qf4⟩ := Zf_8.out
        simp only [Nat.zero_add] at qf1 qf2 qf3 qf4
        go_wp2_with fail
        refine HC9.out.mono ?_
        rintro e w9 ⟨rfl, b9⟩
        have HB9 := Lib.hid (HB8.out.trans (b9.mono HB8.out.size))
        have Xx_9 := Lib.hid (KA.carry Xx_8.out b9)
        have Xf_9 := Lib.hid (KA.carry Xf_8.out b9)
        have Xg_9 := Lib.hid (KA.carry Xg_8.out b9)
        have Bl_9 := Lib.hid (KB.carry Bl_8.out b9)
        have ZI_9 := Lib.hid (TabI.below ZI_8.out b9)
        have Zx_9 := Lib.hid (AtX.later Zx_8.out b9)
        have Zf_9 := Lib.hid (AtX.later Zf_8.out b9)
        have Zg_9 := Lib.hid (AtX.later Zg_8.out b9)
        clear b9 HC9 qf0 qf1 qf2 qf3 qf4
        have hC10 := Eval_any ll (.slice al nl cl) ex (.slice ax nx cx) w9 Xx_9.out Bl_9.out HFx.out HLl.out
        simp only [exV] at hC10
        rw [KhV.out] at hC10
        have HC10 := Lib.hid hC10
        clear hC10
        obtain ⟨qx0, qx1, qx2, qx3, qx4⟩ := Zx_9.out
        simp only [Nat.zero_add] at qx1 qx2 qx3 qx4
        go_wp2_with fail
        refine HC10.out.mono ?_
        rintro e w10 ⟨rfl, b10⟩
        have HB10 := Lib.hid (HB9.out.trans (b10.mono HB9.out.size))
        have Xx_10 := Lib.hid (KA.carry Xx_9.out b10)
        have Xf_10 := Lib.hid (KA.carry Xf_9.out b10)
        have Xg_10 := Lib.hid (KA.carry Xg_9.out b10)
        have Bl_10 := Lib.hid (KB.carry Bl_9.out b10)
        have ZI_10 := Lib.hid (TabI.below ZI_9.out b10)
        have Zx_10 := Lib.hid (AtX.later Zx_9.out b10)
        have Zf_10 := Lib.hid (AtX.later Zf_9.out b10)
        have Zg_10 := Lib.hid (AtX.later Zg_9.out b10)
        clear b10 HC10 qx0 qx1 qx2 qx3 qx4
        have hC11 := Eval_any ll (.slice al nl cl) F (.slice af nf cf) w10 Xf_10.out Bl_10.out HFF.out HLl.out
        simp only [exV] at hC11
        rw [Khvl.out] at hC11
        have HC11 := Lib.hid hC11
        clear hC11
        obtain ⟨qf0, qf1, qf2, qf3, qf4⟩ := Zf_10.out
        simp only [Nat.zero_add] at qf1 qf2 qf3 qf4
        go_wp2_with fail
        refine HC11.out.mono ?_
        rintro e w11 ⟨rfl, b11⟩
        have HB11 := Lib.hid (HB10.out.trans (b11.mono HB10.out.size))
        have Xx_11 := Lib.hid (KA.carry Xx_10.out b11)
        have Xf_11 := Lib.hid (KA.carry Xf_10.out b11)
        have Xg_11 := Lib.hid (KA.carry Xg_10.out b11)
        have Bl_11 := Lib.hid (KB.carry Bl_10.out b11)
        have ZI_11 := Lib.hid (TabI.below ZI_10.out b11)
        have Zx_11 := Lib.hid (AtX.later Zx_10.out b11)
        have Zf_11 := Lib.hid (AtX.later Zf_10.out b11)
        have Zg_11 := Lib.hid (AtX.later Zg_10.out b11)
        clear b11 HC11 qf0 qf1 qf2 qf3 qf4
        go_wp2_with fail
        refine wp_region_held (S := fun w' => AtX w' (w.heap.size) 0 ex (.slice ax nx cx) ∧ AtX w' (w4.heap.size) 0 F (.slice af nf cf) ∧ AtX w' (w6.heap.size) 0 F (.slice ag ng cg)) (by kernel_rfl) ?_
        change wpAnyH _ _ _ _ _ _ _ _ w11.drew
        obtain ⟨w12, hw12⟩ : ∃ W, w11.drew = W := ⟨_, rfl⟩
        have b12 : Below w11.heap.size w11 w12 := by rw [← hw12]; exact (Below.refl _ _).drew
        have HB12 := Lib.hid (HB11.out.trans (b12.mono HB11.out.size))
        have Xx_12 := Lib.hid (KA.carry Xx_11.out b12)
        have Xf_12 := Lib.hid (KA.carry Xf_11.out b12)
        have Xg_12 := Lib.hid (KA.carry Xg_11.out b12)
        have Bl_12 := Lib.hid (KB.carry Bl_11.out b12)
        have ZI_12 := Lib.hid (TabI.below ZI_11.out b12)
        have Zx_12 := Lib.hid (AtX.later Zx_11.out b12)
        have Zf_12 := Lib.hid (AtX.later Zf_11.out b12)
        have Zg_12 := Lib.hid (AtX.later Zg_11.out b12)
        rw [hw12]
        clear b12 hw12
        refine wpAnyH_read (i := 0) (v := .int .i64 0) rfl (by kernel_rfl) (by kernel_rfl) (by kernel_rfl) (fun _ _ _ h => h) (by rfl) (fun _ _ => rfl) (⟨Zx_12.out, Zf_12.out, Zg_12.out⟩) ?_
        simp only [Act.put, List.setIfInBounds_toArray, List.set_cons_zero, List.set_cons_succ]
        refine wpAnyH_read (i := 1) (v := .bool true) rfl (by kernel_rfl) (by kernel_rfl) (by kernel_rfl) (fun _ _ _ h => h) (by rfl) (fun _ _ => rfl) (⟨Zx_12.out, Zf_12.out, Zg_12.out⟩) ?_
        simp only [Act.put, List.setIfInBounds_toArray, List.set_cons_zero, List.set_cons_succ]
        refine wpAnyH_read (i := 2) (v := .bool true) rfl (by kernel_rfl) (by kernel_rfl) (by kernel_rfl) (fun _ _ _ h => h) (by rfl) (fun _ _ => rfl) (⟨Zx_12.out, Zf_12.out, Zg_12.out⟩) ?_
        simp only [Act.put, List.setIfInBounds_toArray, List.set_cons_zero, List.set_cons_succ]
        refine wpAnyH_read (i := 3) (v := .agg #[.int .i64 F.k, .int .i64 F.o, .string F.s, .int .i64 F.v, (.slice af nf cf)]) rfl (by kernel_rfl) (by kernel_rfl) (by kernel_rfl) (fun _ _ _ h => h) (by rfl) (by rintro V ⟨⟨r00, r01, r02, r03, r04⟩, ⟨r10, r11, r12, r13, r14⟩, ⟨r20, r21, r22, r23, r24⟩⟩; simp only [Nat.zero_add] at r11 r12 r13 r14; go_simp) (⟨Zx_12.out, Zf_12.out, Zg_12.out⟩) ?_
        simp only [Act.put, List.setIfInBounds_toArray, List.set_cons_zero, List.set_cons_succ]
        refine wpAnyH_read (i := 4) (v := .agg #[.int .i64 F.k, .int .i64 F.o, .string F.s, .int .i64 F.v, (.slice ag ng cg)]) rfl (by kernel_rfl) (by kernel_rfl) (by kernel_rfl) (fun _ _ _ h => h) (by rfl) (by rintro V ⟨⟨r00, r01, r02, r03, r04⟩, ⟨r10, r11, r12, r13, r14⟩, ⟨r20, r21, r22, r23, r24⟩⟩; simp only [Nat.zero_add] at r21 r22 r23 r24; go_simp) (⟨Zx_12.out, Zf_12.out, Zg_12.out⟩) ?_
        simp only [Act.put, List.setIfInBounds_toArray, List.set_cons_zero, List.set_cons_succ]
        refine wpAnyH_next (i := 5) rfl (by kernel_rfl) ?_
        have hC13 := Equal_any F F af nf cf ag ng cg w12 Xf_12.out Xg_12.out HFF.out HFF.out
        simp only [exV] at hC13
        rw [HEQ.out] at hC13
        have HC13 := Lib.hid hC13
        clear hC13
        go_wp2_with fail
        refine HC13.out.mono ?_
        rintro e w13 ⟨rfl, b13⟩
        have HB13 := Lib.hid (HB12.out.trans (b13.mono HB12.out.size))
        have Xx_13 := Lib.hid (KA.carry Xx_12.out b13)
        have Xf_13 := Lib.hid (KA.carry Xf_12.out b13)
        have Xg_13 := Lib.hid (KA.carry Xg_12.out b13)
        have Bl_13 := Lib.hid (KB.carry Bl_12.out b13)
        have ZI_13 := Lib.hid (TabI.below ZI_12.out b13)
        have Zx_13 := Lib.hid (AtX.later Zx_12.out b13)
        have Zf_13 := Lib.hid (AtX.later Zf_12.out b13)
        have Zg_13 := Lib.hid (AtX.later Zg_12.out b13)
        clear b13 HC13
        try simp only [exV]
        go_wp2_with fail
        refine ⟨⟨Zx_13.out, Zf_13.out, Zg_13.out⟩, ?_⟩
        refine wpAnyH_read (i := 6) (v := .bool true) rfl (by kernel_rfl) (by kernel_rfl) (by kernel_rfl) (fun _ _ _ h => h) (by rfl) (fun _ _ => rfl) (⟨Zx_13.out, Zf_13.out, Zg_13.out⟩) ?_
        simp only [Act.put, List.setIfInBounds_toArray, List.set_cons_zero, List.set_cons_succ]
        refine wpAnyH_read (i := 7) (v := .bool true) rfl (by kernel_rfl) (by kernel_rfl) (by kernel_rfl) (fun _ _ _ h => h) (by rfl) (fun _ _ => rfl) (⟨Zx_13.out, Zf_13.out, Zg_13.out⟩) ?_
        simp only [Act.put, List.setIfInBounds_toArray, List.set_cons_zero, List.set_cons_succ]
        refine wpAnyH_read (i := 8) (v := .int .i64 T) rfl (by kernel_rfl) (by kernel_rfl) (by kernel_rfl) (fun _ _ _ h => h) (by rfl) (fun _ _ => rfl) (⟨Zx_13.out, Zf_13.out, Zg_13.out⟩) ?_
        simp only [Act.put, List.setIfInBounds_toArray, List.set_cons_zero, List.set_cons_succ]
        refine wpAnyH_read (i := 9) (v := .int .i64 T) rfl (by kernel_rfl) (by kernel_rfl) (by kernel_rfl) (fun _ _ _ h => h) (by rfl) (fun _ _ => rfl) (⟨Zx_13.out, Zf_13.out, Zg_13.out⟩) ?_
        simp only [Act.put, List.setIfInBounds_toArray, List.set_cons_zero, List.set_cons_succ]
        refine wpAnyH_read (i := 10) (v := .bool true) rfl (by kernel_rfl) (by kernel_rfl) (by kernel_rfl) (fun _ _ _ h => h) (by rfl) (by rintro V -; go_simp) (⟨Zx_13.out, Zf_13.out, Zg_13.out⟩) ?_
        simp only [Act.put, List.setIfInBounds_toArray, List.set_cons_zero, List.set_cons_succ]
        refine wpAnyH_read (i := 11) (v := .bool true) rfl (by kernel_rfl) (by kernel_rfl) (by kernel_rfl) (fun _ _ _ h => h) (by rfl) (fun _ _ => rfl) (⟨Zx_13.out, Zf_13.out, Zg_13.out⟩) ?_
        simp only [Act.put, List.setIfInBounds_toArray, List.set_cons_zero, List.set_cons_succ]
        refine wpAnyH_read (i := 12) (v := .bool true) rfl (by kernel_rfl) (by kernel_rfl) (by kernel_rfl) (fun _ _ _ h => h) (by rfl) (fun _ _ => rfl) (⟨Zx_13.out, Zf_13.out, Zg_13.out⟩) ?_
        simp only [Act.put, List.setIfInBounds_toArray, List.set_cons_zero, List.set_cons_succ]
        refine wpAnyH_read (i := 13) (v := .int .i64 A) rfl (by kernel_rfl) (by kernel_rfl) (by kernel_rfl) (fun _ _ _ h => h) (by rfl) (fun _ _ => rfl) (⟨Zx_13.out, Zf_13.out, Zg_13.out⟩) ?_
        simp only [Act.put, List.setIfInBounds_toArray, List.set_cons_zero, List.set_cons_succ]
        refine wpAnyH_read (i := 14) (v := .int .i64 A) rfl (by kernel_rfl) (by kernel_rfl) (by kernel_rfl) (fun _ _ _ h => h) (by rfl) (fun _ _ => rfl) (⟨Zx_13.out, Zf_13.out, Zg_13.out⟩) ?_
        simp only [Act.put, List.setIfInBounds_toArray, List.set_cons_zero, List.set_cons_succ]
        refine wpAnyH_read (i := 15) (v := .bool true) rfl (by kernel_rfl) (by kernel_rfl) (by kernel_rfl) (fun _ _ _ h => h) (by rfl) (by rintro V -; go_simp) (⟨Zx_13.out, Zf_13.out, Zg_13.out⟩) ?_
        simp only [Act.put, List.setIfInBounds_toArray, List.set_cons_zero, List.set_cons_succ]
        refine wpAnyH_read (i := 16) (v := .bool true) rfl (by kernel_rfl) (by kernel_rfl) (by kernel_rfl) (fun _ _ _ h => h) (by rfl) (fun _ _ => rfl) (⟨Zx_13.out, Zf_13.out, Zg_13.out⟩) ?_
        simp only [Act.put, List.setIfInBounds_toArray, List.set_cons_zero, List.set_cons_succ]
        refine wpAnyH_read (i := 17) (v := .bool true) rfl (by kernel_rfl) (by kernel_rfl) (by kernel_rfl) (fun _ _ _ h => h) (by rfl) (fun _ _ => rfl) (⟨Zx_13.out, Zf_13.out, Zg_13.out⟩) ?_
        simp only [Act.put, List.setIfInBounds_toArray, List.set_cons_zero, List.set_cons_succ]
        refine wpAnyH_read (i := 18) (v := .int .i64 V) rfl (by kernel_rfl) (by kernel_rfl) (by kernel_rfl) (fun _ _ _ h => h) (by rfl) (fun _ _ => rfl) (⟨Zx_13.out, Zf_13.out, Zg_13.out⟩) ?_
        simp only [Act.put, List.setIfInBounds_toArray, List.set_cons_zero, List.set_cons_succ]
        refine wpAnyH_read (i := 19) (v := .int .i64 V) rfl (by kernel_rfl) (by kernel_rfl) (by kernel_rfl) (fun _ _ _ h => h) (by rfl) (fun _ _ => rfl) (⟨Zx_13.out, Zf_13.out, Zg_13.out⟩) ?_
        simp only [Act.put, List.setIfInBounds_toArray, List.set_cons_zero, List.set_cons_succ]
        refine wpAnyH_read (i := 20) (v := .bool true) rfl (by kernel_rfl) (by kernel_rfl) (by kernel_rfl) (fun _ _ _ h => h) (by rfl) (by rintro V -; go_simp) (⟨Zx_13.out, Zf_13.out, Zg_13.out⟩) ?_
        simp only [Act.put, List.setIfInBounds_toArray, List.set_cons_zero, List.set_cons_succ]
        refine wpAnyH_read (i := 21) (v := .bool true) rfl (by kernel_rfl) (by kernel_rfl) (by kernel_rfl) (fun _ _ _ h => h) (by rfl) (fun _ _ => rfl) (⟨Zx_13.out, Zf_13.out, Zg_13.out⟩) ?_
        simp only [Act.put, List.setIfInBounds_toArray, List.set_cons_zero, List.set_cons_succ]
        refine wpAnyH_read (i := 22) (v := .bool true) rfl (by kernel_rfl) (by kernel_rfl) (by kernel_rfl) (fun _ _ _ h => h) (by rfl) (fun _ _ => rfl) (⟨Zx_13.out, Zf_13.out, Zg_13.out⟩) ?_
        simp only [Act.put, List.setIfInBounds_toArray, List.set_cons_zero, List.set_cons_succ]
        refine wpAnyH_read (i := 23) (v := .int .i64 C) rfl (by kernel_rfl) (by kernel_rfl) (by kernel_rfl) (fun _ _ _ h => h) (by rfl) (fun _ _ => rfl) (⟨Zx_13.out, Zf_13.out, Zg_13.out⟩) ?_
        simp only [Act.put, List.setIfInBounds_toArray, List.set_cons_zero, List.set_cons_succ]
        refine wpAnyH_read (i := 24) (v := .int .i64 C) rfl (by kernel_rfl) (by kernel_rfl) (by kernel_rfl) (fun _ _ _ h => h) (by rfl) (fun _ _ => rfl) (⟨Zx_13.out, Zf_13.out, Zg_13.out⟩) ?_
        simp only [Act.put, List.setIfInBounds_toArray, List.set_cons_zero, List.set_cons_succ]
        refine wpAnyH_read (i := 25) (v := .bool true) rfl (by kernel_rfl) (by kernel_rfl) (by kernel_rfl) (fun _ _ _ h => h) (by rfl) (by rintro V -; go_simp) (⟨Zx_13.out, Zf_13.out, Zg_13.out⟩) ?_
        simp only [Act.put, List.setIfInBounds_toArray, List.set_cons_zero, List.set_cons_succ]
        refine wpAnyH_read (i := 26) (v := .bool true) rfl (by kernel_rfl) (by kernel_rfl) (by kernel_rfl) (fun _ _ _ h => h) (by rfl) (fun _ _ => rfl) (⟨Zx_13.out, Zf_13.out, Zg_13.out⟩) ?_
        simp only [Act.put, List.setIfInBounds_toArray, List.set_cons_zero, List.set_cons_succ]
        refine wpAnyH_read (i := 27) (v := .bool true) rfl (by kernel_rfl) (by kernel_rfl) (by kernel_rfl) (fun _ _ _ h => h) (by rfl) (fun _ _ => rfl) (⟨Zx_13.out, Zf_13.out, Zg_13.out⟩) ?_
        simp only [Act.put, List.setIfInBounds_toArray, List.set_cons_zero, List.set_cons_succ]
        refine wpAnyH_read (i := 28) (v := .agg #[.int .i64 F.k, .int .i64 F.o, .string F.s, .int .i64 F.v, (.slice af nf cf)]) rfl (by kernel_rfl) (by kernel_rfl) (by kernel_rfl) (fun _ _ _ h => h) (by rfl) (by rintro V ⟨⟨r00, r01, r02, r03, r04⟩, ⟨r10, r11, r12, r13, r14⟩, ⟨r20, r21, r22, r23, r24⟩⟩; simp only [Nat.zero_add] at r11 r12 r13 r14; go_simp) (⟨Zx_13.out, Zf_13.out, Zg_13.out⟩) ?_
        simp only [Act.put, List.setIfInBounds_toArray, List.set_cons_zero, List.set_cons_succ]
        refine wpAnyH_read (i := 30) (v := .agg #[.int .i64 ex.k, .int .i64 ex.o, .string ex.s, .int .i64 ex.v, (.slice ax nx cx)]) rfl (by kernel_rfl) (by kernel_rfl) (by kernel_rfl) (fun _ _ _ h => h) (by rfl) (by rintro V ⟨⟨r00, r01, r02, r03, r04⟩, ⟨r10, r11, r12, r13, r14⟩, ⟨r20, r21, r22, r23, r24⟩⟩; simp only [Nat.zero_add] at r01 r02 r03 r04; go_simp) (⟨Zx_13.out, Zf_13.out, Zg_13.out⟩) ?_
        simp only [Act.put, List.setIfInBounds_toArray, List.set_cons_zero, List.set_cons_succ]
        refine wpAnyH_next (i := 29) rfl (by kernel_rfl) ?_
        have hC14 := size_any F (.slice af nf cf) w13 Xf_13.out HFF.out
        simp only [exV] at hC14
        rw [KhP.out] at hC14
        have HC14 := Lib.hid hC14
        clear hC14
        go_wp2_with fail
        refine HC14.out.mono ?_
        rintro e w14 ⟨rfl, b14⟩
        have HB14 := Lib.hid (HB13.out.trans (b14.mono HB13.out.size))
        have Xx_14 := Lib.hid (KA.carry Xx_13.out b14)
        have Xf_14 := Lib.hid (KA.carry Xf_13.out b14)
        have Xg_14 := Lib.hid (KA.carry Xg_13.out b14)
        have Bl_14 := Lib.hid (KB.carry Bl_13.out b14)
        have ZI_14 := Lib.hid (TabI.below ZI_13.out b14)
        have Zx_14 := Lib.hid (AtX.later Zx_13.out b14)
        have Zf_14 := Lib.hid (AtX.later Zf_13.out b14)
        have Zg_14 := Lib.hid (AtX.later Zg_13.out b14)
        clear b14 HC14
        try simp only [exV]
        go_wp2_with fail
        refine ⟨⟨Zx_14.out, Zf_14.out, Zg_14.out⟩, ?_⟩
        refine wpAnyH_next (i := 31) rfl (by kernel_rfl) ?_
        have hC15 := size_any ex (.slice ax nx cx) w14 Xx_14.out HFx.out
        simp only [exV] at hC15
        rw [KhQ.out] at hC15
        have HC15 := Lib.hid hC15
        clear hC15
        go_wp2_with fail
        refine HC15.out.mono ?_
        rintro e w15 ⟨rfl, b15⟩
        have HB15 := Lib.hid (HB14.out.trans (b15.mono HB14.out.size))
        have Xx_15 := Lib.hid (KA.carry Xx_14.out b15)
        have Xf_15 := Lib.hid (KA.carry Xf_14.out b15)
        have Xg_15 := Lib.hid (KA.carry Xg_14.out b15)
        have Bl_15 := Lib.hid (KB.carry Bl_14.out b15)
        have ZI_15 := Lib.hid (TabI.below ZI_14.out b15)
        have Zx_15 := Lib.hid (AtX.later Zx_14.out b15)
        have Zf_15 := Lib.hid (AtX.later Zf_14.out b15)
        have Zg_15 := Lib.hid (AtX.later Zg_14.out b15)
        clear b15 HC15
        try simp only [exV]
        go_wp2_with fail
        refine ⟨⟨Zx_15.out, Zf_15.out, Zg_15.out⟩, ?_⟩
        have m1 : (P : Int) ≤ (Q : Int) := by have := HPQ.out; omega
        have m2 : decide ((P : Int) ≤ (Q : Int)) = true := decide_eq_true m1
        refine wpAnyH_read (i := 32) (v := .bool true) rfl (by kernel_rfl) (by kernel_rfl) (by kernel_rfl) (fun _ _ _ h => h) (by rfl) (by rintro V -; go_simp) (⟨Zx_15.out, Zf_15.out, Zg_15.out⟩) ?_
        simp only [Act.put, List.setIfInBounds_toArray, List.set_cons_zero, List.set_cons_succ]
        refine wpAnyH_read (i := 33) (v := .bool true) rfl (by kernel_rfl) (by kernel_rfl) (by kernel_rfl) (fun _ _ _ h => h) (by rfl) (fun _ _ => rfl) (⟨Zx_15.out, Zf_15.out, Zg_15.out⟩) ?_
        simp only [Act.put, List.setIfInBounds_toArray, List.set_cons_zero, List.set_cons_succ]
        refine wpAnyH_read (i := 34) (v := .bool true) rfl (by kernel_rfl) (by kernel_rfl) (by kernel_rfl) (fun _ _ _ h => h) (by rfl) (fun _ _ => rfl) (⟨Zx_15.out, Zf_15.out, Zg_15.out⟩) ?_
        simp only [Act.put, List.setIfInBounds_toArray, List.set_cons_zero, List.set_cons_succ]
        refine wpAnyH_next (i := 35) rfl (by kernel_rfl) ?_
        have hC16 := awake_any w15 ZI_15.out
        have HC16 := Lib.hid hC16
        clear hC16
        go_wp2_with fail
        refine HC16.out.mono ?_
        rintro e w16 ⟨rfl, b16⟩
        have HB16 := Lib.hid (HB15.out.trans (b16.mono HB15.out.size))
        have Xx_16 := Lib.hid (KA.carry Xx_15.out b16)
        have Xf_16 := Lib.hid (KA.carry Xf_15.out b16)
        have Xg_16 := Lib.hid (KA.carry Xg_15.out b16)
        have Bl_16 := Lib.hid (KB.carry Bl_15.out b16)
        have ZI_16 := Lib.hid (TabI.below ZI_15.out b16)
        have Zx_16 := Lib.hid (AtX.later Zx_15.out b16)
        have Zf_16 := Lib.hid (AtX.later Zf_15.out b16)
        have Zg_16 := Lib.hid (AtX.later Zg_15.out b16)
        clear b16 HC16
        try simp only [exV]
        go_wp2_with fail
        refine ⟨⟨Zx_16.out, Zf_16.out, Zg_16.out⟩, ?_⟩
        refine wpAnyH_read (i := 36) (v := .bool true) rfl (by kernel_rfl) (by kernel_rfl) (by kernel_rfl) (fun _ _ _ h => h) (by rfl) (fun _ _ => rfl) (⟨Zx_16.out, Zf_16.out, Zg_16.out⟩) ?_
        simp only [Act.put, List.setIfInBounds_toArray, List.set_cons_zero, List.set_cons_succ]
        refine wpAnyH_next (i := 37) rfl (by kernel_rfl) ?_
        go_wp2_with fail
        refine ⟨⟨Zx_16.out, Zf_16.out, Zg_16.out⟩, ?_⟩
        refine wpAnyH_done (by kernel_rfl) ?_ _
        go_wp2
        go_ret
        exact ⟨rfl, HB16.out⟩
      · obtain ⟨x1, x2⟩ := ine hz
        have HX := Lib.hid hX
        clear hF hX hz
        obtain ⟨W5, hW5⟩ : ∃ W, w4.alloc (.cells #[.int .i64 0, .int .i64 0, .string ⟨#[]⟩, .int .i64 0, .slice none 0 0] TX (0, 0)) = W := ⟨_, rfl⟩
        obtain ⟨g1, b5, g3⟩ := varX w4 F ((.slice af nf cf)) W5 hW5
        have HG5 := Lib.hid g1
        have HW5 := Lib.hid hW5
        obtain ⟨w5, hw5⟩ : ∃ X, W5.setRow w4.heap.size #[.int .i64 F.k, .int .i64 F.o, .string F.s, .int .i64 F.v, (.slice af nf cf)] = X := ⟨_, rfl⟩
        rw [hw5] at b5 g3
        have HB5 := Lib.hid (HB4.out.trans (b5.mono HB4.out.size))
        have Xx_5 := Lib.hid (KA.carry Xx_4.out b5)
        have Xf_5 := Lib.hid (KA.carry Xf_4.out b5)
        have Bl_5 := Lib.hid (KB.carry Bl_4.out b5)
        have ZI_5 := Lib.hid (TabI.below ZI_4.out b5)
        have Zx_5 := Lib.hid (AtX.later Zx_4.out b5)
        have Zf_5 := Lib.hid g3
        have HV5 := Lib.hid hw5
        clear hW5 g1 g3 hw5 b5
        obtain ⟨qx0, qx1, qx2, qx3, qx4⟩ := Zx_5.out
        simp only [Nat.zero_add] at qx1 qx2 qx3 qx4
        try simp only [exV]
        go_wp2_with (rw [HW5.out]; refine wpList_store_row rfl TX (.tmp 5) (.tmp 27) rfl w4.heap.size #[.int .i64 F.k, .int .i64 F.o, .string F.s, .int .i64 F.v, (.slice af nf cf)] rfl rfl _ _ HG5.out (by kernel_rfl) rfl (by simp [Value.oneCell']) ?_; rw [HV5.out])
        have hC6 := check_any ex (.slice ax nx cx) w5 Xx_5.out HFx.out
        simp only [exV] at hC6
        rw [HX.out] at hC6
        have HC6 := Lib.hid hC6
        clear hC6
        refine HC6.out.mono ?_
        rintro e w6 ⟨rfl, b6⟩
        have HB6 := Lib.hid (HB5.out.trans (b6.mono HB5.out.size))
        have Xx_6 := Lib.hid (KA.carry Xx_5.out b6)
        have Xf_6 := Lib.hid (KA.carry Xf_5.out b6)
        have Bl_6 := Lib.hid (KB.carry Bl_5.out b6)
        have ZI_6 := Lib.hid (TabI.below ZI_5.out b6)
        have Zx_6 := Lib.hid (AtX.later Zx_5.out b6)
        have Zf_6 := Lib.hid (AtX.later Zf_5.out b6)
        clear b6 HC6 qx0 qx1 qx2 qx3 qx4
        have q_X := (ieq (show Xn = Xn from rfl)).1
        have hC7 := awake_any w6 ZI_6.out
        have HC7 := Lib.hid hC7
        clear hC7
        go_wp2_with fail
        refine HC7.out.mono ?_
        rintro e w7 ⟨rfl, b7⟩
        have HB7 := Lib.hid (HB6.out.trans (b7.mono HB6.out.size))
        have Xx_7 := Lib.hid (KA.carry Xx_6.out b7)
        have Xf_7 := Lib.hid (KA.carry Xf_6.out b7)
        have Bl_7 := Lib.hid (KB.carry Bl_6.out b7)
        have ZI_7 := Lib.hid (TabI.below ZI_6.out b7)
        have Zx_7 := Lib.hid (AtX.later Zx_6.out b7)
        have Zf_7 := Lib.hid (AtX.later Zf_6.out b7)
        clear b7 HC7
        go_wp2
        go_ret
        exact ⟨rfl, HB7.out⟩

end Go.Proofs.YtfgaihajopfmfaaDoor
