/-
  The walk of ExprTexts.
-/
import Derived.Test.YtfgaihajopfmfaaGreatDoorExLawSub
import Derived.Test.YtfgaihajopfmfaaGreatDoorExDel
import Derived.Test.YtfgaihajopfmfaaGreatDoorExSame
namespace Go.Proofs.YtfgaihajopfmfaaGreatDoor
set_option linter.unusedSimpArgs false
set_option linter.unusedVariables false
open Go.RowKit

/-- Different valid trees have different texts. -/
def TxInj : Prop := ∀ a b : Ex, ckE a = 0 → ckE b = 0 → txE a = txE b → a = b
theorem gone_law {ll : List Bd} {ex : Ex} {n : ByteArray} {T : Int} (hT : tyF ll ex = (T, 0)) (hn : inE n ex = true) : tyF (gone ll n) ex = (0, 7) := by
  obtain ⟨hx, hc, hTe⟩ := tyF_ok (l := ll) (e := ex) (by rw [hT])
  have hty : tyE ll ex = (T, 0) := by rw [← hTe, hT]
  have h := gone_ty ll n ex (ckE_ok.1 hx).2.2 (by rw [hty])
  rw [if_pos hn] at h
  unfold tyF
  rw [if_neg (by simpa using hx), if_neg (by rw [gone_ck n hc]; simp), h]
theorem eq_yes {ex ey : Ex} (hx : ckE ex = 0) (h : ex = ey) : equE ex ey = true ∧ txF ex = txF ey := by
  subst h
  have : eqE ex ex = true := (eqE_iff _ _).2 rfl
  unfold equE
  simp [hx, this]
theorem eq_no {ex ey : Ex} (hi : TxInj) (hx : ckE ex = 0) (hy : ckE ey = 0) (h : ¬ ex = ey) : equE ex ey = false ∧ ¬ txF ex = txF ey := by
  have : eqE ex ey = false := by
    cases e : eqE ex ey with
    | false => rfl
    | true => exact absurd ((eqE_iff _ _).1 e) h
  refine ⟨by unfold equE; simp [this], fun e => h (hi ex ey hx hy ?_)⟩
  unfold txF at e
  rw [if_pos hx, if_pos hy] at e
  exact e

set_option maxRecDepth 100000 in
set_option maxHeartbeats 16000000 in
theorem exprTexts_walk (ex : Ex) (slx : Value) (ey : Ex) (sly : Value) (vbl : Value) (ll : List Bd) (k : Nat) (w : World) (hKx : KX w ex slx) (hfx : fitE ex) (hKy : KX w ey sly) (hfy : fitE ey) (hBl : KB w vbl ll) (hll : fitB ll) (hk : k ≤ 255) (hinj : TxInj) (hI : TabI w) :
    Calls Tryz.prog 6 #[exV ex slx, exV ey sly, vbl, .int .u8 (k : Int)] w fun e w' => e = .returned (.bool true) ∧ Below w.heap.size w w' := by
  have HB0 : Hid (Below w.heap.size w w) := Lib.hid (Below.refl _ w)
  have ZI_0 := Lib.hid hI
  obtain ⟨ax, cx, _, e1, _, _, _⟩ := KA.inv hKx
  obtain ⟨nx, e2⟩ : ∃ n, ex.es.length = n := ⟨_, rfl⟩
  rw [e2] at e1
  subst e1
  clear e2
  have Xx_0 := Lib.hid hKx
  have HFx := Lib.hid hfx
  obtain ⟨ay, cy, _, e1, _, _, _⟩ := KA.inv hKy
  obtain ⟨ny, e2⟩ : ∃ n, ey.es.length = n := ⟨_, rfl⟩
  rw [e2] at e1
  subst e1
  clear e2
  have Xy_0 := Lib.hid hKy
  have HFy := Lib.hid hfy
  obtain ⟨al, cl, e1, _, _, _⟩ := id hBl
  obtain ⟨nl, e2⟩ : ∃ n, ll.length = n := ⟨_, rfl⟩
  rw [e2] at e1
  subst e1
  clear e2
  have Bl_0 := Lib.hid hBl
  have HLl := Lib.hid hll
  clear hI hKx hfx hKy hfy hBl hll
  simp only [exV]
  obtain ⟨w1, hw1⟩ : ∃ W, (w.alloc (.cells #[.int .i64 ex.k, .int .i64 ex.o, .string ex.s, .int .i64 ex.v, (.slice ax nx cx)] TX (0, 0))).alloc (.cells #[.int .i64 ey.k, .int .i64 ey.o, .string ey.s, .int .i64 ey.v, (.slice ay ny cy)] TX (0, 0)) = W := ⟨_, rfl⟩
  obtain ⟨t0, t1, b1⟩ := twoBlocks w (.cells #[.int .i64 ex.k, .int .i64 ex.o, .string ex.s, .int .i64 ex.v, (.slice ax nx cx)] TX (0, 0)) (.cells #[.int .i64 ey.k, .int .i64 ey.o, .string ey.s, .int .i64 ey.v, (.slice ay ny cy)] TX (0, 0))
  rw [hw1] at t0 t1 b1
  have HB1 := Lib.hid (HB0.out.trans (b1.mono HB0.out.size))
  have Xx_1 := Lib.hid (KA.carry Xx_0.out b1)
  have Xy_1 := Lib.hid (KA.carry Xy_0.out b1)
  have Bl_1 := Lib.hid (KB.carry Bl_0.out b1)
  have ZI_1 := Lib.hid (TabI.below ZI_0.out b1)
  have Zx_1 : Hid (AtX w1 w.heap.size 0 ex (.slice ax nx cx)) := Lib.hid (by refine ⟨?_, ?_, ?_, ?_, ?_⟩ <;> simp [World.cell?, t0])
  have Zy_1 : Hid (AtX w1 (w.heap.size + 1) 0 ey (.slice ay ny cy)) := Lib.hid (by refine ⟨?_, ?_, ?_, ?_, ?_⟩ <;> simp [World.cell?, t1])
  have HW1 := Lib.hid hw1
  have HINJ := Lib.hid hinj
  clear t0 t1 b1 hw1 hinj
  go_enter Tryz.func6, Tryz.ntmps6
  cases hg : grE ex with
  | true =>
    have hC2 := rGreat_any ex (.slice ax nx cx) w1 Xx_1.out
    simp only [exV] at hC2
    rw [hg] at hC2
    have HC2 := Lib.hid hC2
    clear hC2
    go_wp2_with fail
    rw [HW1.out]
    refine HC2.out.mono ?_
    rintro e w2 ⟨rfl, b2⟩
    have HB2 := Lib.hid (HB1.out.trans (b2.mono HB1.out.size))
    have Xx_2 := Lib.hid (KA.carry Xx_1.out b2)
    have Xy_2 := Lib.hid (KA.carry Xy_1.out b2)
    have Bl_2 := Lib.hid (KB.carry Bl_1.out b2)
    have ZI_2 := Lib.hid (TabI.below ZI_1.out b2)
    have Zx_2 := Lib.hid (AtX.later Zx_1.out b2)
    have Zy_2 := Lib.hid (AtX.later Zy_1.out b2)
    clear b2 HC2
    have hC3 := awake_any w2 ZI_2.out
    have HC3 := Lib.hid hC3
    clear hC3
    go_wp2_with fail
    refine HC3.out.mono ?_
    rintro e w3 ⟨rfl, b3⟩
    have HB3 := Lib.hid (HB2.out.trans (b3.mono HB2.out.size))
    have Xx_3 := Lib.hid (KA.carry Xx_2.out b3)
    have Xy_3 := Lib.hid (KA.carry Xy_2.out b3)
    have Bl_3 := Lib.hid (KB.carry Bl_2.out b3)
    have ZI_3 := Lib.hid (TabI.below ZI_2.out b3)
    have Zx_3 := Lib.hid (AtX.later Zx_2.out b3)
    have Zy_3 := Lib.hid (AtX.later Zy_2.out b3)
    clear b3 HC3
    go_wp2
    go_ret
    exact ⟨rfl, HB3.out⟩
  | false =>
    have hC2 := rGreat_any ex (.slice ax nx cx) w1 Xx_1.out
    simp only [exV] at hC2
    rw [hg] at hC2
    have HC2 := Lib.hid hC2
    clear hC2
    go_wp2_with fail
    rw [HW1.out]
    refine HC2.out.mono ?_
    rintro e w2 ⟨rfl, b2⟩
    have HB2 := Lib.hid (HB1.out.trans (b2.mono HB1.out.size))
    have Xx_2 := Lib.hid (KA.carry Xx_1.out b2)
    have Xy_2 := Lib.hid (KA.carry Xy_1.out b2)
    have Bl_2 := Lib.hid (KB.carry Bl_1.out b2)
    have ZI_2 := Lib.hid (TabI.below ZI_1.out b2)
    have Zx_2 := Lib.hid (AtX.later Zx_1.out b2)
    have Zy_2 := Lib.hid (AtX.later Zy_1.out b2)
    clear b2 HC2
    cases hh : grE ey with
    | true =>
      have hC3 := rGreat_any ey (.slice ay ny cy) w2 Xy_2.out
      simp only [exV] at hC3
      rw [hh] at hC3
      have HC3 := Lib.hid hC3
      clear hC3
      obtain ⟨qy0, qy1, qy2, qy3, qy4⟩ := Zy_2.out
      simp only [Nat.zero_add] at qy1 qy2 qy3 qy4
      go_wp2_with fail
      refine HC3.out.mono ?_
      rintro e w3 ⟨rfl, b3⟩
      have HB3 := Lib.hid (HB2.out.trans (b3.mono HB2.out.size))
      have Xx_3 := Lib.hid (KA.carry Xx_2.out b3)
      have Xy_3 := Lib.hid (KA.carry Xy_2.out b3)
      have Bl_3 := Lib.hid (KB.carry Bl_2.out b3)
      have ZI_3 := Lib.hid (TabI.below ZI_2.out b3)
      have Zx_3 := Lib.hid (AtX.later Zx_2.out b3)
      have Zy_3 := Lib.hid (AtX.later Zy_2.out b3)
      clear b3 HC3 qy0 qy1 qy2 qy3 qy4
      have hC4 := awake_any w3 ZI_3.out
      have HC4 := Lib.hid hC4
      clear hC4
      go_wp2_with fail
      refine HC4.out.mono ?_
      rintro e w4 ⟨rfl, b4⟩
      have HB4 := Lib.hid (HB3.out.trans (b4.mono HB3.out.size))
      have Xx_4 := Lib.hid (KA.carry Xx_3.out b4)
      have Xy_4 := Lib.hid (KA.carry Xy_3.out b4)
      have Bl_4 := Lib.hid (KB.carry Bl_3.out b4)
      have ZI_4 := Lib.hid (TabI.below ZI_3.out b4)
      have Zx_4 := Lib.hid (AtX.later Zx_3.out b4)
      have Zy_4 := Lib.hid (AtX.later Zy_3.out b4)
      clear b4 HC4
      go_wp2
      go_ret
      exact ⟨rfl, HB4.out⟩
    | false =>
      have hC3 := rGreat_any ey (.slice ay ny cy) w2 Xy_2.out
      simp only [exV] at hC3
      rw [hh] at hC3
      have HC3 := Lib.hid hC3
      clear hC3
      obtain ⟨qy0, qy1, qy2, qy3, qy4⟩ := Zy_2.out
      simp only [Nat.zero_add] at qy1 qy2 qy3 qy4
      go_wp2_with fail
      refine HC3.out.mono ?_
      rintro e w3 ⟨rfl, b3⟩
      have HB3 := Lib.hid (HB2.out.trans (b3.mono HB2.out.size))
      have Xx_3 := Lib.hid (KA.carry Xx_2.out b3)
      have Xy_3 := Lib.hid (KA.carry Xy_2.out b3)
      have Bl_3 := Lib.hid (KB.carry Bl_2.out b3)
      have ZI_3 := Lib.hid (TabI.below ZI_2.out b3)
      have Zx_3 := Lib.hid (AtX.later Zx_2.out b3)
      have Zy_3 := Lib.hid (AtX.later Zy_2.out b3)
      clear b3 HC3 qy0 qy1 qy2 qy3 qy4
      cases hq : gtB ll with
      | true =>
        have hC4 := rGreatB_any ll (.slice al nl cl) w3 Bl_3.out
        rw [hq] at hC4
        have HC4 := Lib.hid hC4
        clear hC4
        go_wp2_with fail
        refine HC4.out.mono ?_
        rintro e w4 ⟨rfl, b4⟩
        have HB4 := Lib.hid (HB3.out.trans (b4.mono HB3.out.size))
        have Xx_4 := Lib.hid (KA.carry Xx_3.out b4)
        have Xy_4 := Lib.hid (KA.carry Xy_3.out b4)
        have Bl_4 := Lib.hid (KB.carry Bl_3.out b4)
        have ZI_4 := Lib.hid (TabI.below ZI_3.out b4)
        have Zx_4 := Lib.hid (AtX.later Zx_3.out b4)
        have Zy_4 := Lib.hid (AtX.later Zy_3.out b4)
        clear b4 HC4
        have hC5 := awake_any w4 ZI_4.out
        have HC5 := Lib.hid hC5
        clear hC5
        go_wp2_with fail
        refine HC5.out.mono ?_
        rintro e w5 ⟨rfl, b5⟩
        have HB5 := Lib.hid (HB4.out.trans (b5.mono HB4.out.size))
        have Xx_5 := Lib.hid (KA.carry Xx_4.out b5)
        have Xy_5 := Lib.hid (KA.carry Xy_4.out b5)
        have Bl_5 := Lib.hid (KB.carry Bl_4.out b5)
        have ZI_5 := Lib.hid (TabI.below ZI_4.out b5)
        have Zx_5 := Lib.hid (AtX.later Zx_4.out b5)
        have Zy_5 := Lib.hid (AtX.later Zy_4.out b5)
        clear b5 HC5
        go_wp2
        go_ret
        exact ⟨rfl, HB5.out⟩
      | false =>
        have hC4 := rGreatB_any ll (.slice al nl cl) w3 Bl_3.out
        rw [hq] at hC4
        have HC4 := Lib.hid hC4
        clear hC4
        go_wp2_with fail
        refine HC4.out.mono ?_
        rintro e w4 ⟨rfl, b4⟩
        have HB4 := Lib.hid (HB3.out.trans (b4.mono HB3.out.size))
        have Xx_4 := Lib.hid (KA.carry Xx_3.out b4)
        have Xy_4 := Lib.hid (KA.carry Xy_3.out b4)
        have Bl_4 := Lib.hid (KB.carry Bl_3.out b4)
        have ZI_4 := Lib.hid (TabI.below ZI_3.out b4)
        have Zx_4 := Lib.hid (AtX.later Zx_3.out b4)
        have Zy_4 := Lib.hid (AtX.later Zy_3.out b4)
        clear b4 HC4
        have HLEN : Hid (ll.length ≤ 70) := Lib.hid (by
          unfold gtB at hq
          simp only [Bool.or_eq_false_iff, decide_eq_false_iff_not] at hq
          omega)
        obtain ⟨⟨T, X⟩, hT⟩ : ∃ q, tyF ll ex = q := ⟨_, rfl⟩
        obtain ⟨N, hN⟩ : ∃ q, nmF ex = q := ⟨_, rfl⟩
        obtain ⟨Sx, hSx⟩ : ∃ q, txF ex = q := ⟨_, rfl⟩
        obtain ⟨Sy, hSy⟩ : ∃ q, txF ey = q := ⟨_, rfl⟩
        obtain ⟨Px, hPx⟩ : ∃ q, ckE ex = q := ⟨_, rfl⟩
        obtain ⟨Py, hPy⟩ : ∃ q, ckE ey = q := ⟨_, rfl⟩
        have KhT := Lib.hid hT
        have KhN := Lib.hid hN
        have KSx := Lib.hid hSx
        have KSy := Lib.hid hSy
        have KPx := Lib.hid hPx
        have KPy := Lib.hid hPy
        clear hT hN hq hg hh hSx hSy hPx hPy
        have hC5 := printA ex Sx Px (.slice ax nx cx) w4 Xx_4.out ZI_4.out HFx.out ⟨KSx.out, KPx.out⟩
        simp only [exV] at hC5
        have HC5 := Lib.hid hC5
        clear hC5
        obtain ⟨qx0, qx1, qx2, qx3, qx4⟩ := Zx_4.out
        simp only [Nat.zero_add] at qx1 qx2 qx3 qx4
        go_wp2_with fail
        refine HC5.out.mono ?_
        rintro e w5 ⟨rfl, b5⟩
        have HB5 := Lib.hid (HB4.out.trans (b5.mono HB4.out.size))
        have Xx_5 := Lib.hid (KA.carry Xx_4.out b5)
        have Xy_5 := Lib.hid (KA.carry Xy_4.out b5)
        have Bl_5 := Lib.hid (KB.carry Bl_4.out b5)
        have ZI_5 := Lib.hid (TabI.below ZI_4.out b5)
        have Zx_5 := Lib.hid (AtX.later Zx_4.out b5)
        have Zy_5 := Lib.hid (AtX.later Zy_4.out b5)
        clear b5 HC5 qx0 qx1 qx2 qx3 qx4
        have hC6 := printA ey Sy Py (.slice ay ny cy) w5 Xy_5.out ZI_5.out HFy.out ⟨KSy.out, KPy.out⟩
        simp only [exV] at hC6
        have HC6 := Lib.hid hC6
        clear hC6
        obtain ⟨qy0, qy1, qy2, qy3, qy4⟩ := Zy_5.out
        simp only [Nat.zero_add] at qy1 qy2 qy3 qy4
        go_wp2_with fail
        refine HC6.out.mono ?_
        rintro e w6 ⟨rfl, b6⟩
        have HB6 := Lib.hid (HB5.out.trans (b6.mono HB5.out.size))
        have Xx_6 := Lib.hid (KA.carry Xx_5.out b6)
        have Xy_6 := Lib.hid (KA.carry Xy_5.out b6)
        have Bl_6 := Lib.hid (KB.carry Bl_5.out b6)
        have ZI_6 := Lib.hid (TabI.below ZI_5.out b6)
        have Zx_6 := Lib.hid (AtX.later Zx_5.out b6)
        have Zy_6 := Lib.hid (AtX.later Zy_5.out b6)
        clear b6 HC6 qy0 qy1 qy2 qy3 qy4
        by_cases hpx : Px = 0
        · obtain ⟨u1, u2⟩ := ieq hpx
          by_cases hpy : Py = 0
          · obtain ⟨u3, u4⟩ := ieq hpy
            by_cases hxy : ex = ey
            · obtain ⟨v1, v2⟩ := eq_yes (KPx.out.trans hpx) hxy
              rw [KSx.out, KSy.out] at v2
              obtain ⟨v3, v4, v5⟩ := str_yes v2
              clear hxy v2
              have hC7 := Equal_any ex ey ax nx cx ay ny cy w6 Xx_6.out Xy_6.out HFx.out HFy.out
              simp only [exV] at hC7
              rw [v1] at hC7
              have HC7 := Lib.hid hC7
              clear hC7
              obtain ⟨qx0, qx1, qx2, qx3, qx4⟩ := Zx_6.out
              simp only [Nat.zero_add] at qx1 qx2 qx3 qx4
              obtain ⟨qy0, qy1, qy2, qy3, qy4⟩ := Zy_6.out
              simp only [Nat.zero_add] at qy1 qy2 qy3 qy4
              go_wp2_with fail
              refine HC7.out.mono ?_
              rintro e w7 ⟨rfl, b7⟩
              have HB7 := Lib.hid (HB6.out.trans (b7.mono HB6.out.size))
              have Xx_7 := Lib.hid (KA.carry Xx_6.out b7)
              have Xy_7 := Lib.hid (KA.carry Xy_6.out b7)
              have Bl_7 := Lib.hid (KB.carry Bl_6.out b7)
              have ZI_7 := Lib.hid (TabI.below ZI_6.out b7)
              have Zx_7 := Lib.hid (AtX.later Zx_6.out b7)
              have Zy_7 := Lib.hid (AtX.later Zy_6.out b7)
              clear b7 HC7 qx0 qx1 qx2 qx3 qx4 qy0 qy1 qy2 qy3 qy4
              have hC8 := Names_any ex ax nx cx w7 Xx_7.out HFx.out
              simp only [exV] at hC8
              rw [KhN.out] at hC8
              have HC8 := Lib.hid hC8
              clear hC8
              obtain ⟨qx0, qx1, qx2, qx3, qx4⟩ := Zx_7.out
              simp only [Nat.zero_add] at qx1 qx2 qx3 qx4
              go_wp2_with fail
              refine HC8.out.mono ?_
              rintro e w8 ⟨vn, rfl, kn, b8⟩
              have HB8 := Lib.hid (HB7.out.trans (b8.mono HB7.out.size))
              have Xx_8 := Lib.hid (KA.carry Xx_7.out b8)
              have Xy_8 := Lib.hid (KA.carry Xy_7.out b8)
              have Bl_8 := Lib.hid (KB.carry Bl_7.out b8)
              have ZI_8 := Lib.hid (TabI.below ZI_7.out b8)
              have Zx_8 := Lib.hid (AtX.later Zx_7.out b8)
              have Zy_8 := Lib.hid (AtX.later Zy_7.out b8)
              clear b8 HC8 qx0 qx1 qx2 qx3 qx4
              obtain ⟨an, cn, rfl, kn1, kn2, kn3⟩ := kn
              have Zn_8 := Lib.hid (show KS w8 (.slice an N.length cn) N from ⟨an, cn, rfl, kn1, kn2, kn3⟩)
              clear kn3
              have hC9 := Type_any ll (.slice al nl cl) ex (.slice ax nx cx) w8 Xx_8.out Bl_8.out HFx.out HLl.out
              simp only [exV] at hC9
              rw [KhT.out] at hC9
              have HC9 := Lib.hid hC9
              clear hC9
              obtain ⟨qx0, qx1, qx2, qx3, qx4⟩ := Zx_8.out
              simp only [Nat.zero_add] at qx1 qx2 qx3 qx4
              go_wp2_with fail
              refine HC9.out.mono ?_
              rintro e w9 ⟨rfl, b9⟩
              have HB9 := Lib.hid (HB8.out.trans (b9.mono HB8.out.size))
              have Xx_9 := Lib.hid (KA.carry Xx_8.out b9)
              have Xy_9 := Lib.hid (KA.carry Xy_8.out b9)
              have Bl_9 := Lib.hid (KB.carry Bl_8.out b9)
              have ZI_9 := Lib.hid (TabI.below ZI_8.out b9)
              have Zx_9 := Lib.hid (AtX.later Zx_8.out b9)
              have Zy_9 := Lib.hid (AtX.later Zy_8.out b9)
              have Zn_9 := Lib.hid (KS.carry Zn_8.out b9)
              clear b9 HC9 qx0 qx1 qx2 qx3 qx4
              by_cases hx : X = 0
              · obtain ⟨q3, q4⟩ := ieq hx
                by_cases hn : (N.length : Int) = 0
                · obtain ⟨q5, q6⟩ := ieq hn
                  have hC10 := awake_any w9 ZI_9.out
                  have HC10 := Lib.hid hC10
                  clear hC10
                  go_wp2_with fail
                  refine HC10.out.mono ?_
                  rintro e w10 ⟨rfl, b10⟩
                  have HB10 := Lib.hid (HB9.out.trans (b10.mono HB9.out.size))
                  have Xx_10 := Lib.hid (KA.carry Xx_9.out b10)
                  have Xy_10 := Lib.hid (KA.carry Xy_9.out b10)
                  have Bl_10 := Lib.hid (KB.carry Bl_9.out b10)
                  have ZI_10 := Lib.hid (TabI.below ZI_9.out b10)
                  have Zx_10 := Lib.hid (AtX.later Zx_9.out b10)
                  have Zy_10 := Lib.hid (AtX.later Zy_9.out b10)
                  have Zn_10 := Lib.hid (KS.carry Zn_9.out b10)
                  clear b10 HC10
                  go_wp2
                  go_ret
                  exact ⟨rfl, HB10.out⟩
                · obtain ⟨q5, q6⟩ := ine hn
                  obtain ⟨M, hM⟩ : ∃ M, k % N.length = M := ⟨_, rfl⟩
                  have hMl : M < N.length := by rw [← hM]; exact Nat.mod_lt _ (by omega)
                  have hm : (k : Int).tmod (N.length : Int) = (M : Int) := by rw [← hM, Int.ofNat_tmod]
                  have hgm : gs N M ∈ nmF ex := by rw [KhN.out]; unfold gs; rw [List.getElem?_eq_getElem hMl]; exact List.getElem_mem hMl
                  obtain ⟨nm, en, hin, hnm, hcx⟩ := nmF_in hgm
                  obtain ⟨bn, on, rfl, hbn, cnm⟩ := KS.at_ Zn_9.out M hMl
                  rw [en, encStr_data] at cnm
                  subst hx
                  have HGT := Lib.hid (gone_law KhT.out hin)
                  have m0 : (0 : Int) ≤ (M : Int) := by omega
                  have m1 : (M : Int) < (N.length : Int) := by omega
                  have N0 : (0 : Int) ≤ (k : Int) := by omega
                  have N1 : (k : Int) ≤ 255 := by omega
                  clear hM hgm en hnm hcx hn hbn hin
                  obtain ⟨w10, hw10⟩ : ∃ W, w9.alloc (.cells #[.string nm] 9 (0, 0)) = W := ⟨_, rfl⟩
                  have b10 : Below w9.heap.size w9 w10 := by rw [← hw10]; exact below_allocW w9 _
                  have hnb : w10.cell? ⟨w9.heap.size, 0, none⟩ = some (.string nm) := by rw [← hw10, Lib.cell_of_heap (World.alloc_heap_new _ _)]; rfl
                  have hsz : w9.heap.size < w10.heap.size := by rw [← hw10]; simp
                  have HB10 := Lib.hid (HB9.out.trans (b10.mono HB9.out.size))
                  have Xx_10 := Lib.hid (KA.carry Xx_9.out b10)
                  have Xy_10 := Lib.hid (KA.carry Xy_9.out b10)
                  have Bl_10 := Lib.hid (KB.carry Bl_9.out b10)
                  have ZI_10 := Lib.hid (TabI.below ZI_9.out b10)
                  have Zx_10 := Lib.hid (AtX.later Zx_9.out b10)
                  have Zy_10 := Lib.hid (AtX.later Zy_9.out b10)
                  have Zn_10 := Lib.hid (KS.carry Zn_9.out b10)
                  have HNB := Lib.hid hnb
                  have HSZ := Lib.hid hsz
                  have HW10 := Lib.hid hw10
                  clear hw10 b10 hnb hsz
                  have hC11 := bClone_any ll (.slice al nl cl) w10 (by have := HLEN.out; omega) Bl_10.out
                  have HC11 := Lib.hid hC11
                  clear hC11
                  go_wp2_with fail
                  rw [HW10.out]
                  refine HC11.out.mono ?_
                  rintro e w11 ⟨vm, rfl, om, b11⟩
                  have HB11 := Lib.hid (HB10.out.trans (b11.mono HB10.out.size))
                  have Xx_11 := Lib.hid (KA.carry Xx_10.out b11)
                  have Xy_11 := Lib.hid (KA.carry Xy_10.out b11)
                  have Bl_11 := Lib.hid (KB.carry Bl_10.out b11)
                  have ZI_11 := Lib.hid (TabI.below ZI_10.out b11)
                  have Zx_11 := Lib.hid (AtX.later Zx_10.out b11)
                  have Zy_11 := Lib.hid (AtX.later Zy_10.out b11)
                  have Zn_11 := Lib.hid (KS.carry Zn_10.out b11)
                  have HOM := Lib.hid om
                  have HBM := Lib.hid b11
                  have hnm2 := (b11.cell (p := ⟨w9.heap.size, 0, none⟩) HSZ.out).trans HNB.out
                  have HD := Lib.hid (bDelete_any w10.heap.size w9.heap.size nm vm ll w11 HOM.out (by have := HLEN.out; omega) hnm2 (fun e => by have := (HOM.out.lt _ e).1; have := HSZ.out; omega))
                  clear hnm2 om
                  clear b11 HC11
                  go_wp2_with fail
                  refine HD.out.mono ?_
                  rintro e w12 ⟨vd, rfl, od, gd⟩
                  have b12 : Below w10.heap.size w10 w12 := HBM.out.grown gd HBM.out.size (fun t e => (HOM.out.lt t e).1)
                  have HB12 := Lib.hid (HB10.out.trans (b12.mono HB10.out.size))
                  have Xx_12 := Lib.hid (KA.carry Xx_10.out b12)
                  have Xy_12 := Lib.hid (KA.carry Xy_10.out b12)
                  have Bl_12 := Lib.hid (KB.carry Bl_10.out b12)
                  have ZI_12 := Lib.hid (TabI.below ZI_10.out b12)
                  have Zx_12 := Lib.hid (AtX.later Zx_10.out b12)
                  have Zy_12 := Lib.hid (AtX.later Zy_10.out b12)
                  have Zn_12 := Lib.hid (KS.carry Zn_10.out b12)
                  have Bd_12 := Lib.hid (OwnD.kb od)
                  clear od gd b12
                  have hC13 := Type_any (gone ll nm) vd ex (.slice ax nx cx) w12 Xx_12.out Bd_12.out HFx.out (gone_fit nm HLl.out)
                  simp only [exV] at hC13
                  rw [HGT.out] at hC13
                  have HC13 := Lib.hid hC13
                  clear hC13
                  obtain ⟨qx0, qx1, qx2, qx3, qx4⟩ := Zx_12.out
                  simp only [Nat.zero_add] at qx1 qx2 qx3 qx4
                  go_wp2_with fail
                  refine HC13.out.mono ?_
                  rintro e w13 ⟨rfl, b13⟩
                  have HB13 := Lib.hid (HB12.out.trans (b13.mono HB12.out.size))
                  have Xx_13 := Lib.hid (KA.carry Xx_12.out b13)
                  have Xy_13 := Lib.hid (KA.carry Xy_12.out b13)
                  have Bl_13 := Lib.hid (KB.carry Bl_12.out b13)
                  have ZI_13 := Lib.hid (TabI.below ZI_12.out b13)
                  have Zx_13 := Lib.hid (AtX.later Zx_12.out b13)
                  have Zy_13 := Lib.hid (AtX.later Zy_12.out b13)
                  have Zn_13 := Lib.hid (KS.carry Zn_12.out b13)
                  clear b13 HC13 qx0 qx1 qx2 qx3 qx4
                  have hC14 := awake_any w13 ZI_13.out
                  have HC14 := Lib.hid hC14
                  clear hC14
                  go_wp2_with fail
                  refine HC14.out.mono ?_
                  rintro e w14 ⟨rfl, b14⟩
                  have HB14 := Lib.hid (HB13.out.trans (b14.mono HB13.out.size))
                  have Xx_14 := Lib.hid (KA.carry Xx_13.out b14)
                  have Xy_14 := Lib.hid (KA.carry Xy_13.out b14)
                  have Bl_14 := Lib.hid (KB.carry Bl_13.out b14)
                  have ZI_14 := Lib.hid (TabI.below ZI_13.out b14)
                  have Zx_14 := Lib.hid (AtX.later Zx_13.out b14)
                  have Zy_14 := Lib.hid (AtX.later Zy_13.out b14)
                  have Zn_14 := Lib.hid (KS.carry Zn_13.out b14)
                  clear b14 HC14
                  go_wp2
                  go_ret
                  exact ⟨rfl, HB14.out⟩
              · obtain ⟨q3, q4⟩ := ine hx
                have hC10 := awake_any w9 ZI_9.out
                have HC10 := Lib.hid hC10
                clear hC10
                go_wp2_with fail
                refine HC10.out.mono ?_
                rintro e w10 ⟨rfl, b10⟩
                have HB10 := Lib.hid (HB9.out.trans (b10.mono HB9.out.size))
                have Xx_10 := Lib.hid (KA.carry Xx_9.out b10)
                have Xy_10 := Lib.hid (KA.carry Xy_9.out b10)
                have Bl_10 := Lib.hid (KB.carry Bl_9.out b10)
                have ZI_10 := Lib.hid (TabI.below ZI_9.out b10)
                have Zx_10 := Lib.hid (AtX.later Zx_9.out b10)
                have Zy_10 := Lib.hid (AtX.later Zy_9.out b10)
                have Zn_10 := Lib.hid (KS.carry Zn_9.out b10)
                clear b10 HC10
                go_wp2
                go_ret
                exact ⟨rfl, HB10.out⟩
            · obtain ⟨v1, v2⟩ := eq_no HINJ.out (KPx.out.trans hpx) (KPy.out.trans hpy) hxy
              rw [KSx.out, KSy.out] at v2
              obtain ⟨v3, v4, v5⟩ := str_no v2
              clear hxy v2
              have hC7 := Equal_any ex ey ax nx cx ay ny cy w6 Xx_6.out Xy_6.out HFx.out HFy.out
              simp only [exV] at hC7
              rw [v1] at hC7
              have HC7 := Lib.hid hC7
              clear hC7
              obtain ⟨qx0, qx1, qx2, qx3, qx4⟩ := Zx_6.out
              simp only [Nat.zero_add] at qx1 qx2 qx3 qx4
              obtain ⟨qy0, qy1, qy2, qy3, qy4⟩ := Zy_6.out
              simp only [Nat.zero_add] at qy1 qy2 qy3 qy4
              go_wp2_with fail
              refine HC7.out.mono ?_
              rintro e w7 ⟨rfl, b7⟩
              have HB7 := Lib.hid (HB6.out.trans (b7.mono HB6.out.size))
              have Xx_7 := Lib.hid (KA.carry Xx_6.out b7)
              have Xy_7 := Lib.hid (KA.carry Xy_6.out b7)
              have Bl_7 := Lib.hid (KB.carry Bl_6.out b7)
              have ZI_7 := Lib.hid (TabI.below ZI_6.out b7)
              have Zx_7 := Lib.hid (AtX.later Zx_6.out b7)
              have Zy_7 := Lib.hid (AtX.later Zy_6.out b7)
              clear b7 HC7 qx0 qx1 qx2 qx3 qx4 qy0 qy1 qy2 qy3 qy4
              have hC8 := Names_any ex ax nx cx w7 Xx_7.out HFx.out
              simp only [exV] at hC8
              rw [KhN.out] at hC8
              have HC8 := Lib.hid hC8
              clear hC8
              obtain ⟨qx0, qx1, qx2, qx3, qx4⟩ := Zx_7.out
              simp only [Nat.zero_add] at qx1 qx2 qx3 qx4
              go_wp2_with fail
              refine HC8.out.mono ?_
              rintro e w8 ⟨vn, rfl, kn, b8⟩
              have HB8 := Lib.hid (HB7.out.trans (b8.mono HB7.out.size))
              have Xx_8 := Lib.hid (KA.carry Xx_7.out b8)
              have Xy_8 := Lib.hid (KA.carry Xy_7.out b8)
              have Bl_8 := Lib.hid (KB.carry Bl_7.out b8)
              have ZI_8 := Lib.hid (TabI.below ZI_7.out b8)
              have Zx_8 := Lib.hid (AtX.later Zx_7.out b8)
              have Zy_8 := Lib.hid (AtX.later Zy_7.out b8)
              clear b8 HC8 qx0 qx1 qx2 qx3 qx4
              obtain ⟨an, cn, rfl, kn1, kn2, kn3⟩ := kn
              have Zn_8 := Lib.hid (show KS w8 (.slice an N.length cn) N from ⟨an, cn, rfl, kn1, kn2, kn3⟩)
              clear kn3
              have hC9 := Type_any ll (.slice al nl cl) ex (.slice ax nx cx) w8 Xx_8.out Bl_8.out HFx.out HLl.out
              simp only [exV] at hC9
              rw [KhT.out] at hC9
              have HC9 := Lib.hid hC9
              clear hC9
              obtain ⟨qx0, qx1, qx2, qx3, qx4⟩ := Zx_8.out
              simp only [Nat.zero_add] at qx1 qx2 qx3 qx4
              go_wp2_with fail
              refine HC9.out.mono ?_
              rintro e w9 ⟨rfl, b9⟩
              have HB9 := Lib.hid (HB8.out.trans (b9.mono HB8.out.size))
              have Xx_9 := Lib.hid (KA.carry Xx_8.out b9)
              have Xy_9 := Lib.hid (KA.carry Xy_8.out b9)
              have Bl_9 := Lib.hid (KB.carry Bl_8.out b9)
              have ZI_9 := Lib.hid (TabI.below ZI_8.out b9)
              have Zx_9 := Lib.hid (AtX.later Zx_8.out b9)
              have Zy_9 := Lib.hid (AtX.later Zy_8.out b9)
              have Zn_9 := Lib.hid (KS.carry Zn_8.out b9)
              clear b9 HC9 qx0 qx1 qx2 qx3 qx4
              by_cases hx : X = 0
              · obtain ⟨q3, q4⟩ := ieq hx
                by_cases hn : (N.length : Int) = 0
                · obtain ⟨q5, q6⟩ := ieq hn
                  have hC10 := awake_any w9 ZI_9.out
                  have HC10 := Lib.hid hC10
                  clear hC10
                  go_wp2_with fail
                  refine HC10.out.mono ?_
                  rintro e w10 ⟨rfl, b10⟩
                  have HB10 := Lib.hid (HB9.out.trans (b10.mono HB9.out.size))
                  have Xx_10 := Lib.hid (KA.carry Xx_9.out b10)
                  have Xy_10 := Lib.hid (KA.carry Xy_9.out b10)
                  have Bl_10 := Lib.hid (KB.carry Bl_9.out b10)
                  have ZI_10 := Lib.hid (TabI.below ZI_9.out b10)
                  have Zx_10 := Lib.hid (AtX.later Zx_9.out b10)
                  have Zy_10 := Lib.hid (AtX.later Zy_9.out b10)
                  have Zn_10 := Lib.hid (KS.carry Zn_9.out b10)
                  clear b10 HC10
                  go_wp2
                  go_ret
                  exact ⟨rfl, HB10.out⟩
                · obtain ⟨q5, q6⟩ := ine hn
                  obtain ⟨M, hM⟩ : ∃ M, k % N.length = M := ⟨_, rfl⟩
                  have hMl : M < N.length := by rw [← hM]; exact Nat.mod_lt _ (by omega)
                  have hm : (k : Int).tmod (N.length : Int) = (M : Int) := by rw [← hM, Int.ofNat_tmod]
                  have hgm : gs N M ∈ nmF ex := by rw [KhN.out]; unfold gs; rw [List.getElem?_eq_getElem hMl]; exact List.getElem_mem hMl
                  obtain ⟨nm, en, hin, hnm, hcx⟩ := nmF_in hgm
                  obtain ⟨bn, on, rfl, hbn, cnm⟩ := KS.at_ Zn_9.out M hMl
                  rw [en, encStr_data] at cnm
                  subst hx
                  have HGT := Lib.hid (gone_law KhT.out hin)
                  have m0 : (0 : Int) ≤ (M : Int) := by omega
                  have m1 : (M : Int) < (N.length : Int) := by omega
                  have N0 : (0 : Int) ≤ (k : Int) := by omega
                  have N1 : (k : Int) ≤ 255 := by omega
                  clear hM hgm en hnm hcx hn hbn hin
                  obtain ⟨w10, hw10⟩ : ∃ W, w9.alloc (.cells #[.string nm] 9 (0, 0)) = W := ⟨_, rfl⟩
                  have b10 : Below w9.heap.size w9 w10 := by rw [← hw10]; exact below_allocW w9 _
                  have hnb : w10.cell? ⟨w9.heap.size, 0, none⟩ = some (.string nm) := by rw [← hw10, Lib.cell_of_heap (World.alloc_heap_new _ _)]; rfl
                  have hsz : w9.heap.size < w10.heap.size := by rw [← hw10]; simp
                  have HB10 := Lib.hid (HB9.out.trans (b10.mono HB9.out.size))
                  have Xx_10 := Lib.hid (KA.carry Xx_9.out b10)
                  have Xy_10 := Lib.hid (KA.carry Xy_9.out b10)
                  have Bl_10 := Lib.hid (KB.carry Bl_9.out b10)
                  have ZI_10 := Lib.hid (TabI.below ZI_9.out b10)
                  have Zx_10 := Lib.hid (AtX.later Zx_9.out b10)
                  have Zy_10 := Lib.hid (AtX.later Zy_9.out b10)
                  have Zn_10 := Lib.hid (KS.carry Zn_9.out b10)
                  have HNB := Lib.hid hnb
                  have HSZ := Lib.hid hsz
                  have HW10 := Lib.hid hw10
                  clear hw10 b10 hnb hsz
                  have hC11 := bClone_any ll (.slice al nl cl) w10 (by have := HLEN.out; omega) Bl_10.out
                  have HC11 := Lib.hid hC11
                  clear hC11
                  go_wp2_with fail
                  rw [HW10.out]
                  refine HC11.out.mono ?_
                  rintro e w11 ⟨vm, rfl, om, b11⟩
                  have HB11 := Lib.hid (HB10.out.trans (b11.mono HB10.out.size))
                  have Xx_11 := Lib.hid (KA.carry Xx_10.out b11)
                  have Xy_11 := Lib.hid (KA.carry Xy_10.out b11)
                  have Bl_11 := Lib.hid (KB.carry Bl_10.out b11)
                  have ZI_11 := Lib.hid (TabI.below ZI_10.out b11)
                  have Zx_11 := Lib.hid (AtX.later Zx_10.out b11)
                  have Zy_11 := Lib.hid (AtX.later Zy_10.out b11)
                  have Zn_11 := Lib.hid (KS.carry Zn_10.out b11)
                  have HOM := Lib.hid om
                  have HBM := Lib.hid b11
                  have hnm2 := (b11.cell (p := ⟨w9.heap.size, 0, none⟩) HSZ.out).trans HNB.out
                  have HD := Lib.hid (bDelete_any w10.heap.size w9.heap.size nm vm ll w11 HOM.out (by have := HLEN.out; omega) hnm2 (fun e => by have := (HOM.out.lt _ e).1; have := HSZ.out; omega))
                  clear hnm2 om
                  clear b11 HC11
                  go_wp2_with fail
                  refine HD.out.mono ?_
                  rintro e w12 ⟨vd, rfl, od, gd⟩
                  have b12 : Below w10.heap.size w10 w12 := HBM.out.grown gd HBM.out.size (fun t e => (HOM.out.lt t e).1)
                  have HB12 := Lib.hid (HB10.out.trans (b12.mono HB10.out.size))
                  have Xx_12 := Lib.hid (KA.carry Xx_10.out b12)
                  have Xy_12 := Lib.hid (KA.carry Xy_10.out b12)
                  have Bl_12 := Lib.hid (KB.carry Bl_10.out b12)
                  have ZI_12 := Lib.hid (TabI.below ZI_10.out b12)
                  have Zx_12 := Lib.hid (AtX.later Zx_10.out b12)
                  have Zy_12 := Lib.hid (AtX.later Zy_10.out b12)
                  have Zn_12 := Lib.hid (KS.carry Zn_10.out b12)
                  have Bd_12 := Lib.hid (OwnD.kb od)
                  clear od gd b12
                  have hC13 := Type_any (gone ll nm) vd ex (.slice ax nx cx) w12 Xx_12.out Bd_12.out HFx.out (gone_fit nm HLl.out)
                  simp only [exV] at hC13
                  rw [HGT.out] at hC13
                  have HC13 := Lib.hid hC13
                  clear hC13
                  obtain ⟨qx0, qx1, qx2, qx3, qx4⟩ := Zx_12.out
                  simp only [Nat.zero_add] at qx1 qx2 qx3 qx4
                  go_wp2_with fail
                  refine HC13.out.mono ?_
                  rintro e w13 ⟨rfl, b13⟩
                  have HB13 := Lib.hid (HB12.out.trans (b13.mono HB12.out.size))
                  have Xx_13 := Lib.hid (KA.carry Xx_12.out b13)
                  have Xy_13 := Lib.hid (KA.carry Xy_12.out b13)
                  have Bl_13 := Lib.hid (KB.carry Bl_12.out b13)
                  have ZI_13 := Lib.hid (TabI.below ZI_12.out b13)
                  have Zx_13 := Lib.hid (AtX.later Zx_12.out b13)
                  have Zy_13 := Lib.hid (AtX.later Zy_12.out b13)
                  have Zn_13 := Lib.hid (KS.carry Zn_12.out b13)
                  clear b13 HC13 qx0 qx1 qx2 qx3 qx4
                  have hC14 := awake_any w13 ZI_13.out
                  have HC14 := Lib.hid hC14
                  clear hC14
                  go_wp2_with fail
                  refine HC14.out.mono ?_
                  rintro e w14 ⟨rfl, b14⟩
                  have HB14 := Lib.hid (HB13.out.trans (b14.mono HB13.out.size))
                  have Xx_14 := Lib.hid (KA.carry Xx_13.out b14)
                  have Xy_14 := Lib.hid (KA.carry Xy_13.out b14)
                  have Bl_14 := Lib.hid (KB.carry Bl_13.out b14)
                  have ZI_14 := Lib.hid (TabI.below ZI_13.out b14)
                  have Zx_14 := Lib.hid (AtX.later Zx_13.out b14)
                  have Zy_14 := Lib.hid (AtX.later Zy_13.out b14)
                  have Zn_14 := Lib.hid (KS.carry Zn_13.out b14)
                  clear b14 HC14
                  go_wp2
                  go_ret
                  exact ⟨rfl, HB14.out⟩
              · obtain ⟨q3, q4⟩ := ine hx
                have hC10 := awake_any w9 ZI_9.out
                have HC10 := Lib.hid hC10
                clear hC10
                go_wp2_with fail
                refine HC10.out.mono ?_
                rintro e w10 ⟨rfl, b10⟩
                have HB10 := Lib.hid (HB9.out.trans (b10.mono HB9.out.size))
                have Xx_10 := Lib.hid (KA.carry Xx_9.out b10)
                have Xy_10 := Lib.hid (KA.carry Xy_9.out b10)
                have Bl_10 := Lib.hid (KB.carry Bl_9.out b10)
                have ZI_10 := Lib.hid (TabI.below ZI_9.out b10)
                have Zx_10 := Lib.hid (AtX.later Zx_9.out b10)
                have Zy_10 := Lib.hid (AtX.later Zy_9.out b10)
                have Zn_10 := Lib.hid (KS.carry Zn_9.out b10)
                clear b10 HC10
                go_wp2
                go_ret
                exact ⟨rfl, HB10.out⟩
          · obtain ⟨u3, u4⟩ := ine hpy
            have hC7 := Names_any ex ax nx cx w6 Xx_6.out HFx.out
            simp only [exV] at hC7
            rw [KhN.out] at hC7
            have HC7 := Lib.hid hC7
            clear hC7
            obtain ⟨qx0, qx1, qx2, qx3, qx4⟩ := Zx_6.out
            simp only [Nat.zero_add] at qx1 qx2 qx3 qx4
            go_wp2_with fail
            refine HC7.out.mono ?_
            rintro e w7 ⟨vn, rfl, kn, b7⟩
            have HB7 := Lib.hid (HB6.out.trans (b7.mono HB6.out.size))
            have Xx_7 := Lib.hid (KA.carry Xx_6.out b7)
            have Xy_7 := Lib.hid (KA.carry Xy_6.out b7)
            have Bl_7 := Lib.hid (KB.carry Bl_6.out b7)
            have ZI_7 := Lib.hid (TabI.below ZI_6.out b7)
            have Zx_7 := Lib.hid (AtX.later Zx_6.out b7)
            have Zy_7 := Lib.hid (AtX.later Zy_6.out b7)
            clear b7 HC7 qx0 qx1 qx2 qx3 qx4
            obtain ⟨an, cn, rfl, kn1, kn2, kn3⟩ := kn
            have Zn_7 := Lib.hid (show KS w7 (.slice an N.length cn) N from ⟨an, cn, rfl, kn1, kn2, kn3⟩)
            clear kn3
            have hC8 := Type_any ll (.slice al nl cl) ex (.slice ax nx cx) w7 Xx_7.out Bl_7.out HFx.out HLl.out
            simp only [exV] at hC8
            rw [KhT.out] at hC8
            have HC8 := Lib.hid hC8
            clear hC8
            obtain ⟨qx0, qx1, qx2, qx3, qx4⟩ := Zx_7.out
            simp only [Nat.zero_add] at qx1 qx2 qx3 qx4
            go_wp2_with fail
            refine HC8.out.mono ?_
            rintro e w8 ⟨rfl, b8⟩
            have HB8 := Lib.hid (HB7.out.trans (b8.mono HB7.out.size))
            have Xx_8 := Lib.hid (KA.carry Xx_7.out b8)
            have Xy_8 := Lib.hid (KA.carry Xy_7.out b8)
            have Bl_8 := Lib.hid (KB.carry Bl_7.out b8)
            have ZI_8 := Lib.hid (TabI.below ZI_7.out b8)
            have Zx_8 := Lib.hid (AtX.later Zx_7.out b8)
            have Zy_8 := Lib.hid (AtX.later Zy_7.out b8)
            have Zn_8 := Lib.hid (KS.carry Zn_7.out b8)
            clear b8 HC8 qx0 qx1 qx2 qx3 qx4
            by_cases hx : X = 0
            · obtain ⟨q3, q4⟩ := ieq hx
              by_cases hn : (N.length : Int) = 0
              · obtain ⟨q5, q6⟩ := ieq hn
                have hC9 := awake_any w8 ZI_8.out
                have HC9 := Lib.hid hC9
                clear hC9
                go_wp2_with fail
                refine HC9.out.mono ?_
                rintro e w9 ⟨rfl, b9⟩
                have HB9 := Lib.hid (HB8.out.trans (b9.mono HB8.out.size))
                have Xx_9 := Lib.hid (KA.carry Xx_8.out b9)
                have Xy_9 := Lib.hid (KA.carry Xy_8.out b9)
                have Bl_9 := Lib.hid (KB.carry Bl_8.out b9)
                have ZI_9 := Lib.hid (TabI.below ZI_8.out b9)
                have Zx_9 := Lib.hid (AtX.later Zx_8.out b9)
                have Zy_9 := Lib.hid (AtX.later Zy_8.out b9)
                have Zn_9 := Lib.hid (KS.carry Zn_8.out b9)
                clear b9 HC9
                go_wp2
                go_ret
                exact ⟨rfl, HB9.out⟩
              · obtain ⟨q5, q6⟩ := ine hn
                obtain ⟨M, hM⟩ : ∃ M, k % N.length = M := ⟨_, rfl⟩
                have hMl : M < N.length := by rw [← hM]; exact Nat.mod_lt _ (by omega)
                have hm : (k : Int).tmod (N.length : Int) = (M : Int) := by rw [← hM, Int.ofNat_tmod]
                have hgm : gs N M ∈ nmF ex := by rw [KhN.out]; unfold gs; rw [List.getElem?_eq_getElem hMl]; exact List.getElem_mem hMl
                obtain ⟨nm, en, hin, hnm, hcx⟩ := nmF_in hgm
                obtain ⟨bn, on, rfl, hbn, cnm⟩ := KS.at_ Zn_8.out M hMl
                rw [en, encStr_data] at cnm
                subst hx
                have HGT := Lib.hid (gone_law KhT.out hin)
                have m0 : (0 : Int) ≤ (M : Int) := by omega
                have m1 : (M : Int) < (N.length : Int) := by omega
                have N0 : (0 : Int) ≤ (k : Int) := by omega
                have N1 : (k : Int) ≤ 255 := by omega
                clear hM hgm en hnm hcx hn hbn hin
                obtain ⟨w9, hw9⟩ : ∃ W, w8.alloc (.cells #[.string nm] 9 (0, 0)) = W := ⟨_, rfl⟩
                have b9 : Below w8.heap.size w8 w9 := by rw [← hw9]; exact below_allocW w8 _
                have hnb : w9.cell? ⟨w8.heap.size, 0, none⟩ = some (.string nm) := by rw [← hw9, Lib.cell_of_heap (World.alloc_heap_new _ _)]; rfl
                have hsz : w8.heap.size < w9.heap.size := by rw [← hw9]; simp
                have HB9 := Lib.hid (HB8.out.trans (b9.mono HB8.out.size))
                have Xx_9 := Lib.hid (KA.carry Xx_8.out b9)
                have Xy_9 := Lib.hid (KA.carry Xy_8.out b9)
                have Bl_9 := Lib.hid (KB.carry Bl_8.out b9)
                have ZI_9 := Lib.hid (TabI.below ZI_8.out b9)
                have Zx_9 := Lib.hid (AtX.later Zx_8.out b9)
                have Zy_9 := Lib.hid (AtX.later Zy_8.out b9)
                have Zn_9 := Lib.hid (KS.carry Zn_8.out b9)
                have HNB := Lib.hid hnb
                have HSZ := Lib.hid hsz
                have HW9 := Lib.hid hw9
                clear hw9 b9 hnb hsz
                have hC10 := bClone_any ll (.slice al nl cl) w9 (by have := HLEN.out; omega) Bl_9.out
                have HC10 := Lib.hid hC10
                clear hC10
                go_wp2_with fail
                rw [HW9.out]
                refine HC10.out.mono ?_
                rintro e w10 ⟨vm, rfl, om, b10⟩
                have HB10 := Lib.hid (HB9.out.trans (b10.mono HB9.out.size))
                have Xx_10 := Lib.hid (KA.carry Xx_9.out b10)
                have Xy_10 := Lib.hid (KA.carry Xy_9.out b10)
                have Bl_10 := Lib.hid (KB.carry Bl_9.out b10)
                have ZI_10 := Lib.hid (TabI.below ZI_9.out b10)
                have Zx_10 := Lib.hid (AtX.later Zx_9.out b10)
                have Zy_10 := Lib.hid (AtX.later Zy_9.out b10)
                have Zn_10 := Lib.hid (KS.carry Zn_9.out b10)
                have HOM := Lib.hid om
                have HBM := Lib.hid b10
                have hnm2 := (b10.cell (p := ⟨w8.heap.size, 0, none⟩) HSZ.out).trans HNB.out
                have HD := Lib.hid (bDelete_any w9.heap.size w8.heap.size nm vm ll w10 HOM.out (by have := HLEN.out; omega) hnm2 (fun e => by have := (HOM.out.lt _ e).1; have := HSZ.out; omega))
                clear hnm2 om
                clear b10 HC10
                go_wp2_with fail
                refine HD.out.mono ?_
                rintro e w11 ⟨vd, rfl, od, gd⟩
                have b11 : Below w9.heap.size w9 w11 := HBM.out.grown gd HBM.out.size (fun t e => (HOM.out.lt t e).1)
                have HB11 := Lib.hid (HB9.out.trans (b11.mono HB9.out.size))
                have Xx_11 := Lib.hid (KA.carry Xx_9.out b11)
                have Xy_11 := Lib.hid (KA.carry Xy_9.out b11)
                have Bl_11 := Lib.hid (KB.carry Bl_9.out b11)
                have ZI_11 := Lib.hid (TabI.below ZI_9.out b11)
                have Zx_11 := Lib.hid (AtX.later Zx_9.out b11)
                have Zy_11 := Lib.hid (AtX.later Zy_9.out b11)
                have Zn_11 := Lib.hid (KS.carry Zn_9.out b11)
                have Bd_11 := Lib.hid (OwnD.kb od)
                clear od gd b11
                have hC12 := Type_any (gone ll nm) vd ex (.slice ax nx cx) w11 Xx_11.out Bd_11.out HFx.out (gone_fit nm HLl.out)
                simp only [exV] at hC12
                rw [HGT.out] at hC12
                have HC12 := Lib.hid hC12
                clear hC12
                obtain ⟨qx0, qx1, qx2, qx3, qx4⟩ := Zx_11.out
                simp only [Nat.zero_add] at qx1 qx2 qx3 qx4
                go_wp2_with fail
                refine HC12.out.mono ?_
                rintro e w12 ⟨rfl, b12⟩
                have HB12 := Lib.hid (HB11.out.trans (b12.mono HB11.out.size))
                have Xx_12 := Lib.hid (KA.carry Xx_11.out b12)
                have Xy_12 := Lib.hid (KA.carry Xy_11.out b12)
                have Bl_12 := Lib.hid (KB.carry Bl_11.out b12)
                have ZI_12 := Lib.hid (TabI.below ZI_11.out b12)
                have Zx_12 := Lib.hid (AtX.later Zx_11.out b12)
                have Zy_12 := Lib.hid (AtX.later Zy_11.out b12)
                have Zn_12 := Lib.hid (KS.carry Zn_11.out b12)
                clear b12 HC12 qx0 qx1 qx2 qx3 qx4
                have hC13 := awake_any w12 ZI_12.out
                have HC13 := Lib.hid hC13
                clear hC13
                go_wp2_with fail
                refine HC13.out.mono ?_
                rintro e w13 ⟨rfl, b13⟩
                have HB13 := Lib.hid (HB12.out.trans (b13.mono HB12.out.size))
                have Xx_13 := Lib.hid (KA.carry Xx_12.out b13)
                have Xy_13 := Lib.hid (KA.carry Xy_12.out b13)
                have Bl_13 := Lib.hid (KB.carry Bl_12.out b13)
                have ZI_13 := Lib.hid (TabI.below ZI_12.out b13)
                have Zx_13 := Lib.hid (AtX.later Zx_12.out b13)
                have Zy_13 := Lib.hid (AtX.later Zy_12.out b13)
                have Zn_13 := Lib.hid (KS.carry Zn_12.out b13)
                clear b13 HC13
                go_wp2
                go_ret
                exact ⟨rfl, HB13.out⟩
            · obtain ⟨q3, q4⟩ := ine hx
              have hC9 := awake_any w8 ZI_8.out
              have HC9 := Lib.hid hC9
              clear hC9
              go_wp2_with fail
              refine HC9.out.mono ?_
              rintro e w9 ⟨rfl, b9⟩
              have HB9 := Lib.hid (HB8.out.trans (b9.mono HB8.out.size))
              have Xx_9 := Lib.hid (KA.carry Xx_8.out b9)
              have Xy_9 := Lib.hid (KA.carry Xy_8.out b9)
              have Bl_9 := Lib.hid (KB.carry Bl_8.out b9)
              have ZI_9 := Lib.hid (TabI.below ZI_8.out b9)
              have Zx_9 := Lib.hid (AtX.later Zx_8.out b9)
              have Zy_9 := Lib.hid (AtX.later Zy_8.out b9)
              have Zn_9 := Lib.hid (KS.carry Zn_8.out b9)
              clear b9 HC9
              go_wp2
              go_ret
              exact ⟨rfl, HB9.out⟩
        · obtain ⟨u1, u2⟩ := ine hpx
          have hC7 := Names_any ex ax nx cx w6 Xx_6.out HFx.out
          simp only [exV] at hC7
          rw [KhN.out] at hC7
          have HC7 := Lib.hid hC7
          clear hC7
          obtain ⟨qx0, qx1, qx2, qx3, qx4⟩ := Zx_6.out
          simp only [Nat.zero_add] at qx1 qx2 qx3 qx4
          go_wp2_with fail
          refine HC7.out.mono ?_
          rintro e w7 ⟨vn, rfl, kn, b7⟩
          have HB7 := Lib.hid (HB6.out.trans (b7.mono HB6.out.size))
          have Xx_7 := Lib.hid (KA.carry Xx_6.out b7)
          have Xy_7 := Lib.hid (KA.carry Xy_6.out b7)
          have Bl_7 := Lib.hid (KB.carry Bl_6.out b7)
          have ZI_7 := Lib.hid (TabI.below ZI_6.out b7)
          have Zx_7 := Lib.hid (AtX.later Zx_6.out b7)
          have Zy_7 := Lib.hid (AtX.later Zy_6.out b7)
          clear b7 HC7 qx0 qx1 qx2 qx3 qx4
          obtain ⟨an, cn, rfl, kn1, kn2, kn3⟩ := kn
          have Zn_7 := Lib.hid (show KS w7 (.slice an N.length cn) N from ⟨an, cn, rfl, kn1, kn2, kn3⟩)
          clear kn3
          have hC8 := Type_any ll (.slice al nl cl) ex (.slice ax nx cx) w7 Xx_7.out Bl_7.out HFx.out HLl.out
          simp only [exV] at hC8
          rw [KhT.out] at hC8
          have HC8 := Lib.hid hC8
          clear hC8
          obtain ⟨qx0, qx1, qx2, qx3, qx4⟩ := Zx_7.out
          simp only [Nat.zero_add] at qx1 qx2 qx3 qx4
          go_wp2_with fail
          refine HC8.out.mono ?_
          rintro e w8 ⟨rfl, b8⟩
          have HB8 := Lib.hid (HB7.out.trans (b8.mono HB7.out.size))
          have Xx_8 := Lib.hid (KA.carry Xx_7.out b8)
          have Xy_8 := Lib.hid (KA.carry Xy_7.out b8)
          have Bl_8 := Lib.hid (KB.carry Bl_7.out b8)
          have ZI_8 := Lib.hid (TabI.below ZI_7.out b8)
          have Zx_8 := Lib.hid (AtX.later Zx_7.out b8)
          have Zy_8 := Lib.hid (AtX.later Zy_7.out b8)
          have Zn_8 := Lib.hid (KS.carry Zn_7.out b8)
          clear b8 HC8 qx0 qx1 qx2 qx3 qx4
          by_cases hx : X = 0
          · obtain ⟨q3, q4⟩ := ieq hx
            by_cases hn : (N.length : Int) = 0
            · obtain ⟨q5, q6⟩ := ieq hn
              have hC9 := awake_any w8 ZI_8.out
              have HC9 := Lib.hid hC9
              clear hC9
              go_wp2_with fail
              refine HC9.out.mono ?_
              rintro e w9 ⟨rfl, b9⟩
              have HB9 := Lib.hid (HB8.out.trans (b9.mono HB8.out.size))
              have Xx_9 := Lib.hid (KA.carry Xx_8.out b9)
              have Xy_9 := Lib.hid (KA.carry Xy_8.out b9)
              have Bl_9 := Lib.hid (KB.carry Bl_8.out b9)
              have ZI_9 := Lib.hid (TabI.below ZI_8.out b9)
              have Zx_9 := Lib.hid (AtX.later Zx_8.out b9)
              have Zy_9 := Lib.hid (AtX.later Zy_8.out b9)
              have Zn_9 := Lib.hid (KS.carry Zn_8.out b9)
              clear b9 HC9
              go_wp2
              go_ret
              exact ⟨rfl, HB9.out⟩
            · obtain ⟨q5, q6⟩ := ine hn
              obtain ⟨M, hM⟩ : ∃ M, k % N.length = M := ⟨_, rfl⟩
              have hMl : M < N.length := by rw [← hM]; exact Nat.mod_lt _ (by omega)
              have hm : (k : Int).tmod (N.length : Int) = (M : Int) := by rw [← hM, Int.ofNat_tmod]
              have hgm : gs N M ∈ nmF ex := by rw [KhN.out]; unfold gs; rw [List.getElem?_eq_getElem hMl]; exact List.getElem_mem hMl
              obtain ⟨nm, en, hin, hnm, hcx⟩ := nmF_in hgm
              obtain ⟨bn, on, rfl, hbn, cnm⟩ := KS.at_ Zn_8.out M hMl
              rw [en, encStr_data] at cnm
              subst hx
              have HGT := Lib.hid (gone_law KhT.out hin)
              have m0 : (0 : Int) ≤ (M : Int) := by omega
              have m1 : (M : Int) < (N.length : Int) := by omega
              have N0 : (0 : Int) ≤ (k : Int) := by omega
              have N1 : (k : Int) ≤ 255 := by omega
              clear hM hgm en hnm hcx hn hbn hin
              obtain ⟨w9, hw9⟩ : ∃ W, w8.alloc (.cells #[.string nm] 9 (0, 0)) = W := ⟨_, rfl⟩
              have b9 : Below w8.heap.size w8 w9 := by rw [← hw9]; exact below_allocW w8 _
              have hnb : w9.cell? ⟨w8.heap.size, 0, none⟩ = some (.string nm) := by rw [← hw9, Lib.cell_of_heap (World.alloc_heap_new _ _)]; rfl
              have hsz : w8.heap.size < w9.heap.size := by rw [← hw9]; simp
              have HB9 := Lib.hid (HB8.out.trans (b9.mono HB8.out.size))
              have Xx_9 := Lib.hid (KA.carry Xx_8.out b9)
              have Xy_9 := Lib.hid (KA.carry Xy_8.out b9)
              have Bl_9 := Lib.hid (KB.carry Bl_8.out b9)
              have ZI_9 := Lib.hid (TabI.below ZI_8.out b9)
              have Zx_9 := Lib.hid (AtX.later Zx_8.out b9)
              have Zy_9 := Lib.hid (AtX.later Zy_8.out b9)
              have Zn_9 := Lib.hid (KS.carry Zn_8.out b9)
              have HNB := Lib.hid hnb
              have HSZ := Lib.hid hsz
              have HW9 := Lib.hid hw9
              clear hw9 b9 hnb hsz
              have hC10 := bClone_any ll (.slice al nl cl) w9 (by have := HLEN.out; omega) Bl_9.out
              have HC10 := Lib.hid hC10
              clear hC10
              go_wp2_with fail
              rw [HW9.out]
              refine HC10.out.mono ?_
              rintro e w10 ⟨vm, rfl, om, b10⟩
              have HB10 := Lib.hid (HB9.out.trans (b10.mono HB9.out.size))
              have Xx_10 := Lib.hid (KA.carry Xx_9.out b10)
              have Xy_10 := Lib.hid (KA.carry Xy_9.out b10)
              have Bl_10 := Lib.hid (KB.carry Bl_9.out b10)
              have ZI_10 := Lib.hid (TabI.below ZI_9.out b10)
              have Zx_10 := Lib.hid (AtX.later Zx_9.out b10)
              have Zy_10 := Lib.hid (AtX.later Zy_9.out b10)
              have Zn_10 := Lib.hid (KS.carry Zn_9.out b10)
              have HOM := Lib.hid om
              have HBM := Lib.hid b10
              have hnm2 := (b10.cell (p := ⟨w8.heap.size, 0, none⟩) HSZ.out).trans HNB.out
              have HD := Lib.hid (bDelete_any w9.heap.size w8.heap.size nm vm ll w10 HOM.out (by have := HLEN.out; omega) hnm2 (fun e => by have := (HOM.out.lt _ e).1; have := HSZ.out; omega))
              clear hnm2 om
              clear b10 HC10
              go_wp2_with fail
              refine HD.out.mono ?_
              rintro e w11 ⟨vd, rfl, od, gd⟩
              have b11 : Below w9.heap.size w9 w11 := HBM.out.grown gd HBM.out.size (fun t e => (HOM.out.lt t e).1)
              have HB11 := Lib.hid (HB9.out.trans (b11.mono HB9.out.size))
              have Xx_11 := Lib.hid (KA.carry Xx_9.out b11)
              have Xy_11 := Lib.hid (KA.carry Xy_9.out b11)
              have Bl_11 := Lib.hid (KB.carry Bl_9.out b11)
              have ZI_11 := Lib.hid (TabI.below ZI_9.out b11)
              have Zx_11 := Lib.hid (AtX.later Zx_9.out b11)
              have Zy_11 := Lib.hid (AtX.later Zy_9.out b11)
              have Zn_11 := Lib.hid (KS.carry Zn_9.out b11)
              have Bd_11 := Lib.hid (OwnD.kb od)
              clear od gd b11
              have hC12 := Type_any (gone ll nm) vd ex (.slice ax nx cx) w11 Xx_11.out Bd_11.out HFx.out (gone_fit nm HLl.out)
              simp only [exV] at hC12
              rw [HGT.out] at hC12
              have HC12 := Lib.hid hC12
              clear hC12
              obtain ⟨qx0, qx1, qx2, qx3, qx4⟩ := Zx_11.out
              simp only [Nat.zero_add] at qx1 qx2 qx3 qx4
              go_wp2_with fail
              refine HC12.out.mono ?_
              rintro e w12 ⟨rfl, b12⟩
              have HB12 := Lib.hid (HB11.out.trans (b12.mono HB11.out.size))
              have Xx_12 := Lib.hid (KA.carry Xx_11.out b12)
              have Xy_12 := Lib.hid (KA.carry Xy_11.out b12)
              have Bl_12 := Lib.hid (KB.carry Bl_11.out b12)
              have ZI_12 := Lib.hid (TabI.below ZI_11.out b12)
              have Zx_12 := Lib.hid (AtX.later Zx_11.out b12)
              have Zy_12 := Lib.hid (AtX.later Zy_11.out b12)
              have Zn_12 := Lib.hid (KS.carry Zn_11.out b12)
              clear b12 HC12 qx0 qx1 qx2 qx3 qx4
              have hC13 := awake_any w12 ZI_12.out
              have HC13 := Lib.hid hC13
              clear hC13
              go_wp2_with fail
              refine HC13.out.mono ?_
              rintro e w13 ⟨rfl, b13⟩
              have HB13 := Lib.hid (HB12.out.trans (b13.mono HB12.out.size))
              have Xx_13 := Lib.hid (KA.carry Xx_12.out b13)
              have Xy_13 := Lib.hid (KA.carry Xy_12.out b13)
              have Bl_13 := Lib.hid (KB.carry Bl_12.out b13)
              have ZI_13 := Lib.hid (TabI.below ZI_12.out b13)
              have Zx_13 := Lib.hid (AtX.later Zx_12.out b13)
              have Zy_13 := Lib.hid (AtX.later Zy_12.out b13)
              have Zn_13 := Lib.hid (KS.carry Zn_12.out b13)
              clear b13 HC13
              go_wp2
              go_ret
              exact ⟨rfl, HB13.out⟩
          · obtain ⟨q3, q4⟩ := ine hx
            have hC9 := awake_any w8 ZI_8.out
            have HC9 := Lib.hid hC9
            clear hC9
            go_wp2_with fail
            refine HC9.out.mono ?_
            rintro e w9 ⟨rfl, b9⟩
            have HB9 := Lib.hid (HB8.out.trans (b9.mono HB8.out.size))
            have Xx_9 := Lib.hid (KA.carry Xx_8.out b9)
            have Xy_9 := Lib.hid (KA.carry Xy_8.out b9)
            have Bl_9 := Lib.hid (KB.carry Bl_8.out b9)
            have ZI_9 := Lib.hid (TabI.below ZI_8.out b9)
            have Zx_9 := Lib.hid (AtX.later Zx_8.out b9)
            have Zy_9 := Lib.hid (AtX.later Zy_8.out b9)
            have Zn_9 := Lib.hid (KS.carry Zn_8.out b9)
            clear b9 HC9
            go_wp2
            go_ret
            exact ⟨rfl, HB9.out⟩

end Go.Proofs.YtfgaihajopfmfaaGreatDoor
