/-
  The walk of LexerRoundTrip.
-/
import Derived.Test.YtdgphhdkeikbaaaGreatDoorLxAwake
import Derived.Test.YtdgphhdkeikbaaaGreatDoorLxRtZ
namespace Go.Proofs.YtdgphhdkeikbaaaGreatDoor
set_option linter.unusedSimpArgs false
set_option linter.unusedVariables false
open Go.RowKit

theorem equ_selfR {e : Ex} (h : ckE e = 0) : equE e e = true := by
  unfold equE
  rw [h, (eqE_iff e e).2 rfl]
  rfl
set_option maxRecDepth 100000 in
set_option maxHeartbeats 16000000 in
theorem lexerRoundTrip_walk (ex : Ex) (slx : Value) (w : World) (hKx : KX w ex slx) (hfit : fitE ex) (hV : LxV w) (hT : TabJ w) :
    Calls Tryz.prog 4 #[exV ex slx] w fun e w' => e = .returned (.bool true) ∧ Below w.heap.size w w' := by
  have HB0 : Hid (Below w.heap.size w w) := Lib.hid (Below.refl _ w)
  have ZV_0 := Lib.hid hV
  have ZT_0 := Lib.hid hT
  clear hV hT
  obtain ⟨ax, cx, _, e1, _, _, _⟩ := KA.inv hKx
  obtain ⟨mx, e2⟩ : ∃ n, ex.es.length = n := ⟨_, rfl⟩
  rw [e2] at e1
  subst e1
  clear e2
  have Xx_0 := Lib.hid hKx
  clear hKx
  simp only [exV]
  obtain ⟨T, hT⟩ : ∃ T, txF ex = T := ⟨_, rfl⟩
  obtain ⟨q, hq⟩ : ∃ q, ckE ex = q := ⟨_, rfl⟩
  have HTX := Lib.hid hT
  have HCK := Lib.hid hq
  clear hT hq
  obtain ⟨w1, hw1⟩ : ∃ W, w.alloc (.cells #[.int .i64 ex.k, .int .i64 ex.o, .string ex.s, .int .i64 ex.v, (.slice ax mx cx)] TX (0, 0)) = W := ⟨_, rfl⟩
  have b1 : Below w.heap.size w w1 := by rw [← hw1]; exact below_allocW w _
  have z1 : AtX w1 w.heap.size 0 ex ((.slice ax mx cx)) := by rw [← hw1]; exact boxX w ex.k ex.o ex.s ex.v _ ex.es
  have HB1 := Lib.hid (HB0.out.trans (b1.mono HB0.out.size))
  have Xx_1 := Lib.hid (KA.carry Xx_0.out b1)
  have ZV_1 := Lib.hid (LxV.carry ZV_0.out b1)
  have ZT_1 := Lib.hid (TabJ.below ZT_0.out b1)
  have Zx_1 := Lib.hid z1
  have HW1 := Lib.hid hw1
  clear hw1 b1 z1
  go_enter Tryz.func4, Tryz.ntmps4
  have hC2 := Print_any ex (.slice ax mx cx) w1 Xx_1.out ZT_1.out hfit (fun x h hp => txE_short x h hp)
  rw [HTX.out, HCK.out] at hC2
  simp only [exV] at hC2
  have HC2 := Lib.hid hC2
  clear hC2
  obtain ⟨qx0, qx1, qx2, qx3, qx4⟩ := Zx_1.out
  simp only [Nat.zero_add] at qx1 qx2 qx3 qx4
  go_wp2_with fail
  rw [HW1.out]
  refine HC2.out.mono ?_
  rintro e w2 ⟨rfl, b2⟩
  have HB2 := Lib.hid (HB1.out.trans (b2.mono HB1.out.size))
  have Xx_2 := Lib.hid (KA.carry Xx_1.out b2)
  have ZV_2 := Lib.hid (LxV.carry ZV_1.out b2)
  have ZT_2 := Lib.hid (TabJ.below ZT_1.out b2)
  have Zx_2 := Lib.hid (AtX.later Zx_1.out b2)
  clear b2 HC2 qx0 qx1 qx2 qx3 qx4
  by_cases h0 : q = 0
  · subst h0
    by_cases h : 4000 < T.size
    · have h1 : (4000 : Int) < (T.size : Int) := by omega
      clear h
      have hC3 := awake_any w2 ZV_2.out ZT_2.out
      have HC3 := Lib.hid hC3
      clear hC3
      go_wp2_with fail
      refine HC3.out.mono ?_
      rintro e w3 ⟨rfl, b3⟩
      have HB3 := Lib.hid (HB2.out.trans (b3.mono HB2.out.size))
      have Xx_3 := Lib.hid (KA.carry Xx_2.out b3)
      have ZV_3 := Lib.hid (LxV.carry ZV_2.out b3)
      have ZT_3 := Lib.hid (TabJ.below ZT_2.out b3)
      have Zx_3 := Lib.hid (AtX.later Zx_2.out b3)
      clear b3 HC3
      go_wp2
      go_ret
      exact ⟨rfl, HB3.out⟩
    · have h1 : ¬ (4000 : Int) < (T.size : Int) := by omega
      have hz2 : T.size ≤ 9223372036854775807 := by omega
      have hC3 := Names_any ex ax mx cx w2 Xx_2.out hfit
      simp only [exV] at hC3
      have HC3 := Lib.hid hC3
      clear hC3
      obtain ⟨qx0, qx1, qx2, qx3, qx4⟩ := Zx_2.out
      simp only [Nat.zero_add] at qx1 qx2 qx3 qx4
      go_wp2_with fail
      refine HC3.out.mono ?_
      rintro e w3 ⟨vn, rfl, kn, b3⟩
      have HB3 := Lib.hid (HB2.out.trans (b3.mono HB2.out.size))
      have Xx_3 := Lib.hid (KA.carry Xx_2.out b3)
      have ZV_3 := Lib.hid (LxV.carry ZV_2.out b3)
      have ZT_3 := Lib.hid (TabJ.below ZT_2.out b3)
      have Zx_3 := Lib.hid (AtX.later Zx_2.out b3)
      clear b3 HC3 qx0 qx1 qx2 qx3 qx4
      have Zn_3 := Lib.hid kn
      clear kn
      cases hk : (nmF ex).any kwD.contains with
      | true =>
        have hC := hasKw_any vn (nmF ex) w3 Zn_3.out
        rw [hk] at hC
        have HC := Lib.hid hC
        clear hC
        go_wp2_with fail
        refine HC.out.mono ?_
        rintro e wq ⟨rfl, hw⟩
        have hw := hw.symm
        subst hw
        clear HC
        have hC4 := awake_any w3 ZV_3.out ZT_3.out
        have HC4 := Lib.hid hC4
        clear hC4
        go_wp2_with fail
        refine HC4.out.mono ?_
        rintro e w4 ⟨rfl, b4⟩
        have HB4 := Lib.hid (HB3.out.trans (b4.mono HB3.out.size))
        have Xx_4 := Lib.hid (KA.carry Xx_3.out b4)
        have ZV_4 := Lib.hid (LxV.carry ZV_3.out b4)
        have ZT_4 := Lib.hid (TabJ.below ZT_3.out b4)
        have Zx_4 := Lib.hid (AtX.later Zx_3.out b4)
        have Zn_4 := Lib.hid (KS.carry Zn_3.out b4)
        clear b4 HC4
        go_wp2
        go_ret
        exact ⟨rfl, HB4.out⟩
      | false =>
        have hsh := shE_names HCK.out hk
        have hpp := print_parse HCK.out hsh (by rw [HTX.out]; omega)
        rw [HTX.out] at hpp
        have HPP := Lib.hid hpp
        have HEQ := Lib.hid (equ_selfR HCK.out)
        clear hpp hsh
        have hC := hasKw_any vn (nmF ex) w3 Zn_3.out
        rw [hk] at hC
        have HC := Lib.hid hC
        clear hC
        go_wp2_with fail
        refine HC.out.mono ?_
        rintro e wq ⟨rfl, hw⟩
        have hw := hw.symm
        subst hw
        clear HC
        clear h
        have hC4 := parA T ex 0 0 w3 hz2 ZV_3.out ZT_3.out HPP.out
        have HC4 := Lib.hid hC4
        clear hC4
        go_wp2_with fail
        refine HC4.out.mono ?_
        rintro e w4 ⟨ab, mb, cb, rfl, kb, b4⟩
        have HB4 := Lib.hid (HB3.out.trans (b4.mono HB3.out.size))
        have Xx_4 := Lib.hid (KA.carry Xx_3.out b4)
        have ZV_4 := Lib.hid (LxV.carry ZV_3.out b4)
        have ZT_4 := Lib.hid (TabJ.below ZT_3.out b4)
        have Zx_4 := Lib.hid (AtX.later Zx_3.out b4)
        have Zn_4 := Lib.hid (KS.carry Zn_3.out b4)
        have Xb_4 := Lib.hid (kb)
        clear b4 HC4 kb
        try simp only [exV]
        obtain ⟨W5, hW5⟩ : ∃ W, w4.alloc (.cells #[.int .i64 0, .int .i64 0, .string ⟨#[]⟩, .int .i64 0, .slice none 0 0] TX (0, 0)) = W := ⟨_, rfl⟩
        obtain ⟨g1, b5, g3⟩ := varX w4 ex (.slice ab mb cb) W5 hW5
        have HG5 := Lib.hid g1
        have HW5 := Lib.hid hW5
        obtain ⟨w5, hw5⟩ : ∃ X, W5.setRow w4.heap.size #[.int .i64 ex.k, .int .i64 ex.o, .string ex.s, .int .i64 ex.v, .slice ab mb cb] = X := ⟨_, rfl⟩
        rw [hw5] at b5 g3
        have HB5 := Lib.hid (HB4.out.trans (b5.mono HB4.out.size))
        have Xx_5 := Lib.hid (KA.carry Xx_4.out b5)
        have Xb_5 := Lib.hid (KA.carry Xb_4.out b5)
        have ZV_5 := Lib.hid (LxV.carry ZV_4.out b5)
        have ZT_5 := Lib.hid (TabJ.below ZT_4.out b5)
        have Zx_5 := Lib.hid (AtX.later Zx_4.out b5)
        have Zn_5 := Lib.hid (KS.carry Zn_4.out b5)
        have Zb_5 := Lib.hid g3
        have HV5 := Lib.hid hw5
        clear hW5 g1 g3 hw5 b5
        obtain ⟨qx0, qx1, qx2, qx3, qx4⟩ := Zx_5.out
        simp only [Nat.zero_add] at qx1 qx2 qx3 qx4
        obtain ⟨qb0, qb1, qb2, qb3, qb4⟩ := Zb_5.out
        simp only [Nat.zero_add] at qb1 qb2 qb3 qb4
        try simp only [exV]
        go_wp2_with (rw [HW5.out]; refine wpList_store_row rfl TX (.tmp 5) (.tmp 29) rfl w4.heap.size #[.int .i64 ex.k, .int .i64 ex.o, .string ex.s, .int .i64 ex.v, .slice ab mb cb] rfl rfl _ _ HG5.out (by kernel_rfl) rfl (by simp [Value.oneCell']) ?_; rw [HV5.out])
        have hC6 := rEqual_any ex ex (.slice ax mx cx) (.slice ab mb cb) w5 Xx_5.out Xb_5.out hfit hfit
        rw [HEQ.out] at hC6
        simp only [exV] at hC6
        have HC6 := Lib.hid hC6
        clear hC6
        refine HC6.out.mono ?_
        rintro e w6 ⟨rfl, b6⟩
        have HB6 := Lib.hid (HB5.out.trans (b6.mono HB5.out.size))
        have Xx_6 := Lib.hid (KA.carry Xx_5.out b6)
        have Xb_6 := Lib.hid (KA.carry Xb_5.out b6)
        have ZV_6 := Lib.hid (LxV.carry ZV_5.out b6)
        have ZT_6 := Lib.hid (TabJ.below ZT_5.out b6)
        have Zx_6 := Lib.hid (AtX.later Zx_5.out b6)
        have Zn_6 := Lib.hid (KS.carry Zn_5.out b6)
        have Zb_6 := Lib.hid (AtX.later Zb_5.out b6)
        clear b6 HC6 qx0 qx1 qx2 qx3 qx4 qb0 qb1 qb2 qb3 qb4
        have hC7 := awake_any w6 ZV_6.out ZT_6.out
        have HC7 := Lib.hid hC7
        clear hC7
        go_wp2_with fail
        refine HC7.out.mono ?_
        rintro e w7 ⟨rfl, b7⟩
        have HB7 := Lib.hid (HB6.out.trans (b7.mono HB6.out.size))
        have Xx_7 := Lib.hid (KA.carry Xx_6.out b7)
        have Xb_7 := Lib.hid (KA.carry Xb_6.out b7)
        have ZV_7 := Lib.hid (LxV.carry ZV_6.out b7)
        have ZT_7 := Lib.hid (TabJ.below ZT_6.out b7)
        have Zx_7 := Lib.hid (AtX.later Zx_6.out b7)
        have Zn_7 := Lib.hid (KS.carry Zn_6.out b7)
        have Zb_7 := Lib.hid (AtX.later Zb_6.out b7)
        clear b7 HC7
        go_wp2
        go_ret
        exact ⟨rfl, HB7.out⟩
  · have k1 : (q != 0) = true := by simpa using h0
    clear h0
    have hC3 := awake_any w2 ZV_2.out ZT_2.out
    have HC3 := Lib.hid hC3
    clear hC3
    go_wp2_with fail
    refine HC3.out.mono ?_
    rintro e w3 ⟨rfl, b3⟩
    have HB3 := Lib.hid (HB2.out.trans (b3.mono HB2.out.size))
    have Xx_3 := Lib.hid (KA.carry Xx_2.out b3)
    have ZV_3 := Lib.hid (LxV.carry ZV_2.out b3)
    have ZT_3 := Lib.hid (TabJ.below ZT_2.out b3)
    have Zx_3 := Lib.hid (AtX.later Zx_2.out b3)
    clear b3 HC3
    go_wp2
    go_ret
    exact ⟨rfl, HB3.out⟩

end Go.Proofs.YtdgphhdkeikbaaaGreatDoor
