/-
  The walk of ExprSubstitute.
-/
import Derived.Test.YtfgaihajopfmfaaGreatDoorExAwake
import Derived.Test.YtfgaihajopfmfaaGreatDoorExBndM
import Derived.Test.YtfgaihajopfmfaaGreatDoorExSub
import Derived.Test.YtfgaihajopfmfaaGreatDoorExOpen
namespace Go.Proofs.YtfgaihajopfmfaaGreatDoor
set_option linter.unusedSimpArgs false
set_option linter.unusedVariables false
open Go.RowKit

theorem wf_b {a : Int} (h : (Lit.int .u8 a).wf = true) : ∃ m : Nat, a = (m : Int) ∧ m ≤ 255 := by
  simp [Lit.wf] at h
  have e1 : IntKind.u8.min = 0 := by decide
  have e2 : IntKind.u8.max = 255 := by decide
  exact ⟨a.toNat, by omega, by omega⟩
theorem KS.at_ {w : World} {a : Option Addr} {n c : Nat} {ss : List (List UInt8)} (h : KS w (.slice a n c) ss) (j : Nat) (hj : j < ss.length) : ∃ b off, a = some ⟨b, off, none⟩ ∧ b < w.heap.size ∧ w.cell? ⟨b, off + j, none⟩ = some (encStr (gs ss j)) := by
  obtain ⟨a', c', e, _, _, h3⟩ := h
  injection e with e1 e2 e3
  subst e1
  exact h3 j hj
theorem sub_law {ll : List Bd} {ex ey f : Ex} {n : ByteArray} {T V z : Int} (hc : ckB ll = true) (hl : ll.length ≤ 40) (hT : tyF ll ey = (T, 0)) (hV : vlF ll ey = (V, 0)) (hx : ckE ex = 0) (hn : nmB n = true) (hS : subF n ex ey = (f, z)) :
    (z = 0 → tyF ll f = tyF (insB ll (n, T, V)) ex ∧ vlF ll f = vlF (insB ll (n, T, V)) ex ∧ fitE f) ∧ (z ≠ 0 → z = 4 ∨ z = 22) := by
  obtain ⟨hy, _, hTe⟩ := tyF_ok (l := ll) (e := ey) (by rw [hT])
  have hty : tyE ll ey = (T, 0) := by rw [← hTe, hT]
  have hvl : vlE ll ey = (V, 0) := by
    unfold vlF at hV
    rw [hT] at hV
    simpa using hV
  have hpx := (ckE_ok.1 hx).2.2
  have hpy := (ckE_ok.1 hy).2.2
  have hpr := sbE_prE n ey hpy ex hpx
  have hS' : (if ckE (sbE n ey ex) ≠ 0 then (zeroX, ckE (sbE n ey ex)) else (sbE n ey ex, 0)) = (f, z) := by
    have := hS
    unfold subF at this
    rw [if_neg (by simp [hx, hy]), if_neg (by rw [hn]; simp)] at this
    exact this
  have hv : okV T V := by
    have := (sound ll hc ey hpy T hty).ok (by rw [hvl])
    rw [hvl] at this
    exact this
  have ho : okB (n, T, V) = true := by
    unfold okB
    unfold okV at hv
    simp only [Bool.and_eq_true, Bool.or_eq_true, decide_eq_true_eq]
    refine ⟨hn, ?_⟩
    omega
  have hm := insB_ck hc hl ho
  obtain ⟨e1, e2⟩ := sub_same ll (insB ll (n, T, V)) n ey T V (insB_fd ll n T V) hty hvl ex hpx
  by_cases h0 : ckE (sbE n ey ex) = 0
  · rw [if_neg (by simpa using h0)] at hS'
    injection hS' with h1 h2
    refine ⟨fun _ => ?_, fun h => absurd h2.symm h⟩
    subst h1
    have t1 : tyF ll (sbE n ey ex) = tyE ll (sbE n ey ex) := by unfold tyF; rw [if_neg (by simpa using h0), if_neg (by rw [hc]; simp)]
    have t2 : tyF (insB ll (n, T, V)) ex = tyE (insB ll (n, T, V)) ex := by unfold tyF; rw [if_neg (by simpa using hx), if_neg (by rw [hm]; simp)]
    refine ⟨by rw [t1, t2, e1], ?_, prE_fit _ hpr⟩
    unfold vlF
    rw [t1, t2, e1, e2]
  · rw [if_pos h0] at hS'
    injection hS' with h1 h2
    refine ⟨fun h => absurd (h2.trans h) h0, fun _ => ?_⟩
    rw [← h2]
    unfold ckE at h0 ⊢
    rw [hpr] at h0 ⊢
    split
    · omega
    · split
      · omega
      · rename_i a b
        simp [a, b] at h0

set_option maxRecDepth 100000 in
set_option maxHeartbeats 16000000 in
theorem exprSubstitute_walk (ex : Ex) (slx : Value) (ey : Ex) (sly : Value) (vbl : Value) (ll : List Bd) (k : Nat) (w : World) (hKx : KX w ex slx) (hfx : fitE ex) (hKy : KX w ey sly) (hfy : fitE ey) (hBl : KB w vbl ll) (hll : fitB ll) (hk : k ≤ 255) (hI : TabI w) :
    Calls Tryz.prog 5 #[exV ex slx, exV ey sly, vbl, .int .u8 (k : Int)] w fun e w' => e = .returned (.bool true) ∧ Below w.heap.size w w' := by
  have HB0 : Hid (Below w.heap.size w w) := Lib.hid (Below.refl _ w)
  have ZI_0 := Lib.hid hI
  obtain ⟨ax, cx, _, e1, _, _, _⟩ := KA.inv hKx
  obtain ⟨nx, e2⟩ : ∃ n, ex.es.length = n := ⟨_, rfl⟩
  rw [e2] at e1
  subst e1
  clear e2
  have Xx_0 := Lib.hid hKx
  have HFx := Lib.hid hfx
  obtain ⟨ay, cy, _, e1, _, _, _⟩ := KA.inv hKy
  obtain ⟨ny, e2⟩ : ∃ n, ey.es.length = n := ⟨_, rfl⟩
  rw [e2] at e1
  subst e1
  clear e2
  have Xy_0 := Lib.hid hKy
  have HFy := Lib.hid hfy
  obtain ⟨al, cl, e1, _, _, _⟩ := id hBl
  obtain ⟨nl, e2⟩ : ∃ n, ll.length = n := ⟨_, rfl⟩
  rw [e2] at e1
  subst e1
  clear e2
  have Bl_0 := Lib.hid hBl
  have HLl := Lib.hid hll
  clear hI hKx hfx hKy hfy hBl hll
  simp only [exV]
  obtain ⟨w1, hw1⟩ : ∃ W, (w.alloc (.cells #[.int .i64 ex.k, .int .i64 ex.o, .string ex.s, .int .i64 ex.v, (.slice ax nx cx)] TX (0, 0))).alloc (.cells #[.int .i64 ey.k, .int .i64 ey.o, .string ey.s, .int .i64 ey.v, (.slice ay ny cy)] TX (0, 0)) = W := ⟨_, rfl⟩
  obtain ⟨t0, t1, b1⟩ := twoBlocks w (.cells #[.int .i64 ex.k, .int .i64 ex.o, .string ex.s, .int .i64 ex.v, (.slice ax nx cx)] TX (0, 0)) (.cells #[.int .i64 ey.k, .int .i64 ey.o, .string ey.s, .int .i64 ey.v, (.slice ay ny cy)] TX (0, 0))
  rw [hw1] at t0 t1 b1
  have HB1 := Lib.hid (HB0.out.trans (b1.mono HB0.out.size))
  have Xx_1 := Lib.hid (KA.carry Xx_0.out b1)
  have Xy_1 := Lib.hid (KA.carry Xy_0.out b1)
  have Bl_1 := Lib.hid (KB.carry Bl_0.out b1)
  have ZI_1 := Lib.hid (TabI.below ZI_0.out b1)
  have Zx_1 : Hid (AtX w1 w.heap.size 0 ex (.slice ax nx cx)) := Lib.hid (by refine ⟨?_, ?_, ?_, ?_, ?_⟩ <;> simp [World.cell?, t0])
  have Zy_1 : Hid (AtX w1 (w.heap.size + 1) 0 ey (.slice ay ny cy)) := Lib.hid (by refine ⟨?_, ?_, ?_, ?_, ?_⟩ <;> simp [World.cell?, t1])
  have HW1 := Lib.hid hw1
  clear t0 t1 b1 hw1
  go_enter Tryz.func5, Tryz.ntmps5
  cases hg : grE ex with
  | true =>
    have hC2 := rGreat_any ex (.slice ax nx cx) w1 Xx_1.out
    simp only [exV] at hC2
    rw [hg] at hC2
    have HC2 := Lib.hid hC2
    clear hC2
    go_wp2_with fail
    rw [HW1.out]
    refine HC2.out.mono ?_
    rintro e w2 ⟨rfl, b2⟩
    have HB2 := Lib.hid (HB1.out.trans (b2.mono HB1.out.size))
    have Xx_2 := Lib.hid (KA.carry Xx_1.out b2)
    have Xy_2 := Lib.hid (KA.carry Xy_1.out b2)
    have Bl_2 := Lib.hid (KB.carry Bl_1.out b2)
    have ZI_2 := Lib.hid (TabI.below ZI_1.out b2)
    have Zx_2 := Lib.hid (AtX.later Zx_1.out b2)
    have Zy_2 := Lib.hid (AtX.later Zy_1.out b2)
    clear b2 HC2
    have hC3 := awake_any w2 ZI_2.out
    have HC3 := Lib.hid hC3
    clear hC3
    go_wp2_with fail
    refine HC3.out.mono ?_
    rintro e w3 ⟨rfl, b3⟩
    have HB3 := Lib.hid (HB2.out.trans (b3.mono HB2.out.size))
    have Xx_3 := Lib.hid (KA.carry Xx_2.out b3)
    have Xy_3 := Lib.hid (KA.carry Xy_2.out b3)
    have Bl_3 := Lib.hid (KB.carry Bl_2.out b3)
    have ZI_3 := Lib.hid (TabI.below ZI_2.out b3)
    have Zx_3 := Lib.hid (AtX.later Zx_2.out b3)
    have Zy_3 := Lib.hid (AtX.later Zy_2.out b3)
    clear b3 HC3
    go_wp2
    go_ret
    exact ⟨rfl, HB3.out⟩
  | false =>
    have hC2 := rGreat_any ex (.slice ax nx cx) w1 Xx_1.out
    simp only [exV] at hC2
    rw [hg] at hC2
    have HC2 := Lib.hid hC2
    clear hC2
    go_wp2_with fail
    rw [HW1.out]
    refine HC2.out.mono ?_
    rintro e w2 ⟨rfl, b2⟩
    have HB2 := Lib.hid (HB1.out.trans (b2.mono HB1.out.size))
    have Xx_2 := Lib.hid (KA.carry Xx_1.out b2)
    have Xy_2 := Lib.hid (KA.carry Xy_1.out b2)
    have Bl_2 := Lib.hid (KB.carry Bl_1.out b2)
    have ZI_2 := Lib.hid (TabI.below ZI_1.out b2)
    have Zx_2 := Lib.hid (AtX.later Zx_1.out b2)
    have Zy_2 := Lib.hid (AtX.later Zy_1.out b2)
    clear b2 HC2
    cases hh : grE ey with
    | true =>
      have hC3 := rGreat_any ey (.slice ay ny cy) w2 Xy_2.out
      simp only [exV] at hC3
      rw [hh] at hC3
      have HC3 := Lib.hid hC3
      clear hC3
      obtain ⟨qy0, qy1, qy2, qy3, qy4⟩ := Zy_2.out
      simp only [Nat.zero_add] at qy1 qy2 qy3 qy4
      go_wp2_with fail
      refine HC3.out.mono ?_
      rintro e w3 ⟨rfl, b3⟩
      have HB3 := Lib.hid (HB2.out.trans (b3.mono HB2.out.size))
      have Xx_3 := Lib.hid (KA.carry Xx_2.out b3)
      have Xy_3 := Lib.hid (KA.carry Xy_2.out b3)
      have Bl_3 := Lib.hid (KB.carry Bl_2.out b3)
      have ZI_3 := Lib.hid (TabI.below ZI_2.out b3)
      have Zx_3 := Lib.hid (AtX.later Zx_2.out b3)
      have Zy_3 := Lib.hid (AtX.later Zy_2.out b3)
      clear b3 HC3 qy0 qy1 qy2 qy3 qy4
      have hC4 := awake_any w3 ZI_3.out
      have HC4 := Lib.hid hC4
      clear hC4
      go_wp2_with fail
      refine HC4.out.mono ?_
      rintro e w4 ⟨rfl, b4⟩
      have HB4 := Lib.hid (HB3.out.trans (b4.mono HB3.out.size))
      have Xx_4 := Lib.hid (KA.carry Xx_3.out b4)
      have Xy_4 := Lib.hid (KA.carry Xy_3.out b4)
      have Bl_4 := Lib.hid (KB.carry Bl_3.out b4)
      have ZI_4 := Lib.hid (TabI.below ZI_3.out b4)
      have Zx_4 := Lib.hid (AtX.later Zx_3.out b4)
      have Zy_4 := Lib.hid (AtX.later Zy_3.out b4)
      clear b4 HC4
      go_wp2
      go_ret
      exact ⟨rfl, HB4.out⟩
    | false =>
      by_cases hl : 40 < nl
      · have hl2 : (40 : Int) < (nl : Int) := by omega
        have hC3 := rGreat_any ey (.slice ay ny cy) w2 Xy_2.out
        simp only [exV] at hC3
        rw [hh] at hC3
        have HC3 := Lib.hid hC3
        clear hC3
        obtain ⟨qy0, qy1, qy2, qy3, qy4⟩ := Zy_2.out
        simp only [Nat.zero_add] at qy1 qy2 qy3 qy4
        go_wp2_with fail
        refine HC3.out.mono ?_
        rintro e w3 ⟨rfl, b3⟩
        have HB3 := Lib.hid (HB2.out.trans (b3.mono HB2.out.size))
        have Xx_3 := Lib.hid (KA.carry Xx_2.out b3)
        have Xy_3 := Lib.hid (KA.carry Xy_2.out b3)
        have Bl_3 := Lib.hid (KB.carry Bl_2.out b3)
        have ZI_3 := Lib.hid (TabI.below ZI_2.out b3)
        have Zx_3 := Lib.hid (AtX.later Zx_2.out b3)
        have Zy_3 := Lib.hid (AtX.later Zy_2.out b3)
        clear b3 HC3 qy0 qy1 qy2 qy3 qy4
        have hC4 := awake_any w3 ZI_3.out
        have HC4 := Lib.hid hC4
        clear hC4
        go_wp2_with fail
        refine HC4.out.mono ?_
        rintro e w4 ⟨rfl, b4⟩
        have HB4 := Lib.hid (HB3.out.trans (b4.mono HB3.out.size))
        have Xx_4 := Lib.hid (KA.carry Xx_3.out b4)
        have Xy_4 := Lib.hid (KA.carry Xy_3.out b4)
        have Bl_4 := Lib.hid (KB.carry Bl_3.out b4)
        have ZI_4 := Lib.hid (TabI.below ZI_3.out b4)
        have Zx_4 := Lib.hid (AtX.later Zx_3.out b4)
        have Zy_4 := Lib.hid (AtX.later Zy_3.out b4)
        clear b4 HC4
        go_wp2
        go_ret
        exact ⟨rfl, HB4.out⟩
      · have hl2 : ¬ (40 : Int) < (nl : Int) := by omega
        have hnl : nl = ll.length := by obtain ⟨_, _, e, _⟩ := Bl_2.out; injection e
        have HLEN : Hid (ll.length ≤ 40) := Lib.hid (by omega)
        clear hnl
        have hC3 := rGreat_any ey (.slice ay ny cy) w2 Xy_2.out
        simp only [exV] at hC3
        rw [hh] at hC3
        have HC3 := Lib.hid hC3
        clear hC3
        obtain ⟨qy0, qy1, qy2, qy3, qy4⟩ := Zy_2.out
        simp only [Nat.zero_add] at qy1 qy2 qy3 qy4
        go_wp2_with fail
        refine HC3.out.mono ?_
        rintro e w3 ⟨rfl, b3⟩
        have HB3 := Lib.hid (HB2.out.trans (b3.mono HB2.out.size))
        have Xx_3 := Lib.hid (KA.carry Xx_2.out b3)
        have Xy_3 := Lib.hid (KA.carry Xy_2.out b3)
        have Bl_3 := Lib.hid (KB.carry Bl_2.out b3)
        have ZI_3 := Lib.hid (TabI.below ZI_2.out b3)
        have Zx_3 := Lib.hid (AtX.later Zx_2.out b3)
        have Zy_3 := Lib.hid (AtX.later Zy_2.out b3)
        clear b3 HC3 qy0 qy1 qy2 qy3 qy4
        cases hc : ckB ll with
        | false =>
          have hce : ckBE ll = 1 := by unfold ckBE; rw [hc]; rfl
          have hC4 := rCheckB_any ll (.slice al nl cl) w3 Bl_3.out HLl.out
          rw [hce] at hC4
          have HC4 := Lib.hid hC4
          clear hC4
          go_wp2_with fail
          refine HC4.out.mono ?_
          rintro e w4 ⟨rfl, b4⟩
          have HB4 := Lib.hid (HB3.out.trans (b4.mono HB3.out.size))
          have Xx_4 := Lib.hid (KA.carry Xx_3.out b4)
          have Xy_4 := Lib.hid (KA.carry Xy_3.out b4)
          have Bl_4 := Lib.hid (KB.carry Bl_3.out b4)
          have ZI_4 := Lib.hid (TabI.below ZI_3.out b4)
          have Zx_4 := Lib.hid (AtX.later Zx_3.out b4)
          have Zy_4 := Lib.hid (AtX.later Zy_3.out b4)
          clear b4 HC4
          have hC5 := awake_any w4 ZI_4.out
          have HC5 := Lib.hid hC5
          clear hC5
          go_wp2_with fail
          refine HC5.out.mono ?_
          rintro e w5 ⟨rfl, b5⟩
          have HB5 := Lib.hid (HB4.out.trans (b5.mono HB4.out.size))
          have Xx_5 := Lib.hid (KA.carry Xx_4.out b5)
          have Xy_5 := Lib.hid (KA.carry Xy_4.out b5)
          have Bl_5 := Lib.hid (KB.carry Bl_4.out b5)
          have ZI_5 := Lib.hid (TabI.below ZI_4.out b5)
          have Zx_5 := Lib.hid (AtX.later Zx_4.out b5)
          have Zy_5 := Lib.hid (AtX.later Zy_4.out b5)
          clear b5 HC5
          go_wp2
          go_ret
          exact ⟨rfl, HB5.out⟩
        | true =>
          have hce : ckBE ll = 0 := by unfold ckBE; rw [hc]; rfl
          have hC4 := rCheckB_any ll (.slice al nl cl) w3 Bl_3.out HLl.out
          rw [hce] at hC4
          have HC4 := Lib.hid hC4
          clear hC4
          go_wp2_with fail
          refine HC4.out.mono ?_
          rintro e w4 ⟨rfl, b4⟩
          have HB4 := Lib.hid (HB3.out.trans (b4.mono HB3.out.size))
          have Xx_4 := Lib.hid (KA.carry Xx_3.out b4)
          have Xy_4 := Lib.hid (KA.carry Xy_3.out b4)
          have Bl_4 := Lib.hid (KB.carry Bl_3.out b4)
          have ZI_4 := Lib.hid (TabI.below ZI_3.out b4)
          have Zx_4 := Lib.hid (AtX.later Zx_3.out b4)
          have Zy_4 := Lib.hid (AtX.later Zy_3.out b4)
          clear b4 HC4
          obtain ⟨⟨T, X⟩, hT⟩ : ∃ q, tyF ll ey = q := ⟨_, rfl⟩
          obtain ⟨⟨V, Y⟩, hV⟩ : ∃ q, vlF ll ey = q := ⟨_, rfl⟩
          obtain ⟨N, hN⟩ : ∃ q, nmF ex = q := ⟨_, rfl⟩
          have KhT := Lib.hid hT
          have KhV := Lib.hid hV
          have KhN := Lib.hid hN
          have HCK := Lib.hid hc
          clear hT hV hN hc hce hg hh hl
          have hC5 := Eval_any ll (.slice al nl cl) ey (.slice ay ny cy) w4 Xy_4.out Bl_4.out HFy.out HLl.out
          simp only [exV] at hC5
          rw [KhV.out] at hC5
          have HC5 := Lib.hid hC5
          clear hC5
          obtain ⟨qy0, qy1, qy2, qy3, qy4⟩ := Zy_4.out
          simp only [Nat.zero_add] at qy1 qy2 qy3 qy4
          go_wp2_with fail
          refine HC5.out.mono ?_
          rintro e w5 ⟨rfl, b5⟩
          have HB5 := Lib.hid (HB4.out.trans (b5.mono HB4.out.size))
          have Xx_5 := Lib.hid (KA.carry Xx_4.out b5)
          have Xy_5 := Lib.hid (KA.carry Xy_4.out b5)
          have Bl_5 := Lib.hid (KB.carry Bl_4.out b5)
          have ZI_5 := Lib.hid (TabI.below ZI_4.out b5)
          have Zx_5 := Lib.hid (AtX.later Zx_4.out b5)
          have Zy_5 := Lib.hid (AtX.later Zy_4.out b5)
          clear b5 HC5 qy0 qy1 qy2 qy3 qy4
          have hC6 := Type_any ll (.slice al nl cl) ey (.slice ay ny cy) w5 Xy_5.out Bl_5.out HFy.out HLl.out
          simp only [exV] at hC6
          rw [KhT.out] at hC6
          have HC6 := Lib.hid hC6
          clear hC6
          obtain ⟨qy0, qy1, qy2, qy3, qy4⟩ := Zy_5.out
          simp only [Nat.zero_add] at qy1 qy2 qy3 qy4
          go_wp2_with fail
          refine HC6.out.mono ?_
          rintro e w6 ⟨rfl, b6⟩
          have HB6 := Lib.hid (HB5.out.trans (b6.mono HB5.out.size))
          have Xx_6 := Lib.hid (KA.carry Xx_5.out b6)
          have Xy_6 := Lib.hid (KA.carry Xy_5.out b6)
          have Bl_6 := Lib.hid (KB.carry Bl_5.out b6)
          have ZI_6 := Lib.hid (TabI.below ZI_5.out b6)
          have Zx_6 := Lib.hid (AtX.later Zx_5.out b6)
          have Zy_6 := Lib.hid (AtX.later Zy_5.out b6)
          clear b6 HC6 qy0 qy1 qy2 qy3 qy4
          have hC7 := Names_any ex ax nx cx w6 Xx_6.out HFx.out
          simp only [exV] at hC7
          rw [KhN.out] at hC7
          have HC7 := Lib.hid hC7
          clear hC7
          obtain ⟨qx0, qx1, qx2, qx3, qx4⟩ := Zx_6.out
          simp only [Nat.zero_add] at qx1 qx2 qx3 qx4
          go_wp2_with fail
          refine HC7.out.mono ?_
          rintro e w7 ⟨vn, rfl, kn, b7⟩
          have HB7 := Lib.hid (HB6.out.trans (b7.mono HB6.out.size))
          have Xx_7 := Lib.hid (KA.carry Xx_6.out b7)
          have Xy_7 := Lib.hid (KA.carry Xy_6.out b7)
          have Bl_7 := Lib.hid (KB.carry Bl_6.out b7)
          have ZI_7 := Lib.hid (TabI.below ZI_6.out b7)
          have Zx_7 := Lib.hid (AtX.later Zx_6.out b7)
          have Zy_7 := Lib.hid (AtX.later Zy_6.out b7)
          clear b7 HC7 qx0 qx1 qx2 qx3 qx4
          obtain ⟨an, cn, rfl, kn1, kn2, kn3⟩ := kn
          have Zn_7 := Lib.hid (show KS w7 (.slice an N.length cn) N from ⟨an, cn, rfl, kn1, kn2, kn3⟩)
          clear kn3
          by_cases hy : Y = 0
          · obtain ⟨q1, q2⟩ := ieq hy
            by_cases hx : X = 0
            · obtain ⟨q3, q4⟩ := ieq hx
              by_cases hn : (N.length : Int) = 0
              · obtain ⟨q5, q6⟩ := ieq hn
                have hC8 := awake_any w7 ZI_7.out
                have HC8 := Lib.hid hC8
                clear hC8
                go_wp2_with fail
                refine HC8.out.mono ?_
                rintro e w8 ⟨rfl, b8⟩
                have HB8 := Lib.hid (HB7.out.trans (b8.mono HB7.out.size))
                have Xx_8 := Lib.hid (KA.carry Xx_7.out b8)
                have Xy_8 := Lib.hid (KA.carry Xy_7.out b8)
                have Bl_8 := Lib.hid (KB.carry Bl_7.out b8)
                have ZI_8 := Lib.hid (TabI.below ZI_7.out b8)
                have Zx_8 := Lib.hid (AtX.later Zx_7.out b8)
                have Zy_8 := Lib.hid (AtX.later Zy_7.out b8)
                have Zn_8 := Lib.hid (KS.carry Zn_7.out b8)
                clear b8 HC8
                go_wp2
                go_ret
                exact ⟨rfl, HB8.out⟩
              · obtain ⟨q5, q6⟩ := ine hn
                obtain ⟨M, hM⟩ : ∃ M, k % N.length = M := ⟨_, rfl⟩
                have hMl : M < N.length := by rw [← hM]; exact Nat.mod_lt _ (by omega)
                have hm : (k : Int).tmod (N.length : Int) = (M : Int) := by rw [← hM, Int.ofNat_tmod]
                have hgm : gs N M ∈ nmF ex := by rw [KhN.out]; unfold gs; rw [List.getElem?_eq_getElem hMl]; exact List.getElem_mem hMl
                obtain ⟨nm, en, _, hnm, hcx⟩ := nmF_in hgm
                obtain ⟨bn, on, rfl, hbn, cnm⟩ := KS.at_ Zn_7.out M hMl
                rw [en, encStr_data] at cnm
                obtain ⟨⟨Fx, Z⟩, hS⟩ : ∃ r, subF nm ex ey = r := ⟨_, rfl⟩
                obtain ⟨mm, hmm⟩ : ∃ r, insB ll (nm, T, V) = r := ⟨_, rfl⟩
                subst hy
                subst hx
                have HSL := Lib.hid (sub_law HCK.out HLEN.out KhT.out KhV.out hcx hnm hS)
                rw [hmm] at HSL
                have HNM : Hid (nm.size ≤ 9223372036854775807) := Lib.hid (by have := nmB_size hnm; omega)
                have HFM : Hid (fitB mm) := Lib.hid (by rw [← hmm]; exact insB_fit HLl.out HNM.out)
                have KhS := Lib.hid hS
                have KhM := Lib.hid hmm
                have m0 : (0 : Int) ≤ (M : Int) := by omega
                have m1 : (M : Int) < (N.length : Int) := by omega
                have N0 : (0 : Int) ≤ (k : Int) := by omega
                have N1 : (k : Int) ≤ 255 := by omega
                clear hM hgm en hnm hcx hS hmm hn hbn
                have hC8 := Substitute_any nm ex ey ax nx cx ay ny cy w7 Xx_7.out Xy_7.out HFx.out HFy.out HNM.out
                simp only [exV] at hC8
                rw [KhS.out] at hC8
                have HC8 := Lib.hid hC8
                clear hC8
                obtain ⟨qx0, qx1, qx2, qx3, qx4⟩ := Zx_7.out
                simp only [Nat.zero_add] at qx1 qx2 qx3 qx4
                obtain ⟨qy0, qy1, qy2, qy3, qy4⟩ := Zy_7.out
                simp only [Nat.zero_add] at qy1 qy2 qy3 qy4
                go_wp2_with fail
                refine HC8.out.mono ?_
                rintro e w8 ⟨af, nf, cf, rfl, kf, b8⟩
                have HB8 := Lib.hid (HB7.out.trans (b8.mono HB7.out.size))
                have Xx_8 := Lib.hid (KA.carry Xx_7.out b8)
                have Xy_8 := Lib.hid (KA.carry Xy_7.out b8)
                have Bl_8 := Lib.hid (KB.carry Bl_7.out b8)
                have ZI_8 := Lib.hid (TabI.below ZI_7.out b8)
                have Zx_8 := Lib.hid (AtX.later Zx_7.out b8)
                have Zy_8 := Lib.hid (AtX.later Zy_7.out b8)
                have Zn_8 := Lib.hid (KS.carry Zn_7.out b8)
                have Xf_8 := Lib.hid (kf)
                clear b8 HC8 kf qx0 qx1 qx2 qx3 qx4 qy0 qy1 qy2 qy3 qy4
                try simp only [exV]
                by_cases hz : Z = 0
                · obtain ⟨z1, z2⟩ := ieq hz
                  obtain ⟨W9, hW9⟩ : ∃ W, w8.alloc (.cells #[.int .i64 0, .int .i64 0, .string ⟨#[]⟩, .int .i64 0, .slice none 0 0] TX (0, 0)) = W := ⟨_, rfl⟩
                  obtain ⟨g1, b9, g3⟩ := varX w8 Fx ((.slice af nf cf)) W9 hW9
                  have HG9 := Lib.hid g1
                  have HW9 := Lib.hid hW9
                  obtain ⟨w9, hw9⟩ : ∃ X, W9.setRow w8.heap.size #[.int .i64 Fx.k, .int .i64 Fx.o, .string Fx.s, .int .i64 Fx.v, (.slice af nf cf)] = X := ⟨_, rfl⟩
                  rw [hw9] at b9 g3
                  have HB9 := Lib.hid (HB8.out.trans (b9.mono HB8.out.size))
                  have Xx_9 := Lib.hid (KA.carry Xx_8.out b9)
                  have Xy_9 := Lib.hid (KA.carry Xy_8.out b9)
                  have Xf_9 := Lib.hid (KA.carry Xf_8.out b9)
                  have Bl_9 := Lib.hid (KB.carry Bl_8.out b9)
                  have ZI_9 := Lib.hid (TabI.below ZI_8.out b9)
                  have Zx_9 := Lib.hid (AtX.later Zx_8.out b9)
                  have Zy_9 := Lib.hid (AtX.later Zy_8.out b9)
                  have Zn_9 := Lib.hid (KS.carry Zn_8.out b9)
                  have Zf_9 := Lib.hid g3
                  have HV9 := Lib.hid hw9
                  clear hW9 g1 g3 hw9 b9
                  try simp only [exV]
                  go_wp2_with (rw [HW9.out]; refine wpList_store_row rfl TX (.tmp 15) (.tmp 82) rfl w8.heap.size #[.int .i64 Fx.k, .int .i64 Fx.o, .string Fx.s, .int .i64 Fx.v, (.slice af nf cf)] rfl rfl _ _ HG9.out (by kernel_rfl) rfl (by simp [Value.oneCell']) ?_; rw [HV9.out])
                  obtain ⟨e1, e2, e3⟩ := HSL.out.1 hz
                  obtain ⟨⟨A, P⟩, hA⟩ : ∃ q, vlF ll Fx = q := ⟨_, rfl⟩
                  obtain ⟨⟨C, R⟩, hC⟩ : ∃ q, tyF ll Fx = q := ⟨_, rfl⟩
                  have KA1 := Lib.hid hA
                  have KC1 := Lib.hid hC
                  have KA2 := Lib.hid (e2.symm.trans hA)
                  have KC2 := Lib.hid (e1.symm.trans hC)
                  have HFf := Lib.hid e3
                  clear e1 e2 e3 hA hC hz
                  have hC10 := bound_any ll (.slice al nl cl) nm T V w9 (by have := HLEN.out; omega) Bl_9.out
                  rw [KhM.out] at hC10
                  have HC10 := Lib.hid hC10
                  clear hC10
                  refine HC10.out.mono ?_
                  rintro e w10 ⟨vm, rfl, km, b10⟩
                  have HB10 := Lib.hid (HB9.out.trans (b10.mono HB9.out.size))
                  have Xx_10 := Lib.hid (KA.carry Xx_9.out b10)
                  have Xy_10 := Lib.hid (KA.carry Xy_9.out b10)
                  have Xf_10 := Lib.hid (KA.carry Xf_9.out b10)
                  have Bl_10 := Lib.hid (KB.carry Bl_9.out b10)
                  have ZI_10 := Lib.hid (TabI.below ZI_9.out b10)
                  have Zx_10 := Lib.hid (AtX.later Zx_9.out b10)
                  have Zy_10 := Lib.hid (AtX.later Zy_9.out b10)
                  have Zn_10 := Lib.hid (KS.carry Zn_9.out b10)
                  have Zf_10 := Lib.hid (AtX.later Zf_9.out b10)
                  clear b10 HC10
                  obtain ⟨am, cm, rfl, _, _, _⟩ := id km
                  have Bm_10 := Lib.hid km
                  clear km
                  have hC11 := Eval_any ll (.slice al nl cl) Fx (.slice af nf cf) w10 Xf_10.out Bl_10.out HFf.out HLl.out
                  simp only [exV] at hC11
                  rw [KA1.out] at hC11
                  have HC11 := Lib.hid hC11
                  clear hC11
                  obtain ⟨qf0, qf1, qf2, qf3, qf4⟩ := Zf_10.out
                  simp only [Nat.zero_add] at qf1 qf2 qf3 qf4
                  go_wp2_with fail
                  refine HC11.out.mono ?_
                  rintro e w11 ⟨rfl, b11⟩
                  have HB11 := Lib.hid (HB10.out.trans (b11.mono HB10.out.size))
                  have Xx_11 := Lib.hid (KA.carry Xx_10.out b11)
                  have Xy_11 := Lib.hid (KA.carry Xy_10.out b11)
                  have Xf_11 := Lib.hid (KA.carry Xf_10.out b11)
                  have Bl_11 := Lib.hid (KB.carry Bl_10.out b11)
                  have Bm_11 := Lib.hid (KB.carry Bm_10.out b11)
                  have ZI_11 := Lib.hid (TabI.below ZI_10.out b11)
                  have Zx_11 := Lib.hid (AtX.later Zx_10.out b11)
                  have Zy_11 := Lib.hid (AtX.later Zy_10.out b11)
                  have Zn_11 := Lib.hid (KS.carry Zn_10.out b11)
                  have Zf_11 := Lib.hid (AtX.later Zf_10.out b11)
                  clear b11 HC11 qf0 qf1 qf2 qf3 qf4
                  have hC12 := Eval_any mm (.slice am mm.length cm) ex (.slice ax nx cx) w11 Xx_11.out Bm_11.out HFx.out HFM.out
                  simp only [exV] at hC12
                  rw [KA2.out] at hC12
                  have HC12 := Lib.hid hC12
                  clear hC12
                  obtain ⟨qx0, qx1, qx2, qx3, qx4⟩ := Zx_11.out
                  simp only [Nat.zero_add] at qx1 qx2 qx3 qx4
                  go_wp2_with fail
                  refine HC12.out.mono ?_
                  rintro e w12 ⟨rfl, b12⟩
                  have HB12 := Lib.hid (HB11.out.trans (b12.mono HB11.out.size))
                  have Xx_12 := Lib.hid (KA.carry Xx_11.out b12)
                  have Xy_12 := Lib.hid (KA.carry Xy_11.out b12)
                  have Xf_12 := Lib.hid (KA.carry Xf_11.out b12)
                  have Bl_12 := Lib.hid (KB.carry Bl_11.out b12)
                  have Bm_12 := Lib.hid (KB.carry Bm_11.out b12)
                  have ZI_12 := Lib.hid (TabI.below ZI_11.out b12)
                  have Zx_12 := Lib.hid (AtX.later Zx_11.out b12)
                  have Zy_12 := Lib.hid (AtX.later Zy_11.out b12)
                  have Zn_12 := Lib.hid (KS.carry Zn_11.out b12)
                  have Zf_12 := Lib.hid (AtX.later Zf_11.out b12)
                  clear b12 HC12 qx0 qx1 qx2 qx3 qx4
                  have hC13 := Type_any ll (.slice al nl cl) Fx (.slice af nf cf) w12 Xf_12.out Bl_12.out HFf.out HLl.out
                  simp only [exV] at hC13
                  rw [KC1.out] at hC13
                  have HC13 := Lib.hid hC13
                  clear hC13
                  obtain ⟨qf0, qf1, qf2, qf3, qf4⟩ := Zf_12.out
                  simp only [Nat.zero_add] at qf1 qf2 qf3 qf4
                  go_wp2_with fail
                  refine HC13.out.mono ?_
                  rintro e w13 ⟨rfl, b13⟩
                  have HB13 := Lib.hid (HB12.out.trans (b13.mono HB12.out.size))
                  have Xx_13 := Lib.hid (KA.carry Xx_12.out b13)
                  have Xy_13 := Lib.hid (KA.carry Xy_12.out b13)
                  have Xf_13 := Lib.hid (KA.carry Xf_12.out b13)
                  have Bl_13 := Lib.hid (KB.carry Bl_12.out b13)
                  have Bm_13 := Lib.hid (KB.carry Bm_12.out b13)
                  have ZI_13 := Lib.hid (TabI.below ZI_12.out b13)
                  have Zx_13 := Lib.hid (AtX.later Zx_12.out b13)
                  have Zy_13 := Lib.hid (AtX.later Zy_12.out b13)
                  have Zn_13 := Lib.hid (KS.carry Zn_12.out b13)
                  have Zf_13 := Lib.hid (AtX.later Zf_12.out b13)
                  clear b13 HC13 qf0 qf1 qf2 qf3 qf4
                  have hC14 := Type_any mm (.slice am mm.length cm) ex (.slice ax nx cx) w13 Xx_13.out Bm_13.out HFx.out HFM.out
                  simp only [exV] at hC14
                  rw [KC2.out] at hC14
                  have HC14 := Lib.hid hC14
                  clear hC14
                  obtain ⟨qx0, qx1, qx2, qx3, qx4⟩ := Zx_13.out
                  simp only [Nat.zero_add] at qx1 qx2 qx3 qx4
                  go_wp2_with fail
                  refine HC14.out.mono ?_
                  rintro e w14 ⟨rfl, b14⟩
                  have HB14 := Lib.hid (HB13.out.trans (b14.mono HB13.out.size))
                  have Xx_14 := Lib.hid (KA.carry Xx_13.out b14)
                  have Xy_14 := Lib.hid (KA.carry Xy_13.out b14)
                  have Xf_14 := Lib.hid (KA.carry Xf_13.out b14)
                  have Bl_14 := Lib.hid (KB.carry Bl_13.out b14)
                  have Bm_14 := Lib.hid (KB.carry Bm_13.out b14)
                  have ZI_14 := Lib.hid (TabI.below ZI_13.out b14)
                  have Zx_14 := Lib.hid (AtX.later Zx_13.out b14)
                  have Zy_14 := Lib.hid (AtX.later Zy_13.out b14)
                  have Zn_14 := Lib.hid (KS.carry Zn_13.out b14)
                  have Zf_14 := Lib.hid (AtX.later Zf_13.out b14)
                  clear b14 HC14 qx0 qx1 qx2 qx3 qx4
                  have q_A := (ieq (show A = A from rfl)).1
                  have p_A := (ieq (show A = A from rfl)).2
                  have q_P := (ieq (show P = P from rfl)).1
                  have p_P := (ieq (show P = P from rfl)).2
                  have q_C := (ieq (show C = C from rfl)).1
                  have p_C := (ieq (show C = C from rfl)).2
                  have q_R := (ieq (show R = R from rfl)).1
                  have p_R := (ieq (show R = R from rfl)).2
                  have hC15 := awake_any w14 ZI_14.out
                  have HC15 := Lib.hid hC15
                  clear hC15
                  go_wp2_with fail
                  refine HC15.out.mono ?_
                  rintro e w15 ⟨rfl, b15⟩
                  have HB15 := Lib.hid (HB14.out.trans (b15.mono HB14.out.size))
                  have Xx_15 := Lib.hid (KA.carry Xx_14.out b15)
                  have Xy_15 := Lib.hid (KA.carry Xy_14.out b15)
                  have Xf_15 := Lib.hid (KA.carry Xf_14.out b15)
                  have Bl_15 := Lib.hid (KB.carry Bl_14.out b15)
                  have Bm_15 := Lib.hid (KB.carry Bm_14.out b15)
                  have ZI_15 := Lib.hid (TabI.below ZI_14.out b15)
                  have Zx_15 := Lib.hid (AtX.later Zx_14.out b15)
                  have Zy_15 := Lib.hid (AtX.later Zy_14.out b15)
                  have Zn_15 := Lib.hid (KS.carry Zn_14.out b15)
                  have Zf_15 := Lib.hid (AtX.later Zf_14.out b15)
                  clear b15 HC15
                  go_wp2
                  go_ret
                  exact ⟨rfl, HB15.out⟩
                · obtain ⟨z1, z2⟩ := ine hz
                  have hz4 := HSL.out.2 hz
                  rcases hz4 with rfl | rfl
                  · clear hz
                    obtain ⟨W9, hW9⟩ : ∃ W, w8.alloc (.cells #[.int .i64 0, .int .i64 0, .string ⟨#[]⟩, .int .i64 0, .slice none 0 0] TX (0, 0)) = W := ⟨_, rfl⟩
                    obtain ⟨g1, b9, g3⟩ := varX w8 Fx ((.slice af nf cf)) W9 hW9
                    have HG9 := Lib.hid g1
                    have HW9 := Lib.hid hW9
                    obtain ⟨w9, hw9⟩ : ∃ X, W9.setRow w8.heap.size #[.int .i64 Fx.k, .int .i64 Fx.o, .string Fx.s, .int .i64 Fx.v, (.slice af nf cf)] = X := ⟨_, rfl⟩
                    rw [hw9] at b9 g3
                    have HB9 := Lib.hid (HB8.out.trans (b9.mono HB8.out.size))
                    have Xx_9 := Lib.hid (KA.carry Xx_8.out b9)
                    have Xy_9 := Lib.hid (KA.carry Xy_8.out b9)
                    have Xf_9 := Lib.hid (KA.carry Xf_8.out b9)
                    have Bl_9 := Lib.hid (KB.carry Bl_8.out b9)
                    have ZI_9 := Lib.hid (TabI.below ZI_8.out b9)
                    have Zx_9 := Lib.hid (AtX.later Zx_8.out b9)
                    have Zy_9 := Lib.hid (AtX.later Zy_8.out b9)
                    have Zn_9 := Lib.hid (KS.carry Zn_8.out b9)
                    have Zf_9 := Lib.hid g3
                    have HV9 := Lib.hid hw9
                    clear hW9 g1 g3 hw9 b9
                    try simp only [exV]
                    go_wp2_with (rw [HW9.out]; refine wpList_store_row rfl TX (.tmp 15) (.tmp 82) rfl w8.heap.size #[.int .i64 Fx.k, .int .i64 Fx.o, .string Fx.s, .int .i64 Fx.v, (.slice af nf cf)] rfl rfl _ _ HG9.out (by kernel_rfl) rfl (by simp [Value.oneCell']) ?_; rw [HV9.out])
                    have hC10 := awake_any w9 ZI_9.out
                    have HC10 := Lib.hid hC10
                    clear hC10
                    refine HC10.out.mono ?_
                    rintro e w10 ⟨rfl, b10⟩
                    have HB10 := Lib.hid (HB9.out.trans (b10.mono HB9.out.size))
                    have Xx_10 := Lib.hid (KA.carry Xx_9.out b10)
                    have Xy_10 := Lib.hid (KA.carry Xy_9.out b10)
                    have Xf_10 := Lib.hid (KA.carry Xf_9.out b10)
                    have Bl_10 := Lib.hid (KB.carry Bl_9.out b10)
                    have ZI_10 := Lib.hid (TabI.below ZI_9.out b10)
                    have Zx_10 := Lib.hid (AtX.later Zx_9.out b10)
                    have Zy_10 := Lib.hid (AtX.later Zy_9.out b10)
                    have Zn_10 := Lib.hid (KS.carry Zn_9.out b10)
                    have Zf_10 := Lib.hid (AtX.later Zf_9.out b10)
                    clear b10 HC10
                    go_wp2
                    go_ret
                    exact ⟨rfl, HB10.out⟩
                  · clear hz
                    obtain ⟨W9, hW9⟩ : ∃ W, w8.alloc (.cells #[.int .i64 0, .int .i64 0, .string ⟨#[]⟩, .int .i64 0, .slice none 0 0] TX (0, 0)) = W := ⟨_, rfl⟩
                    obtain ⟨g1, b9, g3⟩ := varX w8 Fx ((.slice af nf cf)) W9 hW9
                    have HG9 := Lib.hid g1
                    have HW9 := Lib.hid hW9
                    obtain ⟨w9, hw9⟩ : ∃ X, W9.setRow w8.heap.size #[.int .i64 Fx.k, .int .i64 Fx.o, .string Fx.s, .int .i64 Fx.v, (.slice af nf cf)] = X := ⟨_, rfl⟩
                    rw [hw9] at b9 g3
                    have HB9 := Lib.hid (HB8.out.trans (b9.mono HB8.out.size))
                    have Xx_9 := Lib.hid (KA.carry Xx_8.out b9)
                    have Xy_9 := Lib.hid (KA.carry Xy_8.out b9)
                    have Xf_9 := Lib.hid (KA.carry Xf_8.out b9)
                    have Bl_9 := Lib.hid (KB.carry Bl_8.out b9)
                    have ZI_9 := Lib.hid (TabI.below ZI_8.out b9)
                    have Zx_9 := Lib.hid (AtX.later Zx_8.out b9)
                    have Zy_9 := Lib.hid (AtX.later Zy_8.out b9)
                    have Zn_9 := Lib.hid (KS.carry Zn_8.out b9)
                    have Zf_9 := Lib.hid g3
                    have HV9 := Lib.hid hw9
                    clear hW9 g1 g3 hw9 b9
                    try simp only [exV]
                    go_wp2_with (rw [HW9.out]; refine wpList_store_row rfl TX (.tmp 15) (.tmp 82) rfl w8.heap.size #[.int .i64 Fx.k, .int .i64 Fx.o, .string Fx.s, .int .i64 Fx.v, (.slice af nf cf)] rfl rfl _ _ HG9.out (by kernel_rfl) rfl (by simp [Value.oneCell']) ?_; rw [HV9.out])
                    have hC10 := awake_any w9 ZI_9.out
                    have HC10 := Lib.hid hC10
                    clear hC10
                    refine HC10.out.mono ?_
                    rintro e w10 ⟨rfl, b10⟩
                    have HB10 := Lib.hid (HB9.out.trans (b10.mono HB9.out.size))
                    have Xx_10 := Lib.hid (KA.carry Xx_9.out b10)
                    have Xy_10 := Lib.hid (KA.carry Xy_9.out b10)
                    have Xf_10 := Lib.hid (KA.carry Xf_9.out b10)
                    have Bl_10 := Lib.hid (KB.carry Bl_9.out b10)
                    have ZI_10 := Lib.hid (TabI.below ZI_9.out b10)
                    have Zx_10 := Lib.hid (AtX.later Zx_9.out b10)
                    have Zy_10 := Lib.hid (AtX.later Zy_9.out b10)
                    have Zn_10 := Lib.hid (KS.carry Zn_9.out b10)
                    have Zf_10 := Lib.hid (AtX.later Zf_9.out b10)
                    clear b10 HC10
                    go_wp2
                    go_ret
                    exact ⟨rfl, HB10.out⟩
            · obtain ⟨q3, q4⟩ := ine hx
              have hC8 := awake_any w7 ZI_7.out
              have HC8 := Lib.hid hC8
              clear hC8
              go_wp2_with fail
              refine HC8.out.mono ?_
              rintro e w8 ⟨rfl, b8⟩
              have HB8 := Lib.hid (HB7.out.trans (b8.mono HB7.out.size))
              have Xx_8 := Lib.hid (KA.carry Xx_7.out b8)
              have Xy_8 := Lib.hid (KA.carry Xy_7.out b8)
              have Bl_8 := Lib.hid (KB.carry Bl_7.out b8)
              have ZI_8 := Lib.hid (TabI.below ZI_7.out b8)
              have Zx_8 := Lib.hid (AtX.later Zx_7.out b8)
              have Zy_8 := Lib.hid (AtX.later Zy_7.out b8)
              have Zn_8 := Lib.hid (KS.carry Zn_7.out b8)
              clear b8 HC8
              go_wp2
              go_ret
              exact ⟨rfl, HB8.out⟩
          · obtain ⟨q1, q2⟩ := ine hy
            have hC8 := awake_any w7 ZI_7.out
            have HC8 := Lib.hid hC8
            clear hC8
            go_wp2_with fail
            refine HC8.out.mono ?_
            rintro e w8 ⟨rfl, b8⟩
            have HB8 := Lib.hid (HB7.out.trans (b8.mono HB7.out.size))
            have Xx_8 := Lib.hid (KA.carry Xx_7.out b8)
            have Xy_8 := Lib.hid (KA.carry Xy_7.out b8)
            have Bl_8 := Lib.hid (KB.carry Bl_7.out b8)
            have ZI_8 := Lib.hid (TabI.below ZI_7.out b8)
            have Zx_8 := Lib.hid (AtX.later Zx_7.out b8)
            have Zy_8 := Lib.hid (AtX.later Zy_7.out b8)
            have Zn_8 := Lib.hid (KS.carry Zn_7.out b8)
            clear b8 HC8
            go_wp2
            go_ret
            exact ⟨rfl, HB8.out⟩

end Go.Proofs.YtfgaihajopfmfaaGreatDoor
