/-
  The walk of LexerNormal.
-/
import Derived.Test.YtdgphhdkeikbaaaGreatDoorLxAwake
import Derived.Test.YtdgphhdkeikbaaaGreatDoorLxRtZ
import Derived.Test.YtdgphhdkeikbaaaGreatDoorLxZero
namespace Go.Proofs.YtdgphhdkeikbaaaGreatDoor
set_option linter.unusedSimpArgs false
set_option linter.unusedVariables false
open Go.RowKit

theorem equ_self {e : Ex} (h : ckE e = 0) : equE e e = true := by
  unfold equE
  rw [h, (eqE_iff e e).2 rfl]
  rfl
theorem psF_bad {s : ByteArray} {e : Ex} {i : Nat} {q : Int} (h : psF s = (e, i, q)) (hq : q ≠ 0) : e = zeroX := by
  unfold psF at h
  repeat' split at h
  all_goals first
    | (injection h with h _; exact h.symm)
    | (injection h with _ h; injection h with _ h; exact absurd h.symm hq)
theorem zeroX_fit : fitE zeroX := ⟨emp_sz, trivial⟩
theorem zeroX_sam : samB zeroX zeroX = true := by decide
set_option maxRecDepth 100000 in
set_option maxHeartbeats 16000000 in
theorem lexerNormal_walk (s : ByteArray) (w : World) (hV : LxV w) (hT : TabJ w) :
    Calls Tryz.prog 5 #[.string s] w fun e w' => e = .returned (.bool true) ∧ Below w.heap.size w w' := by
  have HB0 : Hid (Below w.heap.size w w) := Lib.hid (Below.refl _ w)
  have ZV_0 := Lib.hid hV
  have ZT_0 := Lib.hid hT
  clear hV hT
  by_cases h : 400 < s.size
  · have h1 : (400 : Int) < (s.size : Int) := by omega
    clear h
    go_enter Tryz.func5, Tryz.ntmps5
    have hC1 := awake_any w ZV_0.out ZT_0.out
    have HC1 := Lib.hid hC1
    clear hC1
    go_wp2_with fail
    refine HC1.out.mono ?_
    rintro e w1 ⟨rfl, b1⟩
    have HB1 := Lib.hid (HB0.out.trans (b1.mono HB0.out.size))
    have ZV_1 := Lib.hid (LxV.carry ZV_0.out b1)
    have ZT_1 := Lib.hid (TabJ.below ZT_0.out b1)
    clear b1 HC1
    go_wp2
    go_ret
    exact ⟨rfl, HB1.out⟩
  · have h1 : ¬ (400 : Int) < (s.size : Int) := by omega
    have hs : s.size ≤ 9223372036854775807 := by omega
    have hs4 : s.size ≤ 400 := by omega
    obtain ⟨e, i, q, hp⟩ : ∃ e i q, psF s = (e, i, q) := ⟨_, _, _, rfl⟩
    by_cases hq : q = 0
    · subst hq
      obtain ⟨hck, hsh, _⟩ := par_wrap hs4 hp
      have heq := equ_self hck
      have hfit := hsh.fit
      have hpp := print_parse hck hsh (print_size hck hsh)
      have hz2 : (txF e).size ≤ 9223372036854775807 := by have := print_size hck hsh; omega
      have HP := Lib.hid hp
      have HPP := Lib.hid hpp
      have HEQ := Lib.hid heq
      have HCK := Lib.hid hck
      obtain ⟨T, hT⟩ : ∃ T, txF e = T := ⟨_, rfl⟩
      rw [hT] at HPP hz2
      have HTX := Lib.hid hT
      clear h hck hsh hp hpp heq hs4 hT
      go_enter Tryz.func5, Tryz.ntmps5
      have hC1 := parA s e i 0 w hs ZV_0.out ZT_0.out HP.out
      have HC1 := Lib.hid hC1
      clear hC1
      go_wp2_with fail
      refine HC1.out.mono ?_
      rintro e w1 ⟨aa, ma, ca, rfl, ka, b1⟩
      have HB1 := Lib.hid (HB0.out.trans (b1.mono HB0.out.size))
      have ZV_1 := Lib.hid (LxV.carry ZV_0.out b1)
      have ZT_1 := Lib.hid (TabJ.below ZT_0.out b1)
      have Xa_1 := Lib.hid (ka)
      clear b1 HC1 ka
      try simp only [exV]
      obtain ⟨W2, hW2⟩ : ∃ W, w1.alloc (.cells #[.int .i64 0, .int .i64 0, .string ⟨#[]⟩, .int .i64 0, .slice none 0 0] TX (0, 0)) = W := ⟨_, rfl⟩
      obtain ⟨g1, b2, g3⟩ := varX w1 e (.slice aa ma ca) W2 hW2
      have HG2 := Lib.hid g1
      have HW2 := Lib.hid hW2
      obtain ⟨w2, hw2⟩ : ∃ X, W2.setRow w1.heap.size #[.int .i64 e.k, .int .i64 e.o, .string e.s, .int .i64 e.v, .slice aa ma ca] = X := ⟨_, rfl⟩
      rw [hw2] at b2 g3
      have HB2 := Lib.hid (HB1.out.trans (b2.mono HB1.out.size))
      have Xa_2 := Lib.hid (KA.carry Xa_1.out b2)
      have ZV_2 := Lib.hid (LxV.carry ZV_1.out b2)
      have ZT_2 := Lib.hid (TabJ.below ZT_1.out b2)
      have Za_2 := Lib.hid g3
      have HV2 := Lib.hid hw2
      clear hW2 g1 g3 hw2 b2
      obtain ⟨qa0, qa1, qa2, qa3, qa4⟩ := Za_2.out
      simp only [Nat.zero_add] at qa1 qa2 qa3 qa4
      try simp only [exV]
      go_wp2_with (rw [HW2.out]; refine wpList_store_row rfl TX (.tmp 3) (.tmp 18) rfl w1.heap.size #[.int .i64 e.k, .int .i64 e.o, .string e.s, .int .i64 e.v, .slice aa ma ca] rfl rfl _ _ HG2.out (by kernel_rfl) rfl (by simp [Value.oneCell']) ?_; rw [HV2.out])
      have hC3 := Print_any e (.slice aa ma ca) w2 Xa_2.out ZT_2.out hfit (fun x h hp => txE_short x h hp)
      rw [HTX.out, HCK.out] at hC3
      simp only [exV] at hC3
      have HC3 := Lib.hid hC3
      clear hC3
      refine HC3.out.mono ?_
      rintro e w3 ⟨rfl, b3⟩
      have HB3 := Lib.hid (HB2.out.trans (b3.mono HB2.out.size))
      have Xa_3 := Lib.hid (KA.carry Xa_2.out b3)
      have ZV_3 := Lib.hid (LxV.carry ZV_2.out b3)
      have ZT_3 := Lib.hid (TabJ.below ZT_2.out b3)
      have Za_3 := Lib.hid (AtX.later Za_2.out b3)
      clear b3 HC3 qa0 qa1 qa2 qa3 qa4
      have hC4 := parA T e 0 0 w3 hz2 ZV_3.out ZT_3.out HPP.out
      have HC4 := Lib.hid hC4
      clear hC4
      go_wp2_with fail
      refine HC4.out.mono ?_
      rintro e w4 ⟨ab, mb, cb, rfl, kb, b4⟩
      have HB4 := Lib.hid (HB3.out.trans (b4.mono HB3.out.size))
      have Xa_4 := Lib.hid (KA.carry Xa_3.out b4)
      have ZV_4 := Lib.hid (LxV.carry ZV_3.out b4)
      have ZT_4 := Lib.hid (TabJ.below ZT_3.out b4)
      have Za_4 := Lib.hid (AtX.later Za_3.out b4)
      have Xb_4 := Lib.hid (kb)
      clear b4 HC4 kb
      try simp only [exV]
      obtain ⟨W5, hW5⟩ : ∃ W, w4.alloc (.cells #[.int .i64 0, .int .i64 0, .string ⟨#[]⟩, .int .i64 0, .slice none 0 0] TX (0, 0)) = W := ⟨_, rfl⟩
      obtain ⟨g1, b5, g3⟩ := varX w4 e (.slice ab mb cb) W5 hW5
      have HG5 := Lib.hid g1
      have HW5 := Lib.hid hW5
      obtain ⟨w5, hw5⟩ : ∃ X, W5.setRow w4.heap.size #[.int .i64 e.k, .int .i64 e.o, .string e.s, .int .i64 e.v, .slice ab mb cb] = X := ⟨_, rfl⟩
      rw [hw5] at b5 g3
      have HB5 := Lib.hid (HB4.out.trans (b5.mono HB4.out.size))
      have Xa_5 := Lib.hid (KA.carry Xa_4.out b5)
      have Xb_5 := Lib.hid (KA.carry Xb_4.out b5)
      have ZV_5 := Lib.hid (LxV.carry ZV_4.out b5)
      have ZT_5 := Lib.hid (TabJ.below ZT_4.out b5)
      have Za_5 := Lib.hid (AtX.later Za_4.out b5)
      have Zb_5 := Lib.hid g3
      have HV5 := Lib.hid hw5
      clear hW5 g1 g3 hw5 b5
      obtain ⟨qa0, qa1, qa2, qa3, qa4⟩ := Za_5.out
      simp only [Nat.zero_add] at qa1 qa2 qa3 qa4
      obtain ⟨qb0, qb1, qb2, qb3, qb4⟩ := Zb_5.out
      simp only [Nat.zero_add] at qb1 qb2 qb3 qb4
      try simp only [exV]
      go_wp2_with (rw [HW5.out]; refine wpList_store_row rfl TX (.tmp 8) (.tmp 37) rfl w4.heap.size #[.int .i64 e.k, .int .i64 e.o, .string e.s, .int .i64 e.v, .slice ab mb cb] rfl rfl _ _ HG5.out (by kernel_rfl) rfl (by simp [Value.oneCell']) ?_; rw [HV5.out])
      have hC6 := rEqual_any e e (.slice aa ma ca) (.slice ab mb cb) w5 Xa_5.out Xb_5.out hfit hfit
      rw [HEQ.out] at hC6
      simp only [exV] at hC6
      have HC6 := Lib.hid hC6
      clear hC6
      refine HC6.out.mono ?_
      rintro e w6 ⟨rfl, b6⟩
      have HB6 := Lib.hid (HB5.out.trans (b6.mono HB5.out.size))
      have Xa_6 := Lib.hid (KA.carry Xa_5.out b6)
      have Xb_6 := Lib.hid (KA.carry Xb_5.out b6)
      have ZV_6 := Lib.hid (LxV.carry ZV_5.out b6)
      have ZT_6 := Lib.hid (TabJ.below ZT_5.out b6)
      have Za_6 := Lib.hid (AtX.later Za_5.out b6)
      have Zb_6 := Lib.hid (AtX.later Zb_5.out b6)
      clear b6 HC6 qa0 qa1 qa2 qa3 qa4 qb0 qb1 qb2 qb3 qb4
      have hC7 := awake_any w6 ZV_6.out ZT_6.out
      have HC7 := Lib.hid hC7
      clear hC7
      go_wp2_with fail
      refine HC7.out.mono ?_
      rintro e w7 ⟨rfl, b7⟩
      have HB7 := Lib.hid (HB6.out.trans (b7.mono HB6.out.size))
      have Xa_7 := Lib.hid (KA.carry Xa_6.out b7)
      have Xb_7 := Lib.hid (KA.carry Xb_6.out b7)
      have ZV_7 := Lib.hid (LxV.carry ZV_6.out b7)
      have ZT_7 := Lib.hid (TabJ.below ZT_6.out b7)
      have Za_7 := Lib.hid (AtX.later Za_6.out b7)
      have Zb_7 := Lib.hid (AtX.later Zb_6.out b7)
      clear b7 HC7
      go_wp2
      go_ret
      exact ⟨rfl, HB7.out⟩
    · have k1 : (q != 0) = true := by simpa using hq
      obtain rfl := psF_bad hp hq
      have HP := Lib.hid hp
      clear h hp hs4 hq
      go_enter Tryz.func5, Tryz.ntmps5
      have hC1 := parA s zeroX i q w hs ZV_0.out ZT_0.out HP.out
      have HC1 := Lib.hid hC1
      clear hC1
      go_wp2_with fail
      refine HC1.out.mono ?_
      rintro e w1 ⟨aa, ma, ca, rfl, ka, b1⟩
      have HB1 := Lib.hid (HB0.out.trans (b1.mono HB0.out.size))
      have ZV_1 := Lib.hid (LxV.carry ZV_0.out b1)
      have ZT_1 := Lib.hid (TabJ.below ZT_0.out b1)
      have Xa_1 := Lib.hid (ka)
      clear b1 HC1 ka
      try simp only [exV]
      obtain ⟨W2, hW2⟩ : ∃ W, w1.alloc (.cells #[.int .i64 0, .int .i64 0, .string ⟨#[]⟩, .int .i64 0, .slice none 0 0] TX (0, 0)) = W := ⟨_, rfl⟩
      obtain ⟨g1, b2, g3⟩ := varX w1 zeroX (.slice aa ma ca) W2 hW2
      have HG2 := Lib.hid g1
      have HW2 := Lib.hid hW2
      obtain ⟨w2, hw2⟩ : ∃ X, W2.setRow w1.heap.size #[.int .i64 zeroX.k, .int .i64 zeroX.o, .string zeroX.s, .int .i64 zeroX.v, .slice aa ma ca] = X := ⟨_, rfl⟩
      rw [hw2] at b2 g3
      have HB2 := Lib.hid (HB1.out.trans (b2.mono HB1.out.size))
      have Xa_2 := Lib.hid (KA.carry Xa_1.out b2)
      have ZV_2 := Lib.hid (LxV.carry ZV_1.out b2)
      have ZT_2 := Lib.hid (TabJ.below ZT_1.out b2)
      have Za_2 := Lib.hid g3
      have HV2 := Lib.hid hw2
      clear hW2 g1 g3 hw2 b2
      obtain ⟨qa0, qa1, qa2, qa3, qa4⟩ := Za_2.out
      simp only [Nat.zero_add] at qa1 qa2 qa3 qa4
      try simp only [exV]
      go_wp2_with (rw [HW2.out]; refine wpList_store_row rfl TX (.tmp 3) (.tmp 18) rfl w1.heap.size #[.int .i64 zeroX.k, .int .i64 zeroX.o, .string zeroX.s, .int .i64 zeroX.v, .slice aa ma ca] rfl rfl _ _ HG2.out (by kernel_rfl) rfl (by simp [Value.oneCell']) ?_; rw [HV2.out])
      have hC3 := SameExpr_any zeroX zeroX (.slice aa ma ca) (.slice none 0 0) w2 Xa_2.out (KA.nil0 _ _) zeroX_fit zeroX_fit
      rw [zeroX_sam] at hC3
      simp only [exV] at hC3
      have HC3 := Lib.hid hC3
      clear hC3
      refine HC3.out.mono ?_
      rintro e w3 ⟨rfl, b3⟩
      have HB3 := Lib.hid (HB2.out.trans (b3.mono HB2.out.size))
      have Xa_3 := Lib.hid (KA.carry Xa_2.out b3)
      have ZV_3 := Lib.hid (LxV.carry ZV_2.out b3)
      have ZT_3 := Lib.hid (TabJ.below ZT_2.out b3)
      have Za_3 := Lib.hid (AtX.later Za_2.out b3)
      clear b3 HC3 qa0 qa1 qa2 qa3 qa4
      have hC4 := awake_any w3 ZV_3.out ZT_3.out
      have HC4 := Lib.hid hC4
      clear hC4
      go_wp2_with fail
      refine HC4.out.mono ?_
      rintro e w4 ⟨rfl, b4⟩
      have HB4 := Lib.hid (HB3.out.trans (b4.mono HB3.out.size))
      have Xa_4 := Lib.hid (KA.carry Xa_3.out b4)
      have ZV_4 := Lib.hid (LxV.carry ZV_3.out b4)
      have ZT_4 := Lib.hid (TabJ.below ZT_3.out b4)
      have Za_4 := Lib.hid (AtX.later Za_3.out b4)
      clear b4 HC4
      go_wp2
      go_ret
      exact ⟨rfl, HB4.out⟩

end Go.Proofs.YtdgphhdkeikbaaaGreatDoor
