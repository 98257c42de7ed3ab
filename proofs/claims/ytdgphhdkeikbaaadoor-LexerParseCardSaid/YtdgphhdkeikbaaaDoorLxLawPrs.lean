/-
  The walk of LexerParse.
-/
import Derived.Test.YtdgphhdkeikbaaaDoorLxRef11
namespace Go.Proofs.YtdgphhdkeikbaaaDoor
set_option linter.unusedSimpArgs false
set_option linter.unusedVariables false
open Go.RowKit

set_option maxRecDepth 100000 in
set_option maxHeartbeats 16000000 in
theorem lexerParse_walk (s : ByteArray) (w : World) (hV : LxV w) (hT : TabJ w) :
    Calls Tryd.prog 4 #[.string s] w fun e w' => e = .returned (.bool true) ∧ Below w.heap.size w w' := by
  have HB0 : Hid (Below w.heap.size w w) := Lib.hid (Below.refl _ w)
  have ZV_0 := Lib.hid hV
  have ZT_0 := Lib.hid hT
  clear hV hT
  by_cases h : 400 < s.size
  · have h1 : (400 : Int) < (s.size : Int) := by omega
    clear h
    go_enter Tryd.func4, Tryd.ntmps4
    have hC1 := awake_any w ZV_0.out ZT_0.out
    have HC1 := Lib.hid hC1
    clear hC1
    go_wp2_with fail
    refine HC1.out.mono ?_
    rintro e w1 ⟨rfl, b1⟩
    have HB1 := Lib.hid (HB0.out.trans (b1.mono HB0.out.size))
    have ZV_1 := Lib.hid (LxV.carry ZV_0.out b1)
    have ZT_1 := Lib.hid (TabJ.below ZT_0.out b1)
    clear b1 HC1
    go_wp2
    go_ret
    exact ⟨rfl, HB1.out⟩
  · have h1 : ¬ (400 : Int) < (s.size : Int) := by omega
    have hs : s.size ≤ 9223372036854775807 := by omega
    obtain ⟨e, i, q, hp⟩ : ∃ e i q, psF s = (e, i, q) := ⟨_, _, _, rfl⟩
    obtain ⟨heq, hfit⟩ := psF_same hp
    have HP := Lib.hid hp
    have HEQ := Lib.hid heq
    clear h hp heq
    go_enter Tryd.func4, Tryd.ntmps4
    have hC1 := parA s e i q w hs ZV_0.out ZT_0.out HP.out
    have HC1 := Lib.hid hC1
    clear hC1
    go_wp2_with fail
    refine HC1.out.mono ?_
    rintro e w1 ⟨aa, ma, ca, rfl, ka, b1⟩
    have HB1 := Lib.hid (HB0.out.trans (b1.mono HB0.out.size))
    have ZV_1 := Lib.hid (LxV.carry ZV_0.out b1)
    have ZT_1 := Lib.hid (TabJ.below ZT_0.out b1)
    have Xa_1 := Lib.hid (ka)
    clear b1 HC1 ka
    try simp only [exV]
    obtain ⟨W2, hW2⟩ : ∃ W, w1.alloc (.cells #[.int .i64 0, .int .i64 0, .string ⟨#[]⟩, .int .i64 0, .slice none 0 0] TX (0, 0)) = W := ⟨_, rfl⟩
    obtain ⟨g1, b2, g3⟩ := varX w1 e (.slice aa ma ca) W2 hW2
    have HG2 := Lib.hid g1
    have HW2 := Lib.hid hW2
    obtain ⟨w2, hw2⟩ : ∃ X, W2.setRow w1.heap.size #[.int .i64 e.k, .int .i64 e.o, .string e.s, .int .i64 e.v, .slice aa ma ca] = X := ⟨_, rfl⟩
    rw [hw2] at b2 g3
    have HB2 := Lib.hid (HB1.out.trans (b2.mono HB1.out.size))
    have Xa_2 := Lib.hid (KA.carry Xa_1.out b2)
    have ZV_2 := Lib.hid (LxV.carry ZV_1.out b2)
    have ZT_2 := Lib.hid (TabJ.below ZT_1.out b2)
    have Za_2 := Lib.hid g3
    have HV2 := Lib.hid hw2
    clear hW2 g1 g3 hw2 b2
    try simp only [exV]
    go_wp2_with (rw [HW2.out]; refine wpList_store_row rfl TX (.tmp 3) (.tmp 16) rfl w1.heap.size #[.int .i64 e.k, .int .i64 e.o, .string e.s, .int .i64 e.v, .slice aa ma ca] rfl rfl _ _ HG2.out (by kernel_rfl) rfl (by simp [Value.oneCell']) ?_; rw [HV2.out])
    have hC3 := rparA s e i q w2 hs HP.out
    have HC3 := Lib.hid hC3
    clear hC3
    refine HC3.out.mono ?_
    rintro e w3 ⟨ab, mb, cb, rfl, kb, b3⟩
    have HB3 := Lib.hid (HB2.out.trans (b3.mono HB2.out.size))
    have Xa_3 := Lib.hid (KA.carry Xa_2.out b3)
    have ZV_3 := Lib.hid (LxV.carry ZV_2.out b3)
    have ZT_3 := Lib.hid (TabJ.below ZT_2.out b3)
    have Za_3 := Lib.hid (AtX.later Za_2.out b3)
    have Xb_3 := Lib.hid (kb)
    clear b3 HC3 kb
    try simp only [exV]
    obtain ⟨W4, hW4⟩ : ∃ W, w3.alloc (.cells #[.int .i64 0, .int .i64 0, .string ⟨#[]⟩, .int .i64 0, .slice none 0 0] TX (0, 0)) = W := ⟨_, rfl⟩
    obtain ⟨g1, b4, g3⟩ := varX w3 e (.slice ab mb cb) W4 hW4
    have HG4 := Lib.hid g1
    have HW4 := Lib.hid hW4
    obtain ⟨w4, hw4⟩ : ∃ X, W4.setRow w3.heap.size #[.int .i64 e.k, .int .i64 e.o, .string e.s, .int .i64 e.v, .slice ab mb cb] = X := ⟨_, rfl⟩
    rw [hw4] at b4 g3
    have HB4 := Lib.hid (HB3.out.trans (b4.mono HB3.out.size))
    have Xa_4 := Lib.hid (KA.carry Xa_3.out b4)
    have Xb_4 := Lib.hid (KA.carry Xb_3.out b4)
    have ZV_4 := Lib.hid (LxV.carry ZV_3.out b4)
    have ZT_4 := Lib.hid (TabJ.below ZT_3.out b4)
    have Za_4 := Lib.hid (AtX.later Za_3.out b4)
    have Zb_4 := Lib.hid g3
    have HV4 := Lib.hid hw4
    clear hW4 g1 g3 hw4 b4
    obtain ⟨qa0, qa1, qa2, qa3, qa4⟩ := Za_4.out
    simp only [Nat.zero_add] at qa1 qa2 qa3 qa4
    obtain ⟨qb0, qb1, qb2, qb3, qb4⟩ := Zb_4.out
    simp only [Nat.zero_add] at qb1 qb2 qb3 qb4
    try simp only [exV]
    go_wp2_with (rw [HW4.out]; refine wpList_store_row rfl TX (.tmp 6) (.tmp 22) rfl w3.heap.size #[.int .i64 e.k, .int .i64 e.o, .string e.s, .int .i64 e.v, .slice ab mb cb] rfl rfl _ _ HG4.out (by kernel_rfl) rfl (by simp [Value.oneCell']) ?_; rw [HV4.out])
    have hC5 := SameExpr_any e e (.slice aa ma ca) (.slice ab mb cb) w4 Xa_4.out Xb_4.out hfit hfit
    rw [HEQ.out] at hC5
    simp only [exV] at hC5
    have HC5 := Lib.hid hC5
    clear hC5
    refine HC5.out.mono ?_
    rintro e w5 ⟨rfl, b5⟩
    have HB5 := Lib.hid (HB4.out.trans (b5.mono HB4.out.size))
    have Xa_5 := Lib.hid (KA.carry Xa_4.out b5)
    have Xb_5 := Lib.hid (KA.carry Xb_4.out b5)
    have ZV_5 := Lib.hid (LxV.carry ZV_4.out b5)
    have ZT_5 := Lib.hid (TabJ.below ZT_4.out b5)
    have Za_5 := Lib.hid (AtX.later Za_4.out b5)
    have Zb_5 := Lib.hid (AtX.later Zb_4.out b5)
    clear b5 HC5 qa0 qa1 qa2 qa3 qa4 qb0 qb1 qb2 qb3 qb4
    have hC6 := awake_any w5 ZV_5.out ZT_5.out
    have HC6 := Lib.hid hC6
    clear hC6
    go_wp2_with fail
    refine HC6.out.mono ?_
    rintro e w6 ⟨rfl, b6⟩
    have HB6 := Lib.hid (HB5.out.trans (b6.mono HB5.out.size))
    have Xa_6 := Lib.hid (KA.carry Xa_5.out b6)
    have Xb_6 := Lib.hid (KA.carry Xb_5.out b6)
    have ZV_6 := Lib.hid (LxV.carry ZV_5.out b6)
    have ZT_6 := Lib.hid (TabJ.below ZT_5.out b6)
    have Za_6 := Lib.hid (AtX.later Za_5.out b6)
    have Zb_6 := Lib.hid (AtX.later Zb_5.out b6)
    clear b6 HC6
    go_wp2
    go_ret
    exact ⟨rfl, HB6.out⟩

end Go.Proofs.YtdgphhdkeikbaaaDoor
