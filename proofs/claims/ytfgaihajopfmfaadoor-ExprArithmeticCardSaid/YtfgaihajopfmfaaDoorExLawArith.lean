/-
  The walk of ExprArithmetic.
-/
import Derived.Test.YtfgaihajopfmfaaDoorExArith
import Derived.Deep.CutRange
import Derived.Laws.EntriesVeiled
import Derived.Laws.Tables
namespace Go.Proofs.YtfgaihajopfmfaaDoor
set_option linter.unusedSimpArgs false
set_option linter.unusedVariables false
open Go.RowKit

/-- What a quotient and a rest are. -/
theorem div_facts {a b : Int} (ha : -1099511627776 ≤ a) (ha2 : a ≤ 1099511627776) (hb : -1099511627776 ≤ b) (hb2 : b ≤ 1099511627776) (h0 : b ≠ 0) (Q R : Int) (hq : a.tdiv b = Q) (hr : a.tmod b = R) :
    Q * b + R = a ∧ (-1099511627776 ≤ Q * b ∧ Q * b ≤ 1099511627776) ∧ R < max b (-b) ∧ min b (-b) < R ∧ (R ≠ 0 → (decide (R < 0) = decide (a < 0))) := by
  have e : Q * b + R = a := by rw [← hq, ← hr, Int.mul_comm]; exact Int.mul_tdiv_add_tmod a b
  have hab : R.natAbs = a.natAbs % b.natAbs := by rw [← hr, Int.natAbs_tmod]
  have hlt : R.natAbs < b.natAbs := by rw [hab]; exact Nat.mod_lt _ (by omega)
  have hle : R.natAbs ≤ a.natAbs := by rw [hab]; exact Nat.mod_le _ _
  have hs : (0 ≤ a → 0 ≤ R) ∧ (a ≤ 0 → R ≤ 0) := by
    rw [← hr]
    refine ⟨fun h => Int.tmod_nonneg b h, fun h => ?_⟩
    have := Int.tmod_nonneg b (show 0 ≤ -a by omega)
    rw [Int.neg_tmod] at this
    omega
  obtain ⟨M, hM⟩ : ∃ M, Q * b = M := ⟨_, rfl⟩
  rw [hM] at e ⊢
  refine ⟨e, ⟨by omega, by omega⟩, by omega, by omega, fun hR => ?_⟩
  by_cases h : a < 0
  · have : R < 0 := by omega
    simp [h, this]
  · have : ¬ R < 0 := by omega
    simp [h, this]
def wantF (a b : Int) (j : Nat) : Bool := if j = 0 then a == b else if j = 1 then a != b else if j = 2 then decide (a < b) else if j = 3 then decide (a ≤ b) else if j = 4 then decide (b < a) else decide (b ≤ a)
theorem want_op (a b : Int) (j : Nat) (h : j < 6) : opW (8 + (j : Int)) a b = (b2i (wantF a b j), 0) := by
  rcases (show j = 0 ∨ j = 1 ∨ j = 2 ∨ j = 3 ∨ j = 4 ∨ j = 5 by omega) with rfl | rfl | rfl | rfl | rfl | rfl
  · simp [opW, wantF]; rfl
  · simp [opW, wantF]; rfl
  · simp [opW, wantF]
  · simp [opW, wantF]
  · simp [opW, wantF]
  · simp [opW, wantF]
abbrev T46 : TypeId := 46
theorem belowT {w0 w w' : World} (h : Below w0.heap.size w0 w) (hb : Below w.heap.size w w') : Below w0.heap.size w0 w' := h.trans (hb.mono h.size)
abbrev fnBit : Value := .func (.func 20) #[] #[]
abbrev fnNot : Value := .func (.func 24) #[] #[]
abbrev fnEval (bl : Nat) : Value := .func (.func 21) #[] #[.pointer (some ⟨bl, 0, none⟩)]

set_option maxRecDepth 100000 in
set_option maxHeartbeats 16000000 in
theorem exprArithmetic_walk (a b : Int) (p q : Bool) (w : World) (hI : TabI w) : Calls Tryd.prog 6 #[.int .i64 a, .int .i64 b, .bool p, .bool q] w fun e w' => e = .returned (.bool true) ∧ Below w.heap.size w w' := by
  have HB0 : Hid (Below w.heap.size w w) := Lib.hid (Below.refl _ w)
  have ZI_0 := Lib.hid hI
  clear hI
  have HEN1 := enters_of (P := Tryd.prog) Tryd.func20 (by kernel_rfl) rfl
  have HEN2 := enters_of (P := Tryd.prog) Tryd.func21 (by kernel_rfl) rfl
  have HEN3 := enters_of (P := Tryd.prog) Tryd.func24 (by kernel_rfl) rfl
  by_cases g1 : a < -1099511627776
  · skip
    go_enter Tryd.func6, Tryd.ntmps6
    have hC1 := awake_any w ZI_0.out
    have HC1 := Lib.hid hC1
    clear hC1
    go_wp2_with fail
    refine HC1.out.mono ?_
    rintro e w1 ⟨rfl, b1⟩
    have HB1 := Lib.hid (HB0.out.trans (b1.mono HB0.out.size))
    have ZI_1 := Lib.hid (TabI.below ZI_0.out b1)
    clear b1 HC1
    go_wp2
    go_ret
    exact ⟨rfl, HB1.out⟩
  by_cases g2 : 1099511627776 < a
  · skip
    go_enter Tryd.func6, Tryd.ntmps6
    have hC1 := awake_any w ZI_0.out
    have HC1 := Lib.hid hC1
    clear hC1
    go_wp2_with fail
    refine HC1.out.mono ?_
    rintro e w1 ⟨rfl, b1⟩
    have HB1 := Lib.hid (HB0.out.trans (b1.mono HB0.out.size))
    have ZI_1 := Lib.hid (TabI.below ZI_0.out b1)
    clear b1 HC1
    go_wp2
    go_ret
    exact ⟨rfl, HB1.out⟩
  by_cases g3 : b < -1099511627776
  · skip
    go_enter Tryd.func6, Tryd.ntmps6
    have hC1 := awake_any w ZI_0.out
    have HC1 := Lib.hid hC1
    clear hC1
    go_wp2_with fail
    refine HC1.out.mono ?_
    rintro e w1 ⟨rfl, b1⟩
    have HB1 := Lib.hid (HB0.out.trans (b1.mono HB0.out.size))
    have ZI_1 := Lib.hid (TabI.below ZI_0.out b1)
    clear b1 HC1
    go_wp2
    go_ret
    exact ⟨rfl, HB1.out⟩
  by_cases g4 : 1099511627776 < b
  · skip
    go_enter Tryd.func6, Tryd.ntmps6
    have hC1 := awake_any w ZI_0.out
    have HC1 := Lib.hid hC1
    clear hC1
    go_wp2_with fail
    refine HC1.out.mono ?_
    rintro e w1 ⟨rfl, b1⟩
    have HB1 := Lib.hid (HB0.out.trans (b1.mono HB0.out.size))
    have ZI_1 := Lib.hid (TabI.below ZI_0.out b1)
    clear b1 HC1
    go_wp2
    go_ret
    exact ⟨rfl, HB1.out⟩
  have HOK := Lib.hid (arB_ok (a := a) (b := b) (p := p) (q := q) (by omega) (by omega) (by omega) (by omega))
  go_enter Tryd.func6, Tryd.ntmps6
  have hC1 := bit_any p w
  have HC1 := Lib.hid hC1
  clear hC1
  go_wp2_with fail
  refine HC1.out.mono ?_
  rintro e w1 ⟨rfl, b1⟩
  have HB1 := Lib.hid (HB0.out.trans (b1.mono HB0.out.size))
  have ZI_1 := Lib.hid (TabI.below ZI_0.out b1)
  clear b1 HC1
  have hC2 := bit_any q w1
  have HC2 := Lib.hid hC2
  clear hC2
  go_wp2_with fail
  refine HC2.out.mono ?_
  rintro e w2 ⟨rfl, b2⟩
  have HB2 := Lib.hid (HB1.out.trans (b2.mono HB1.out.size))
  have ZI_2 := Lib.hid (TabI.below ZI_1.out b2)
  clear b2 HC2
  obtain ⟨w3, hw3⟩ : ∃ W, (w2.alloc (.cells #[.string ⟨#[97]⟩, .int .i64 1, .int .i64 a, .string ⟨#[98]⟩, .int .i64 1, .int .i64 b, .string ⟨#[112]⟩, .int .i64 2, .int .i64 (b2i p), .string ⟨#[113]⟩, .int .i64 2, .int .i64 (b2i q)] TB (0, 0))).alloc (.cells #[.slice (some ⟨w2.heap.size, 0, none⟩) 4 4] TBs (0, 0)) = W := ⟨_, rfl⟩
  obtain ⟨_, t1, b3⟩ := twoBlocks w2 (.cells #[.string ⟨#[97]⟩, .int .i64 1, .int .i64 a, .string ⟨#[98]⟩, .int .i64 1, .int .i64 b, .string ⟨#[112]⟩, .int .i64 2, .int .i64 (b2i p), .string ⟨#[113]⟩, .int .i64 2, .int .i64 (b2i q)] TB (0, 0)) (.cells #[.slice (some ⟨w2.heap.size, 0, none⟩) 4 4] TBs (0, 0))
  have kb : KB (w3) (.slice (some ⟨w2.heap.size, 0, none⟩) 4 4) (arB a b p q) := by rw [← hw3]; exact (kb_four w2 a b p q).carry (below_allocW _ _)
  rw [hw3] at t1 b3
  have c1 : w3.cell? ⟨w2.heap.size + 1, 0, none⟩ = some (.slice (some ⟨w2.heap.size, 0, none⟩) 4 4) := by simp [World.cell?, t1]
  have HB3 := Lib.hid (HB2.out.trans (b3.mono HB2.out.size))
  have ZI_3 := Lib.hid (TabI.below ZI_2.out b3)
  have Zc_3 := Lib.hid c1
  have Bl_3 := Lib.hid kb
  have HW3 := Lib.hid hw3
  have HLB := Lib.hid (arB_fit a b p q)
  clear hw3 b3 t1 c1 kb
  have hC4 := name_any nA w3
  rw [show nA = (⟨#[97]⟩ : ByteArray) from rfl] at hC4
  have HC4 := Lib.hid hC4
  clear hC4
  go_wp2_with fail
  rw [HW3.out]
  refine HC4.out.mono ?_
  rintro e w4 ⟨ax, nx, cx, rfl, kx, b4⟩
  have HB4 := Lib.hid (HB3.out.trans (b4.mono HB3.out.size))
  have Bl_4 := Lib.hid (KB.carry Bl_3.out b4)
  have ZI_4 := Lib.hid (TabI.below ZI_3.out b4)
  have Zc_4 := Lib.hid (cellZ Zc_3.out b4)
  have Xx_4 := Lib.hid (kx)
  clear b4 HC4 kx
  try simp only [exV]
  have hC5 := name_any nB w4
  rw [show nB = (⟨#[98]⟩ : ByteArray) from rfl] at hC5
  have HC5 := Lib.hid hC5
  clear hC5
  go_wp2_with fail
  refine HC5.out.mono ?_
  rintro e w5 ⟨ay, ny, cy, rfl, ky, b5⟩
  have HB5 := Lib.hid (HB4.out.trans (b5.mono HB4.out.size))
  have Xx_5 := Lib.hid (KA.carry Xx_4.out b5)
  have Bl_5 := Lib.hid (KB.carry Bl_4.out b5)
  have ZI_5 := Lib.hid (TabI.below ZI_4.out b5)
  have Zc_5 := Lib.hid (cellZ Zc_4.out b5)
  have Xy_5 := Lib.hid (ky)
  clear b5 HC5 ky
  try simp only [exV]
  obtain ⟨ex, hex⟩ : ∃ e, nmX ⟨#[97]⟩ = e := ⟨_, rfl⟩
  obtain ⟨ey, hey⟩ : ∃ e, nmX ⟨#[98]⟩ = e := ⟨_, rfl⟩
  rw [hex] at Xx_5
  rw [hey] at Xy_5
  rw [hex, hey]
  have HEX := Lib.hid hex
  have HEY := Lib.hid hey
  clear hex hey
  obtain ⟨W6, hW6⟩ : ∃ W, (w5.alloc (.cells #[.int .i64 0, .int .i64 0, .string ⟨#[]⟩, .int .i64 0, .slice none 0 0] TX (0, 0))).alloc (.cells #[.int .i64 0, .int .i64 0, .string ⟨#[]⟩, .int .i64 0, .slice none 0 0] TX (0, 0)) = W := ⟨_, rfl⟩
  obtain ⟨t0, t1, b0⟩ := twoBlocks w5 (.cells #[.int .i64 0, .int .i64 0, .string ⟨#[]⟩, .int .i64 0, .slice none 0 0] TX (0, 0)) (.cells #[.int .i64 0, .int .i64 0, .string ⟨#[]⟩, .int .i64 0, .slice none 0 0] TX (0, 0))
  rw [hW6] at t0 t1 b0
  have t2 := setRow_heap W6 w5.heap.size _ #[.int .i64 ex.k, .int .i64 ex.o, .string ex.s, .int .i64 ex.v, .slice ax nx cx] _ _ t0
  have t3 : (W6.setRow w5.heap.size #[.int .i64 ex.k, .int .i64 ex.o, .string ex.s, .int .i64 ex.v, .slice ax nx cx]).heap[w5.heap.size + 1]? = _ := (setRow_other W6 w5.heap.size (w5.heap.size + 1) #[.int .i64 ex.k, .int .i64 ex.o, .string ex.s, .int .i64 ex.v, .slice ax nx cx] (by omega)).trans t1
  have t4 := setRow_heap (W6.setRow w5.heap.size #[.int .i64 ex.k, .int .i64 ex.o, .string ex.s, .int .i64 ex.v, .slice ax nx cx]) (w5.heap.size + 1) _ #[.int .i64 ey.k, .int .i64 ey.o, .string ey.s, .int .i64 ey.v, .slice ay ny cy] _ _ t3
  have t5 := (setRow_other (W6.setRow w5.heap.size #[.int .i64 ex.k, .int .i64 ex.o, .string ex.s, .int .i64 ex.v, .slice ax nx cx]) (w5.heap.size + 1) w5.heap.size #[.int .i64 ey.k, .int .i64 ey.o, .string ey.s, .int .i64 ey.v, .slice ay ny cy] (by omega)).trans t2
  have b6 := below_setRow (below_setRow b0 (Nat.le_refl _) #[.int .i64 ex.k, .int .i64 ex.o, .string ex.s, .int .i64 ex.v, .slice ax nx cx]) (show w5.heap.size ≤ w5.heap.size + 1 by omega) #[.int .i64 ey.k, .int .i64 ey.o, .string ey.s, .int .i64 ey.v, .slice ay ny cy]
  obtain ⟨w6, hw6⟩ : ∃ W, (W6.setRow w5.heap.size #[.int .i64 ex.k, .int .i64 ex.o, .string ex.s, .int .i64 ex.v, .slice ax nx cx]).setRow (w5.heap.size + 1) #[.int .i64 ey.k, .int .i64 ey.o, .string ey.s, .int .i64 ey.v, .slice ay ny cy] = W := ⟨_, rfl⟩
  rw [hw6] at b6 t4 t5
  have z1 : AtX w6 w5.heap.size 0 ex (.slice ax nx cx) := by refine ⟨?_, ?_, ?_, ?_, ?_⟩ <;> simp [World.cell?, t5]
  have z2 : AtX w6 (w5.heap.size + 1) 0 ey (.slice ay ny cy) := by refine ⟨?_, ?_, ?_, ?_, ?_⟩ <;> simp [World.cell?, t4]
  have HB6 := Lib.hid (HB5.out.trans (b6.mono HB5.out.size))
  have Xx_6 := Lib.hid (KA.carry Xx_5.out b6)
  have Xy_6 := Lib.hid (KA.carry Xy_5.out b6)
  have Bl_6 := Lib.hid (KB.carry Bl_5.out b6)
  have ZI_6 := Lib.hid (TabI.below ZI_5.out b6)
  have Zc_6 := Lib.hid (cellZ Zc_5.out b6)
  have Zx_6 := Lib.hid z1
  have Zy_6 := Lib.hid z2
  have HG0 := Lib.hid t0
  have HG1 := Lib.hid t3
  have HW6 := Lib.hid hW6
  have HV6 := Lib.hid hw6
  clear t0 t1 t2 t3 t4 t5 b0 b6 hW6 hw6 z1 z2
  obtain ⟨qx0, qx1, qx2, qx3, qx4⟩ := Zx_6.out
  simp only [Nat.zero_add] at qx1 qx2 qx3 qx4
  obtain ⟨qy0, qy1, qy2, qy3, qy4⟩ := Zy_6.out
  simp only [Nat.zero_add] at qy1 qy2 qy3 qy4
  go_wp2_with (first | (rw [HW6.out]; refine wpList_store_row rfl TX (.tmp 12) (.tmp 60) rfl w5.heap.size #[.int .i64 ex.k, .int .i64 ex.o, .string ex.s, .int .i64 ex.v, .slice ax nx cx] rfl rfl _ _ HG0.out (by kernel_rfl) rfl (by simp [Value.oneCell']) ?_) | (refine wpList_store_row rfl TX (.tmp 13) (.tmp 61) rfl (w5.heap.size + 1) #[.int .i64 ey.k, .int .i64 ey.o, .string ey.s, .int .i64 ey.v, .slice ay ny cy] rfl rfl _ _ HG1.out (by kernel_rfl) rfl (by simp [Value.oneCell']) ?_; rw [HV6.out]))
  have HBI : Hid (∀ o : Int, 3 ≤ o → o ≤ 13 → vlF (arB a b p q) (biX o ex ey) = opW o a b) := Lib.hid (fun o h1 h2 => by rw [← HEX.out, ← HEY.out]; exact ar_bin HOK.out o h1 h2)
  have HFI : Hid (∀ o : Int, fitE (biX o ex ey)) := Lib.hid (fun o => by rw [← HEX.out, ← HEY.out]; exact ar_fit o)
  obtain ⟨⟨Q, E⟩, hQ⟩ : ∃ r, opW 6 a b = r := ⟨_, rfl⟩
  obtain ⟨⟨R, F⟩, hR⟩ : ∃ r, opW 7 a b = r := ⟨_, rfl⟩
  have HQ := Lib.hid hQ
  have HR := Lib.hid hR
  clear hQ hR
  have hC7 := binary_any 6 ex ey ax nx cx ay ny cy w6 Xx_6.out Xy_6.out
  simp only [exV] at hC7
  have HC7 := Lib.hid hC7
  clear hC7
  refine HC7.out.mono ?_
  rintro e w7 ⟨ad, nd, cd, rfl, kd, b7⟩
  have HB7 := Lib.hid (HB6.out.trans (b7.mono HB6.out.size))
  have Xx_7 := Lib.hid (KA.carry Xx_6.out b7)
  have Xy_7 := Lib.hid (KA.carry Xy_6.out b7)
  have Bl_7 := Lib.hid (KB.carry Bl_6.out b7)
  have ZI_7 := Lib.hid (TabI.below ZI_6.out b7)
  have Zc_7 := Lib.hid (cellZ Zc_6.out b7)
  have Zx_7 := Lib.hid (AtX.later Zx_6.out b7)
  have Zy_7 := Lib.hid (AtX.later Zy_6.out b7)
  have Xd_7 := Lib.hid (kd)
  clear b7 HC7 kd qx0 qx1 qx2 qx3 qx4 qy0 qy1 qy2 qy3 qy4
  try simp only [exV]
  have hC8 := evalC_any (w2.heap.size + 1) (arB a b p q) (some ⟨w2.heap.size, 0, none⟩) 4 4 (biX 6 ex ey) Q E ad nd cd w7 Xd_7.out Zc_7.out Bl_7.out (HFI.out _) HLB.out ((HBI.out _ (by omega) (by omega)).trans HQ.out)
  simp only [exV] at hC8
  have HC8 := Lib.hid hC8
  clear hC8
  go_wp2_with fail
  refine HC8.out.mono ?_
  rintro e w8 ⟨rfl, b8⟩
  have HB8 := Lib.hid (HB7.out.trans (b8.mono HB7.out.size))
  have Xx_8 := Lib.hid (KA.carry Xx_7.out b8)
  have Xy_8 := Lib.hid (KA.carry Xy_7.out b8)
  have Xd_8 := Lib.hid (KA.carry Xd_7.out b8)
  have Bl_8 := Lib.hid (KB.carry Bl_7.out b8)
  have ZI_8 := Lib.hid (TabI.below ZI_7.out b8)
  have Zc_8 := Lib.hid (cellZ Zc_7.out b8)
  have Zx_8 := Lib.hid (AtX.later Zx_7.out b8)
  have Zy_8 := Lib.hid (AtX.later Zy_7.out b8)
  clear b8 HC8
  have hC9 := binary_any 7 ex ey ax nx cx ay ny cy w8 Xx_8.out Xy_8.out
  simp only [exV] at hC9
  have HC9 := Lib.hid hC9
  clear hC9
  obtain ⟨qx0, qx1, qx2, qx3, qx4⟩ := Zx_8.out
  simp only [Nat.zero_add] at qx1 qx2 qx3 qx4
  obtain ⟨qy0, qy1, qy2, qy3, qy4⟩ := Zy_8.out
  simp only [Nat.zero_add] at qy1 qy2 qy3 qy4
  go_wp2_with fail
  refine HC9.out.mono ?_
  rintro e w9 ⟨am, nm, cm, rfl, km, b9⟩
  have HB9 := Lib.hid (HB8.out.trans (b9.mono HB8.out.size))
  have Xx_9 := Lib.hid (KA.carry Xx_8.out b9)
  have Xy_9 := Lib.hid (KA.carry Xy_8.out b9)
  have Bl_9 := Lib.hid (KB.carry Bl_8.out b9)
  have ZI_9 := Lib.hid (TabI.below ZI_8.out b9)
  have Zc_9 := Lib.hid (cellZ Zc_8.out b9)
  have Zx_9 := Lib.hid (AtX.later Zx_8.out b9)
  have Zy_9 := Lib.hid (AtX.later Zy_8.out b9)
  have Xm_9 := Lib.hid (km)
  clear b9 HC9 km qx0 qx1 qx2 qx3 qx4 qy0 qy1 qy2 qy3 qy4
  try simp only [exV]
  have hC10 := evalC_any (w2.heap.size + 1) (arB a b p q) (some ⟨w2.heap.size, 0, none⟩) 4 4 (biX 7 ex ey) R F am nm cm w9 Xm_9.out Zc_9.out Bl_9.out (HFI.out _) HLB.out ((HBI.out _ (by omega) (by omega)).trans HR.out)
  simp only [exV] at hC10
  have HC10 := Lib.hid hC10
  clear hC10
  go_wp2_with fail
  refine HC10.out.mono ?_
  rintro e w10 ⟨rfl, b10⟩
  have HB10 := Lib.hid (HB9.out.trans (b10.mono HB9.out.size))
  have Xx_10 := Lib.hid (KA.carry Xx_9.out b10)
  have Xy_10 := Lib.hid (KA.carry Xy_9.out b10)
  have Xm_10 := Lib.hid (KA.carry Xm_9.out b10)
  have Bl_10 := Lib.hid (KB.carry Bl_9.out b10)
  have ZI_10 := Lib.hid (TabI.below ZI_9.out b10)
  have Zc_10 := Lib.hid (cellZ Zc_9.out b10)
  have Zx_10 := Lib.hid (AtX.later Zx_9.out b10)
  have Zy_10 := Lib.hid (AtX.later Zy_9.out b10)
  clear b10 HC10
  go_upto_if 79 with fail
  go_cut [] from 80 to 127 (fun wx => wx = w10)
  case first =>
    have hQ := HQ.out
    have hR := HR.out
    by_cases hb : b = 0
    · skip
      unfold opW at hQ hR
      simp [hb] at hQ hR
      obtain ⟨_, rfl⟩ := hQ
      obtain ⟨_, rfl⟩ := hR
      obtain ⟨b1, b2⟩ := ieq hb
      go_wp2_with fail
      go_meet
      rfl
    · skip
      unfold opW at hQ hR
      simp [hb] at hQ hR
      obtain ⟨hq, rfl⟩ := hQ
      obtain ⟨hr, rfl⟩ := hR
      obtain ⟨d1, ⟨d2, d3⟩, d4, d5, d6⟩ := div_facts (by omega) (by omega) (by omega) (by omega) hb Q R hq hr
      obtain ⟨b1, b2⟩ := ine hb
      have e1 : IntKind.i64.wrap (Q * b) = Q * b := by rw [IntKind.wrap_i64]; omega
      have e2 : IntKind.i64.wrap (Q * b + R) = Q * b + R := by rw [IntKind.wrap_i64]; omega
      obtain ⟨e3, e4⟩ := ieq d1
      have e5 : IntKind.i64.wrap (-b) = -b := by rw [IntKind.wrap_i64]; omega
      have e6 : decide (max b (-b) ≤ R) = false := by simpa using d4
      have e7 : decide (R ≤ min b (-b)) = false := by simpa using d5
      by_cases hz : R = 0
      · skip
        obtain ⟨r1, r2⟩ := ieq hz
        clear hq hr d6 hb hz d1
        go_wp2_with fail
        all_goals (go_meet; rfl)
      · skip
        obtain ⟨r1, r2⟩ := ine hz
        have r3 := d6 hz
        have r4 : (decide (R < 0) != decide (a < 0)) = false := by rw [r3]; simp
        clear hq hr d6 hb hz d1
        go_wp2_with fail
        all_goals (go_meet; rfl)
  case rest =>
  have hcut := hcut.symm
  subst hcut
  clear HQ HR
  obtain ⟨⟨U, H⟩, hS⟩ : ∃ r, opW 3 a b = r := ⟨_, rfl⟩
  have HS := Lib.hid hS
  clear hS
  have hC11 := binary_any 3 ex ey ax nx cx ay ny cy w10 Xx_10.out Xy_10.out
  simp only [exV] at hC11
  have HC11 := Lib.hid hC11
  clear hC11
  obtain ⟨qx0, qx1, qx2, qx3, qx4⟩ := Zx_10.out
  simp only [Nat.zero_add] at qx1 qx2 qx3 qx4
  obtain ⟨qy0, qy1, qy2, qy3, qy4⟩ := Zy_10.out
  simp only [Nat.zero_add] at qy1 qy2 qy3 qy4
  go_wp2_with fail
  refine HC11.out.mono ?_
  rintro e w11 ⟨ah, nh, ch, rfl, kh, b11⟩
  have HB11 := Lib.hid (HB10.out.trans (b11.mono HB10.out.size))
  have Xx_11 := Lib.hid (KA.carry Xx_10.out b11)
  have Xy_11 := Lib.hid (KA.carry Xy_10.out b11)
  have Bl_11 := Lib.hid (KB.carry Bl_10.out b11)
  have ZI_11 := Lib.hid (TabI.below ZI_10.out b11)
  have Zc_11 := Lib.hid (cellZ Zc_10.out b11)
  have Zx_11 := Lib.hid (AtX.later Zx_10.out b11)
  have Zy_11 := Lib.hid (AtX.later Zy_10.out b11)
  have Xh_11 := Lib.hid (kh)
  clear b11 HC11 kh qx0 qx1 qx2 qx3 qx4 qy0 qy1 qy2 qy3 qy4
  try simp only [exV]
  have hC12 := evalC_any (w2.heap.size + 1) (arB a b p q) (some ⟨w2.heap.size, 0, none⟩) 4 4 (biX 3 ex ey) U H ah nh ch w11 Xh_11.out Zc_11.out Bl_11.out (HFI.out _) HLB.out ((HBI.out _ (by omega) (by omega)).trans HS.out)
  simp only [exV] at hC12
  have HC12 := Lib.hid hC12
  clear hC12
  go_wp2_with fail
  refine HC12.out.mono ?_
  rintro e w12 ⟨rfl, b12⟩
  have HB12 := Lib.hid (HB11.out.trans (b12.mono HB11.out.size))
  have Xx_12 := Lib.hid (KA.carry Xx_11.out b12)
  have Xy_12 := Lib.hid (KA.carry Xy_11.out b12)
  have Xh_12 := Lib.hid (KA.carry Xh_11.out b12)
  have Bl_12 := Lib.hid (KB.carry Bl_11.out b12)
  have ZI_12 := Lib.hid (TabI.below ZI_11.out b12)
  have Zc_12 := Lib.hid (cellZ Zc_11.out b12)
  have Zx_12 := Lib.hid (AtX.later Zx_11.out b12)
  have Zy_12 := Lib.hid (AtX.later Zy_11.out b12)
  clear b12 HC12
  go_upto_region 15 with fail
  go_cut [159] from 136 to 159 (fun s wx => s = .bool false ∧ wx = w12)
  case first =>
    have hS := HS.out
    have e1 : IntKind.i64.wrap (a + b) = a + b := by rw [IntKind.wrap_i64]; omega
    unfold opW bdV at hS
    simp only [if_true] at hS
    by_cases s1 : a + b < -1099511627776
    · skip
      rw [if_pos (.inl s1)] at hS
      injection hS with h1 h2
      subst h1 h2
      have e2 : decide (-1099511627776 ≤ a + b) = false := by simpa using s1
      go_wp2_with fail
      go_meet
      exact ⟨rfl, rfl⟩
    by_cases s2 : 1099511627776 < a + b
    · skip
      rw [if_pos (.inr s2)] at hS
      injection hS with h1 h2
      subst h1 h2
      have e2 : decide (-1099511627776 ≤ a + b) = true := by simpa using s1
      have e3 : decide (a + b ≤ 1099511627776) = false := by simpa using s2
      go_wp2_with fail
      go_meet
      exact ⟨rfl, rfl⟩
    rw [if_neg (by omega)] at hS
    injection hS with h1 h2
    subst h1 h2
    have e2 : decide (-1099511627776 ≤ a + b) = true := by simpa using s1
    have e3 : decide (a + b ≤ 1099511627776) = true := by simpa using s2
    obtain ⟨e4, e5⟩ := ieq (show a + b = a + b from rfl)
    go_wp2_with fail
    go_meet
    exact ⟨rfl, rfl⟩
  case rest =>
  obtain ⟨hc1, hc2⟩ := hcut
  have hc2 := hc2.symm
  subst hc1 hc2
  clear HS
  obtain ⟨w13, hw13⟩ : ∃ W, w12.alloc (.cells #[.int .i64 8, .bool (a == b), .int .i64 9, .bool (a != b), .int .i64 10, .bool (decide (a < b)), .int .i64 11, .bool (decide (a ≤ b)), .int .i64 12, .bool (decide (b < a)), .int .i64 13, .bool (decide (b ≤ a))] T46 (0, 0)) = W := ⟨_, rfl⟩
  have b13 : Below w12.heap.size w12 w13 := by rw [← hw13]; exact below_allocW w12 _
  have hcells : ∀ j, j < 6 → w13.cell? ⟨w12.heap.size, j * 2, none⟩ = some (.int .i64 (8 + (j : Int))) ∧ w13.cell? ⟨w12.heap.size, j * 2 + 1, none⟩ = some (.bool (wantF a b j)) := by
    intro j hj
    rw [← hw13, Lib.cell_of_heap (World.alloc_heap_new w12 _), Lib.cell_of_heap (World.alloc_heap_new w12 _)]
    rcases (show j = 0 ∨ j = 1 ∨ j = 2 ∨ j = 3 ∨ j = 4 ∨ j = 5 by omega) with rfl | rfl | rfl | rfl | rfl | rfl <;> exact ⟨rfl, rfl⟩
  have HB13 := Lib.hid (HB12.out.trans (b13.mono HB12.out.size))
  have Xx_13 := Lib.hid (KA.carry Xx_12.out b13)
  have Xy_13 := Lib.hid (KA.carry Xy_12.out b13)
  have Bl_13 := Lib.hid (KB.carry Bl_12.out b13)
  have ZI_13 := Lib.hid (TabI.below ZI_12.out b13)
  have Zc_13 := Lib.hid (cellZ Zc_12.out b13)
  have Zx_13 := Lib.hid (AtX.later Zx_12.out b13)
  have Zy_13 := Lib.hid (AtX.later Zy_12.out b13)
  have HCE := Lib.hid hcells
  have HGB : Hid (w12.heap.size < w13.heap.size) := Lib.hid (by rw [← hw13]; simp)
  have HW13 := Lib.hid hw13
  clear hw13 b13 hcells
  go_wp2_with fail
  rw [HW13.out]
  go_loopw [186] (fun x wr => ∃ j : Nat, j ≤ 6 ∧ x = .int .i64 j ∧ Hid (Below w13.heap.size w13 wr)) (fun x _ => 6 - (intOf x).toNat)
  case atStart => exact ⟨0, by omega, rfl, Lib.hid (Below.refl _ _)⟩
  case round =>
    obtain ⟨j, hj, rfl, HBr⟩ := hrel
    have HB14 := Lib.hid (HB13.out.trans (HBr.out.mono HB13.out.size))
    have Xx_14 := Lib.hid (KA.carry Xx_13.out HBr.out)
    have Xy_14 := Lib.hid (KA.carry Xy_13.out HBr.out)
    have Bl_14 := Lib.hid (KB.carry Bl_13.out HBr.out)
    have ZI_14 := Lib.hid (TabI.below ZI_13.out HBr.out)
    have Zc_14 := Lib.hid (cellZ Zc_13.out HBr.out)
    have Zx_14 := Lib.hid (AtX.later Zx_13.out HBr.out)
    have Zy_14 := Lib.hid (AtX.later Zy_13.out HBr.out)
    by_cases hlt : j < 6
    · have k1 : (j : Int) < 6 := by omega
      have c0 := (HBr.out.cell (p := ⟨w12.heap.size, j * 2, none⟩) HGB.out).trans (HCE.out j hlt).1
      have c1 := (HBr.out.cell (p := ⟨w12.heap.size, j * 2 + 1, none⟩) HGB.out).trans (HCE.out j hlt).2
      have hwt := want_op a b j hlt
      obtain ⟨wn, hwn⟩ : ∃ v, wantF a b j = v := ⟨_, rfl⟩
      rw [hwn] at c1 hwt
      have HWT := Lib.hid hwt
      clear hwt hwn
      obtain ⟨ix0, ix1, ix2, ix3, ix4⟩ := Zx_14.out
      simp only [Nat.zero_add] at ix1 ix2 ix3 ix4
      have qx0 := Lib.cell?_alloc_some (.cells #[.int .i64 (8 + (j : Int)), .bool wn] T46 (0, 0)) ix0
      have qx1 := Lib.cell?_alloc_some (.cells #[.int .i64 (8 + (j : Int)), .bool wn] T46 (0, 0)) ix1
      have qx2 := Lib.cell?_alloc_some (.cells #[.int .i64 (8 + (j : Int)), .bool wn] T46 (0, 0)) ix2
      have qx3 := Lib.cell?_alloc_some (.cells #[.int .i64 (8 + (j : Int)), .bool wn] T46 (0, 0)) ix3
      have qx4 := Lib.cell?_alloc_some (.cells #[.int .i64 (8 + (j : Int)), .bool wn] T46 (0, 0)) ix4
      obtain ⟨iy0, iy1, iy2, iy3, iy4⟩ := Zy_14.out
      simp only [Nat.zero_add] at iy1 iy2 iy3 iy4
      have qy0 := Lib.cell?_alloc_some (.cells #[.int .i64 (8 + (j : Int)), .bool wn] T46 (0, 0)) iy0
      have qy1 := Lib.cell?_alloc_some (.cells #[.int .i64 (8 + (j : Int)), .bool wn] T46 (0, 0)) iy1
      have qy2 := Lib.cell?_alloc_some (.cells #[.int .i64 (8 + (j : Int)), .bool wn] T46 (0, 0)) iy2
      have qy3 := Lib.cell?_alloc_some (.cells #[.int .i64 (8 + (j : Int)), .bool wn] T46 (0, 0)) iy3
      have qy4 := Lib.cell?_alloc_some (.cells #[.int .i64 (8 + (j : Int)), .bool wn] T46 (0, 0)) iy4
      obtain ⟨w15, hw15⟩ : ∃ W, wr.alloc (.cells #[.int .i64 (8 + (j : Int)), .bool wn] T46 (0, 0)) = W := ⟨_, rfl⟩
      have b15 : Below wr.heap.size wr w15 := by rw [← hw15]; exact below_allocW wr _
      have ck : w15.cell? ⟨wr.heap.size, 1, none⟩ = some (.bool wn) := by rw [← hw15, Lib.cell_of_heap (World.alloc_heap_new wr _)]; rfl
      have HB15 := Lib.hid (HB14.out.trans (b15.mono HB14.out.size))
      have Xx_15 := Lib.hid (KA.carry Xx_14.out b15)
      have Xy_15 := Lib.hid (KA.carry Xy_14.out b15)
      have Bl_15 := Lib.hid (KB.carry Bl_14.out b15)
      have ZI_15 := Lib.hid (TabI.below ZI_14.out b15)
      have Zc_15 := Lib.hid (cellZ Zc_14.out b15)
      have Zx_15 := Lib.hid (AtX.later Zx_14.out b15)
      have Zy_15 := Lib.hid (AtX.later Zy_14.out b15)
      have ZL_15 := Lib.hid (belowT HBr.out b15)
      have Zk_15 := Lib.hid ck
      have HW15 := Lib.hid hw15
      clear hw15 b15 ck
      have hC16 := binary_any (8 + (j : Int)) ex ey ax nx cx ay ny cy w15 Xx_15.out Xy_15.out
      simp only [exV] at hC16
      have HC16 := Lib.hid hC16
      clear hC16
      go_wp2_with fail
      rw [HW15.out]
      refine HC16.out.mono ?_
      rintro e w16 ⟨ai, ni, ci, rfl, ki, b16⟩
      have HB16 := Lib.hid (HB15.out.trans (b16.mono HB15.out.size))
      have Xx_16 := Lib.hid (KA.carry Xx_15.out b16)
      have Xy_16 := Lib.hid (KA.carry Xy_15.out b16)
      have Bl_16 := Lib.hid (KB.carry Bl_15.out b16)
      have ZI_16 := Lib.hid (TabI.below ZI_15.out b16)
      have Zc_16 := Lib.hid (cellZ Zc_15.out b16)
      have Zx_16 := Lib.hid (AtX.later Zx_15.out b16)
      have Zy_16 := Lib.hid (AtX.later Zy_15.out b16)
      have ZL_16 := Lib.hid (belowT ZL_15.out b16)
      have Zk_16 := Lib.hid (cellZ Zk_15.out b16)
      have Xi_16 := Lib.hid (ki)
      clear b16 HC16 ki ix0 qx0 ix1 qx1 ix2 qx2 ix3 qx3 ix4 qx4 iy0 qy0 iy1 qy1 iy2 qy2 iy3 qy3 iy4 qy4 c0 c1
      try simp only [exV]
      have hC17 := evalC_any (w2.heap.size + 1) (arB a b p q) (some ⟨w2.heap.size, 0, none⟩) 4 4 (biX (8 + (j : Int)) ex ey) (b2i wn) 0 ai ni ci w16 Xi_16.out Zc_16.out Bl_16.out (HFI.out _) HLB.out ((HBI.out _ (by omega) (by omega)).trans HWT.out)
      simp only [exV] at hC17
      have HC17 := Lib.hid hC17
      clear hC17
      go_wp2_with fail
      refine HC17.out.mono ?_
      rintro e w17 ⟨rfl, b17⟩
      have HB17 := Lib.hid (HB16.out.trans (b17.mono HB16.out.size))
      have Xx_17 := Lib.hid (KA.carry Xx_16.out b17)
      have Xy_17 := Lib.hid (KA.carry Xy_16.out b17)
      have Xi_17 := Lib.hid (KA.carry Xi_16.out b17)
      have Bl_17 := Lib.hid (KB.carry Bl_16.out b17)
      have ZI_17 := Lib.hid (TabI.below ZI_16.out b17)
      have Zc_17 := Lib.hid (cellZ Zc_16.out b17)
      have Zx_17 := Lib.hid (AtX.later Zx_16.out b17)
      have Zy_17 := Lib.hid (AtX.later Zy_16.out b17)
      have ZL_17 := Lib.hid (belowT ZL_16.out b17)
      have Zk_17 := Lib.hid (cellZ Zk_16.out b17)
      clear b17 HC17
      have qk := Zk_17.out
      have hC18 := bit_any wn w17
      have HC18 := Lib.hid hC18
      clear hC18
      go_wp2_with fail
      refine HC18.out.mono ?_
      rintro e w18 ⟨rfl, b18⟩
      have HB18 := Lib.hid (HB17.out.trans (b18.mono HB17.out.size))
      have Xx_18 := Lib.hid (KA.carry Xx_17.out b18)
      have Xy_18 := Lib.hid (KA.carry Xy_17.out b18)
      have Xi_18 := Lib.hid (KA.carry Xi_17.out b18)
      have Bl_18 := Lib.hid (KB.carry Bl_17.out b18)
      have ZI_18 := Lib.hid (TabI.below ZI_17.out b18)
      have Zc_18 := Lib.hid (cellZ Zc_17.out b18)
      have Zx_18 := Lib.hid (AtX.later Zx_17.out b18)
      have Zy_18 := Lib.hid (AtX.later Zy_17.out b18)
      have ZL_18 := Lib.hid (belowT ZL_17.out b18)
      have Zk_18 := Lib.hid (cellZ Zk_17.out b18)
      clear b18 HC18 qk
      obtain ⟨y1, y2⟩ := ieq (show b2i wn = b2i wn from rfl)
      go_wp2
      go_roundw
      case rel => exact ⟨j + 1, by omega, by go_num, ZL_18⟩
      case measure => simp [intOf]; omega
    · have k1 : ¬ (j : Int) < 6 := by omega
      clear hj hlt
      obtain ⟨hl1, hl2, hl3⟩ := ar_log HOK.out
      obtain ⟨V1, hv1⟩ : ∃ v, b2i (!(p && q)) = v := ⟨_, rfl⟩
      obtain ⟨V2, hv2⟩ : ∃ v, b2i (p || q) = v := ⟨_, rfl⟩
      rw [hv1] at hl1 hl2
      rw [hv2] at hl3
      have Khl1 := Lib.hid hl1
      have Khl2 := Lib.hid hl2
      have Khl3 := Lib.hid hl3
      have Khv1 := Lib.hid hv1
      have Khv2 := Lib.hid hv2
      clear hl1 hl2 hl3 hv1 hv2
      have hC15 := name_any nP wr
      have HC15 := Lib.hid hC15
      clear hC15
      go_wp2_with fail
      refine HC15.out.mono ?_
      rintro e w15 ⟨au, nu, cu, rfl, ku, b15⟩
      have HB15 := Lib.hid (HB14.out.trans (b15.mono HB14.out.size))
      have Bl_15 := Lib.hid (KB.carry Bl_14.out b15)
      have ZI_15 := Lib.hid (TabI.below ZI_14.out b15)
      have Zc_15 := Lib.hid (cellZ Zc_14.out b15)
      have Xu_15 := Lib.hid (ku)
      clear b15 HC15 ku
      try simp only [exV]
      have hC16 := name_any nQ w15
      have HC16 := Lib.hid hC16
      clear hC16
      go_wp2_with fail
      refine HC16.out.mono ?_
      rintro e w16 ⟨av, nv, cv, rfl, kv, b16⟩
      have HB16 := Lib.hid (HB15.out.trans (b16.mono HB15.out.size))
      have Xu_16 := Lib.hid (KA.carry Xu_15.out b16)
      have Bl_16 := Lib.hid (KB.carry Bl_15.out b16)
      have ZI_16 := Lib.hid (TabI.below ZI_15.out b16)
      have Zc_16 := Lib.hid (cellZ Zc_15.out b16)
      have Xv_16 := Lib.hid (kv)
      clear b16 HC16 kv
      try simp only [exV]
      have hC17 := binary_any 14 (nmX nP) (nmX nQ) au nu cu av nv cv w16 Xu_16.out Xv_16.out
      simp only [exV] at hC17
      have HC17 := Lib.hid hC17
      clear hC17
      go_wp2_with fail
      refine HC17.out.mono ?_
      rintro e w17 ⟨ai, ni, ci, rfl, ki, b17⟩
      have HB17 := Lib.hid (HB16.out.trans (b17.mono HB16.out.size))
      have Xu_17 := Lib.hid (KA.carry Xu_16.out b17)
      have Xv_17 := Lib.hid (KA.carry Xv_16.out b17)
      have Bl_17 := Lib.hid (KB.carry Bl_16.out b17)
      have ZI_17 := Lib.hid (TabI.below ZI_16.out b17)
      have Zc_17 := Lib.hid (cellZ Zc_16.out b17)
      have Xi_17 := Lib.hid (ki)
      clear b17 HC17 ki
      try simp only [exV]
      have hC18 := not_any (biX 14 (nmX nP) (nmX nQ)) ai ni ci w17 Xi_17.out
      simp only [exV] at hC18
      have HC18 := Lib.hid hC18
      clear hC18
      go_wp2_with fail
      refine HC18.out.mono ?_
      rintro e w18 ⟨ao, no, co, rfl, ko, b18⟩
      have HB18 := Lib.hid (HB17.out.trans (b18.mono HB17.out.size))
      have Xi_18 := Lib.hid (KA.carry Xi_17.out b18)
      have Bl_18 := Lib.hid (KB.carry Bl_17.out b18)
      have ZI_18 := Lib.hid (TabI.below ZI_17.out b18)
      have Zc_18 := Lib.hid (cellZ Zc_17.out b18)
      have Xo_18 := Lib.hid (ko)
      clear b18 HC18 ko
      try simp only [exV]
      have hC19 := evalC_any (w2.heap.size + 1) (arB a b p q) (some ⟨w2.heap.size, 0, none⟩) 4 4 (unX 2 (biX 14 (nmX nP) (nmX nQ))) V1 0 ao no co w18 Xo_18.out Zc_18.out Bl_18.out ar_fits.1 HLB.out Khl1.out
      simp only [exV] at hC19
      have HC19 := Lib.hid hC19
      clear hC19
      go_wp2_with fail
      refine HC19.out.mono ?_
      rintro e w19 ⟨rfl, b19⟩
      have HB19 := Lib.hid (HB18.out.trans (b19.mono HB18.out.size))
      have Xo_19 := Lib.hid (KA.carry Xo_18.out b19)
      have Bl_19 := Lib.hid (KB.carry Bl_18.out b19)
      have ZI_19 := Lib.hid (TabI.below ZI_18.out b19)
      have Zc_19 := Lib.hid (cellZ Zc_18.out b19)
      clear b19 HC19
      have hC20 := name_any nP w19
      have HC20 := Lib.hid hC20
      clear hC20
      go_wp2_with fail
      refine HC20.out.mono ?_
      rintro e w20 ⟨au, nu, cu, rfl, ku, b20⟩
      have HB20 := Lib.hid (HB19.out.trans (b20.mono HB19.out.size))
      have Bl_20 := Lib.hid (KB.carry Bl_19.out b20)
      have ZI_20 := Lib.hid (TabI.below ZI_19.out b20)
      have Zc_20 := Lib.hid (cellZ Zc_19.out b20)
      have Xu_20 := Lib.hid (ku)
      clear b20 HC20 ku
      try simp only [exV]
      have hC21 := not_any (nmX nP) au nu cu w20 Xu_20.out
      simp only [exV] at hC21
      have HC21 := Lib.hid hC21
      clear hC21
      go_wp2_with fail
      refine HC21.out.mono ?_
      rintro e w21 ⟨ai, ni, ci, rfl, ki, b21⟩
      have HB21 := Lib.hid (HB20.out.trans (b21.mono HB20.out.size))
      have Xu_21 := Lib.hid (KA.carry Xu_20.out b21)
      have Bl_21 := Lib.hid (KB.carry Bl_20.out b21)
      have ZI_21 := Lib.hid (TabI.below ZI_20.out b21)
      have Zc_21 := Lib.hid (cellZ Zc_20.out b21)
      have Xi_21 := Lib.hid (ki)
      clear b21 HC21 ki
      try simp only [exV]
      have hC22 := name_any nQ w21
      have HC22 := Lib.hid hC22
      clear hC22
      go_wp2_with fail
      refine HC22.out.mono ?_
      rintro e w22 ⟨au, nu, cu, rfl, ku, b22⟩
      have HB22 := Lib.hid (HB21.out.trans (b22.mono HB21.out.size))
      have Xi_22 := Lib.hid (KA.carry Xi_21.out b22)
      have Bl_22 := Lib.hid (KB.carry Bl_21.out b22)
      have ZI_22 := Lib.hid (TabI.below ZI_21.out b22)
      have Zc_22 := Lib.hid (cellZ Zc_21.out b22)
      have Xu_22 := Lib.hid (ku)
      clear b22 HC22 ku
      try simp only [exV]
      have hC23 := not_any (nmX nQ) au nu cu w22 Xu_22.out
      simp only [exV] at hC23
      have HC23 := Lib.hid hC23
      clear hC23
      go_wp2_with fail
      refine HC23.out.mono ?_
      rintro e w23 ⟨ao, no, co, rfl, ko, b23⟩
      have HB23 := Lib.hid (HB22.out.trans (b23.mono HB22.out.size))
      have Xi_23 := Lib.hid (KA.carry Xi_22.out b23)
      have Xu_23 := Lib.hid (KA.carry Xu_22.out b23)
      have Bl_23 := Lib.hid (KB.carry Bl_22.out b23)
      have ZI_23 := Lib.hid (TabI.below ZI_22.out b23)
      have Zc_23 := Lib.hid (cellZ Zc_22.out b23)
      have Xo_23 := Lib.hid (ko)
      clear b23 HC23 ko
      try simp only [exV]
      have hC24 := binary_any 15 (unX 2 (nmX nP)) (unX 2 (nmX nQ)) ai ni ci ao no co w23 Xi_23.out Xo_23.out
      simp only [exV] at hC24
      have HC24 := Lib.hid hC24
      clear hC24
      go_wp2_with fail
      refine HC24.out.mono ?_
      rintro e w24 ⟨av, nv, cv, rfl, kv, b24⟩
      have HB24 := Lib.hid (HB23.out.trans (b24.mono HB23.out.size))
      have Xi_24 := Lib.hid (KA.carry Xi_23.out b24)
      have Xo_24 := Lib.hid (KA.carry Xo_23.out b24)
      have Bl_24 := Lib.hid (KB.carry Bl_23.out b24)
      have ZI_24 := Lib.hid (TabI.below ZI_23.out b24)
      have Zc_24 := Lib.hid (cellZ Zc_23.out b24)
      have Xv_24 := Lib.hid (kv)
      clear b24 HC24 kv
      try simp only [exV]
      have hC25 := evalC_any (w2.heap.size + 1) (arB a b p q) (some ⟨w2.heap.size, 0, none⟩) 4 4 (biX 15 (unX 2 (nmX nP)) (unX 2 (nmX nQ))) V1 0 av nv cv w24 Xv_24.out Zc_24.out Bl_24.out ar_fits.2.1 HLB.out Khl2.out
      simp only [exV] at hC25
      have HC25 := Lib.hid hC25
      clear hC25
      go_wp2_with fail
      refine HC25.out.mono ?_
      rintro e w25 ⟨rfl, b25⟩
      have HB25 := Lib.hid (HB24.out.trans (b25.mono HB24.out.size))
      have Xv_25 := Lib.hid (KA.carry Xv_24.out b25)
      have Bl_25 := Lib.hid (KB.carry Bl_24.out b25)
      have ZI_25 := Lib.hid (TabI.below ZI_24.out b25)
      have Zc_25 := Lib.hid (cellZ Zc_24.out b25)
      clear b25 HC25
      have hC26 := name_any nP w25
      have HC26 := Lib.hid hC26
      clear hC26
      go_wp2_with fail
      refine HC26.out.mono ?_
      rintro e w26 ⟨au, nu, cu, rfl, ku, b26⟩
      have HB26 := Lib.hid (HB25.out.trans (b26.mono HB25.out.size))
      have Bl_26 := Lib.hid (KB.carry Bl_25.out b26)
      have ZI_26 := Lib.hid (TabI.below ZI_25.out b26)
      have Zc_26 := Lib.hid (cellZ Zc_25.out b26)
      have Xu_26 := Lib.hid (ku)
      clear b26 HC26 ku
      try simp only [exV]
      have hC27 := name_any nQ w26
      have HC27 := Lib.hid hC27
      clear hC27
      go_wp2_with fail
      refine HC27.out.mono ?_
      rintro e w27 ⟨av, nv, cv, rfl, kv, b27⟩
      have HB27 := Lib.hid (HB26.out.trans (b27.mono HB26.out.size))
      have Xu_27 := Lib.hid (KA.carry Xu_26.out b27)
      have Bl_27 := Lib.hid (KB.carry Bl_26.out b27)
      have ZI_27 := Lib.hid (TabI.below ZI_26.out b27)
      have Zc_27 := Lib.hid (cellZ Zc_26.out b27)
      have Xv_27 := Lib.hid (kv)
      clear b27 HC27 kv
      try simp only [exV]
      have hC28 := binary_any 15 (nmX nP) (nmX nQ) au nu cu av nv cv w27 Xu_27.out Xv_27.out
      simp only [exV] at hC28
      have HC28 := Lib.hid hC28
      clear hC28
      go_wp2_with fail
      refine HC28.out.mono ?_
      rintro e w28 ⟨ai, ni, ci, rfl, ki, b28⟩
      have HB28 := Lib.hid (HB27.out.trans (b28.mono HB27.out.size))
      have Xu_28 := Lib.hid (KA.carry Xu_27.out b28)
      have Xv_28 := Lib.hid (KA.carry Xv_27.out b28)
      have Bl_28 := Lib.hid (KB.carry Bl_27.out b28)
      have ZI_28 := Lib.hid (TabI.below ZI_27.out b28)
      have Zc_28 := Lib.hid (cellZ Zc_27.out b28)
      have Xi_28 := Lib.hid (ki)
      clear b28 HC28 ki
      try simp only [exV]
      have hC29 := evalC_any (w2.heap.size + 1) (arB a b p q) (some ⟨w2.heap.size, 0, none⟩) 4 4 (biX 15 (nmX nP) (nmX nQ)) V2 0 ai ni ci w28 Xi_28.out Zc_28.out Bl_28.out ar_fits.2.2 HLB.out Khl3.out
      simp only [exV] at hC29
      have HC29 := Lib.hid hC29
      clear hC29
      go_wp2_with fail
      refine HC29.out.mono ?_
      rintro e w29 ⟨rfl, b29⟩
      have HB29 := Lib.hid (HB28.out.trans (b29.mono HB28.out.size))
      have Xi_29 := Lib.hid (KA.carry Xi_28.out b29)
      have Bl_29 := Lib.hid (KB.carry Bl_28.out b29)
      have ZI_29 := Lib.hid (TabI.below ZI_28.out b29)
      have Zc_29 := Lib.hid (cellZ Zc_28.out b29)
      clear b29 HC29
      have hv1 := Khv1.out
      have hv2 := Khv2.out
      clear Khl1 Khl2 Khl3 Khv1 Khv2 HBI HFI HCE HOK HLB
      cases p
      · cases q
        · skip
          have e1 : (1 : Int) = V1 := hv1
          have e2 : (0 : Int) = V2 := hv2
          subst e1 e2
          clear hv1 hv2
          have hC30 := bit_any true w29
          rw [show b2i true = 1 from rfl] at hC30
          have HC30 := Lib.hid hC30
          clear hC30
          go_wp2_with fail
          refine HC30.out.mono ?_
          rintro e w30 ⟨rfl, b30⟩
          have HB30 := Lib.hid (HB29.out.trans (b30.mono HB29.out.size))
          have Bl_30 := Lib.hid (KB.carry Bl_29.out b30)
          have ZI_30 := Lib.hid (TabI.below ZI_29.out b30)
          have Zc_30 := Lib.hid (cellZ Zc_29.out b30)
          clear b30 HC30
          have hC31 := bit_any false w30
          rw [show b2i false = 0 from rfl] at hC31
          have HC31 := Lib.hid hC31
          clear hC31
          go_wp2_with fail
          refine HC31.out.mono ?_
          rintro e w31 ⟨rfl, b31⟩
          have HB31 := Lib.hid (HB30.out.trans (b31.mono HB30.out.size))
          have Bl_31 := Lib.hid (KB.carry Bl_30.out b31)
          have ZI_31 := Lib.hid (TabI.below ZI_30.out b31)
          have Zc_31 := Lib.hid (cellZ Zc_30.out b31)
          clear b31 HC31
          have hC32 := awake_any w31 ZI_31.out
          have HC32 := Lib.hid hC32
          clear hC32
          go_wp2_with fail
          refine HC32.out.mono ?_
          rintro e w32 ⟨rfl, b32⟩
          have HB32 := Lib.hid (HB31.out.trans (b32.mono HB31.out.size))
          have Bl_32 := Lib.hid (KB.carry Bl_31.out b32)
          have ZI_32 := Lib.hid (TabI.below ZI_31.out b32)
          have Zc_32 := Lib.hid (cellZ Zc_31.out b32)
          clear b32 HC32
          go_wp2
          go_ret
          exact ⟨rfl, HB32.out⟩
        · skip
          have e1 : (1 : Int) = V1 := hv1
          have e2 : (1 : Int) = V2 := hv2
          subst e1 e2
          clear hv1 hv2
          have hC30 := bit_any true w29
          rw [show b2i true = 1 from rfl] at hC30
          have HC30 := Lib.hid hC30
          clear hC30
          go_wp2_with fail
          refine HC30.out.mono ?_
          rintro e w30 ⟨rfl, b30⟩
          have HB30 := Lib.hid (HB29.out.trans (b30.mono HB29.out.size))
          have Bl_30 := Lib.hid (KB.carry Bl_29.out b30)
          have ZI_30 := Lib.hid (TabI.below ZI_29.out b30)
          have Zc_30 := Lib.hid (cellZ Zc_29.out b30)
          clear b30 HC30
          have hC31 := bit_any true w30
          rw [show b2i true = 1 from rfl] at hC31
          have HC31 := Lib.hid hC31
          clear hC31
          go_wp2_with fail
          refine HC31.out.mono ?_
          rintro e w31 ⟨rfl, b31⟩
          have HB31 := Lib.hid (HB30.out.trans (b31.mono HB30.out.size))
          have Bl_31 := Lib.hid (KB.carry Bl_30.out b31)
          have ZI_31 := Lib.hid (TabI.below ZI_30.out b31)
          have Zc_31 := Lib.hid (cellZ Zc_30.out b31)
          clear b31 HC31
          have hC32 := awake_any w31 ZI_31.out
          have HC32 := Lib.hid hC32
          clear hC32
          go_wp2_with fail
          refine HC32.out.mono ?_
          rintro e w32 ⟨rfl, b32⟩
          have HB32 := Lib.hid (HB31.out.trans (b32.mono HB31.out.size))
          have Bl_32 := Lib.hid (KB.carry Bl_31.out b32)
          have ZI_32 := Lib.hid (TabI.below ZI_31.out b32)
          have Zc_32 := Lib.hid (cellZ Zc_31.out b32)
          clear b32 HC32
          go_wp2
          go_ret
          exact ⟨rfl, HB32.out⟩
      · cases q
        · skip
          have e1 : (1 : Int) = V1 := hv1
          have e2 : (1 : Int) = V2 := hv2
          subst e1 e2
          clear hv1 hv2
          have hC30 := bit_any true w29
          rw [show b2i true = 1 from rfl] at hC30
          have HC30 := Lib.hid hC30
          clear hC30
          go_wp2_with fail
          refine HC30.out.mono ?_
          rintro e w30 ⟨rfl, b30⟩
          have HB30 := Lib.hid (HB29.out.trans (b30.mono HB29.out.size))
          have Bl_30 := Lib.hid (KB.carry Bl_29.out b30)
          have ZI_30 := Lib.hid (TabI.below ZI_29.out b30)
          have Zc_30 := Lib.hid (cellZ Zc_29.out b30)
          clear b30 HC30
          have hC31 := bit_any true w30
          rw [show b2i true = 1 from rfl] at hC31
          have HC31 := Lib.hid hC31
          clear hC31
          go_wp2_with fail
          refine HC31.out.mono ?_
          rintro e w31 ⟨rfl, b31⟩
          have HB31 := Lib.hid (HB30.out.trans (b31.mono HB30.out.size))
          have Bl_31 := Lib.hid (KB.carry Bl_30.out b31)
          have ZI_31 := Lib.hid (TabI.below ZI_30.out b31)
          have Zc_31 := Lib.hid (cellZ Zc_30.out b31)
          clear b31 HC31
          have hC32 := awake_any w31 ZI_31.out
          have HC32 := Lib.hid hC32
          clear hC32
          go_wp2_with fail
          refine HC32.out.mono ?_
          rintro e w32 ⟨rfl, b32⟩
          have HB32 := Lib.hid (HB31.out.trans (b32.mono HB31.out.size))
          have Bl_32 := Lib.hid (KB.carry Bl_31.out b32)
          have ZI_32 := Lib.hid (TabI.below ZI_31.out b32)
          have Zc_32 := Lib.hid (cellZ Zc_31.out b32)
          clear b32 HC32
          go_wp2
          go_ret
          exact ⟨rfl, HB32.out⟩
        · skip
          have e1 : (0 : Int) = V1 := hv1
          have e2 : (1 : Int) = V2 := hv2
          subst e1 e2
          clear hv1 hv2
          have hC30 := bit_any false w29
          rw [show b2i false = 0 from rfl] at hC30
          have HC30 := Lib.hid hC30
          clear hC30
          go_wp2_with fail
          refine HC30.out.mono ?_
          rintro e w30 ⟨rfl, b30⟩
          have HB30 := Lib.hid (HB29.out.trans (b30.mono HB29.out.size))
          have Bl_30 := Lib.hid (KB.carry Bl_29.out b30)
          have ZI_30 := Lib.hid (TabI.below ZI_29.out b30)
          have Zc_30 := Lib.hid (cellZ Zc_29.out b30)
          clear b30 HC30
          have hC31 := bit_any true w30
          rw [show b2i true = 1 from rfl] at hC31
          have HC31 := Lib.hid hC31
          clear hC31
          go_wp2_with fail
          refine HC31.out.mono ?_
          rintro e w31 ⟨rfl, b31⟩
          have HB31 := Lib.hid (HB30.out.trans (b31.mono HB30.out.size))
          have Bl_31 := Lib.hid (KB.carry Bl_30.out b31)
          have ZI_31 := Lib.hid (TabI.below ZI_30.out b31)
          have Zc_31 := Lib.hid (cellZ Zc_30.out b31)
          clear b31 HC31
          have hC32 := awake_any w31 ZI_31.out
          have HC32 := Lib.hid hC32
          clear hC32
          go_wp2_with fail
          refine HC32.out.mono ?_
          rintro e w32 ⟨rfl, b32⟩
          have HB32 := Lib.hid (HB31.out.trans (b32.mono HB31.out.size))
          have Bl_32 := Lib.hid (KB.carry Bl_31.out b32)
          have ZI_32 := Lib.hid (TabI.below ZI_31.out b32)
          have Zc_32 := Lib.hid (cellZ Zc_31.out b32)
          clear b32 HC32
          go_wp2
          go_ret
          exact ⟨rfl, HB32.out⟩

end Go.Proofs.YtfgaihajopfmfaaDoor
