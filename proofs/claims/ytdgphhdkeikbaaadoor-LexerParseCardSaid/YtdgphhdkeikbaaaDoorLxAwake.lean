/-
  What the statements' awake returns: the examples of the chapter.
-/
import Derived.Test.YtdgphhdkeikbaaaDoorLxLit
import Derived.Test.YtdgphhdkeikbaaaDoorLxEq
import Derived.Test.YtdgphhdkeikbaaaDoorLxTokens
import Derived.Test.YtdgphhdkeikbaaaDoorHeldTop
namespace Go.Proofs.YtdgphhdkeikbaaaDoor
set_option linter.unusedSimpArgs false
set_option linter.unusedVariables false
open Go.RowKit

theorem LxV.carry {w w' : World} (h : LxV w) (hb : Below w.heap.size w w') : LxV w' := h.below hb (Nat.le_refl _)
def sA1 : ByteArray := ⟨#[120, 60, 61, 49, 48, 32, 35, 32, 101, 110, 100]⟩
def sA2 : ByteArray := ⟨#[97, 32, 43, 32, 98, 32, 42, 32, 45, 50]⟩
def sA3 : ByteArray := ⟨#[97, 32, 60, 32, 98, 32, 60, 32, 99]⟩
def awL : List Tk := [⟨1, ⟨#[120]⟩, 0, 0⟩, ⟨3, ⟨#[60, 61]⟩, 0, 1⟩, ⟨2, ⟨#[49, 48]⟩, 10, 3⟩, ⟨0, ⟨#[]⟩, 0, 11⟩]
def awU : Ex := .mk 3 1 ⟨#[]⟩ 0 [.mk 1 0 ⟨#[]⟩ 2 []]
def awX : Ex := biX 3 (nmX ⟨#[97]⟩) (biX 5 (nmX ⟨#[98]⟩) awU)
theorem aw_tok : lexT sA1 = (awL, 0, 0) := by decide +kernel
theorem psF_dec {s : ByteArray} {e : Ex} {i : Nat} {q : Int} (h : eqE (psF s).1 e = true ∧ (psF s).2 = (i, q)) : psF s = (e, i, q) := by
  obtain ⟨h1, h2⟩ := h
  have := (eqE_iff _ _).1 h1
  exact Prod.ext this h2
theorem aw_par : psF sA2 = (awX, 0, 0) := psF_dec (by decide +kernel)
theorem aw_bad : psF sA3 = (zeroX, 6, 3) := psF_dec (by decide +kernel)
theorem aw_equ : equE awX awX = true := by decide +kernel
theorem aw_fits : fitE awX ∧ fitE awU := by
  refine ⟨?_, ?_⟩ <;> simp [fitE, fitL, awX, awU, nmX, biX, ByteArray.size]
/-- Tokens, Parse, of known results. -/
theorem tokA (s : ByteArray) (ts : List Tk) (i : Nat) (q : Int) (w : World) (hs : s.size ≤ 9223372036854775807) (hv : LxV w) (h : lexT s = (ts, i, q)) :
    Calls Tryd.prog 17 #[.string s] w fun x w' => ∃ a n c, x = .returned (.tuple #[.slice a n c, .int .i64 (i : Int), .int .i64 q]) ∧ LkC (fun b => w.heap.size ≤ b) w' (.slice a n c) ts ∧ Below w.heap.size w w' := by
  have := Tokens_any s w hs hv
  rw [h] at this
  refine this.mono ?_
  rintro x w' ⟨v, rfl, ⟨a, c, rfl, q⟩, hb⟩
  exact ⟨a, _, c, rfl, ⟨a, c, rfl, q⟩, hb⟩
theorem parA (s : ByteArray) (e : Ex) (i : Nat) (q : Int) (w : World) (hs : s.size ≤ 9223372036854775807) (hv : LxV w) (hT : TabJ w) (h : psF s = (e, i, q)) :
    Calls Tryd.prog 15 #[.string s] w fun x w' => ∃ a m c, x = .returned (.tuple #[exV e (.slice a m c), .int .i64 (i : Int), .int .i64 q]) ∧ KX w' e (.slice a m c) ∧ Below w.heap.size w w' := by
  have := Parse_any s w hs hv hT
  rw [h] at this
  refine this.mono ?_
  rintro x w' ⟨a, m, c, rfl, hk, hb⟩
  exact ⟨a, m, c, rfl, hk.mono (fun _ _ _ => trivial), hb⟩
theorem LkC.any {φ : Nat → Prop} {w : World} {v : Value} {ts : List Tk} (h : LkC φ w v ts) : LkC anyB w v ts := h.keep (Nat.le_refl _) (fun _ _ _ => ⟨trivial, rfl⟩)
/-- Tokens that are made in one block. -/
theorem lk_row (w : World) (ts : List Tk) (cs : Array Value) (h0 : 0 < ts.length) (hc : cs.toList = tkL ts) (hl : ts.length ≤ 9223372036854775807) : LkC anyB (w.alloc (.cells cs TTk)) (.slice (some ⟨w.heap.size, 0, none⟩) ts.length ts.length) ts := by
  have hh := heapNew w (.cells cs TTk)
  have key : ∀ k v, (tkL ts)[k]? = some v → (w.alloc (.cells cs TTk)).cell? ⟨w.heap.size, k, none⟩ = some v := fun k v h => by
    rw [Lib.cell_of_heap hh]
    rw [← hc] at h
    simpa using h
  have hb : w.heap.size < (w.alloc (.cells cs TTk)).heap.size := by simp
  refine ⟨some ⟨w.heap.size, 0, none⟩, ts.length, rfl, Nat.le_refl _, hl, fun j hj => ?_, fun j hj => ?_⟩
  · obtain ⟨g1, g2, g3, g4⟩ := tkL_get ts j hj
    exact ⟨w.heap.size, 0, rfl, trivial, hb, by rw [Nat.zero_add]; exact key _ _ g1, by rw [Nat.zero_add]; exact key _ _ g2, by rw [Nat.zero_add]; exact key _ _ g3, _, by rw [Nat.zero_add]; exact key _ _ g4⟩
  · obtain ⟨g1, g2, g3, g4⟩ := tkL_get ts j hj
    exact ⟨w.heap.size, 0, rfl, trivial, hb, by rw [Nat.zero_add]; exact key _ _ g4⟩

set_option maxRecDepth 100000 in
set_option maxHeartbeats 16000000 in
theorem awake_any (w : World) (hV : LxV w) (hT : TabJ w) : Calls Tryd.prog 11 #[] w fun e w' => e = .returned (.bool true) ∧ Below w.heap.size w w' := by
  have HB0 : Hid (Below w.heap.size w w) := Lib.hid (Below.refl _ w)
  have ZV_0 := Lib.hid hV
  have ZT_0 := Lib.hid hT
  clear hV hT
  go_enter Tryd.func11, Tryd.ntmps11
  have hC1 := tokA sA1 awL 0 0 w (by decide) ZV_0.out aw_tok
  have HC1 := Lib.hid hC1
  clear hC1
  go_wp2_with fail
  refine HC1.out.mono ?_
  rintro e w1 ⟨al, nl, cl, rfl, kl, b1⟩
  have HB1 := Lib.hid (HB0.out.trans (b1.mono HB0.out.size))
  have ZV_1 := Lib.hid (LxV.carry ZV_0.out b1)
  have ZT_1 := Lib.hid (TabJ.below ZT_0.out b1)
  clear b1 HC1
  have Zl_1 := Lib.hid (LkC.any kl)
  clear kl
  have hC2 := parA sA2 awX 0 0 w1 (by decide) ZV_1.out ZT_1.out aw_par
  have HC2 := Lib.hid hC2
  clear hC2
  go_wp2_with fail
  refine HC2.out.mono ?_
  rintro e w2 ⟨ax, mx, cx, rfl, kx, b2⟩
  have HB2 := Lib.hid (HB1.out.trans (b2.mono HB1.out.size))
  have ZV_2 := Lib.hid (LxV.carry ZV_1.out b2)
  have ZT_2 := Lib.hid (TabJ.below ZT_1.out b2)
  have Zl_2 := Lib.hid (LkC.below Zl_1.out b2)
  have Xx_2 := Lib.hid (kx)
  clear b2 HC2 kx
  try simp only [exV]
  obtain ⟨W3, hW3⟩ : ∃ W, w2.alloc (.cells #[.int .i64 0, .int .i64 0, .string ⟨#[]⟩, .int .i64 0, .slice none 0 0] TX (0, 0)) = W := ⟨_, rfl⟩
  obtain ⟨g1, b3, g3⟩ := varX w2 awX (.slice ax mx cx) W3 hW3
  have HG3 := Lib.hid g1
  have HW3 := Lib.hid hW3
  obtain ⟨w3, hw3⟩ : ∃ X, W3.setRow w2.heap.size #[.int .i64 awX.k, .int .i64 awX.o, .string awX.s, .int .i64 awX.v, .slice ax mx cx] = X := ⟨_, rfl⟩
  rw [hw3] at b3 g3
  have HB3 := Lib.hid (HB2.out.trans (b3.mono HB2.out.size))
  have Xx_3 := Lib.hid (KA.carry Xx_2.out b3)
  have ZV_3 := Lib.hid (LxV.carry ZV_2.out b3)
  have ZT_3 := Lib.hid (TabJ.below ZT_2.out b3)
  have Zl_3 := Lib.hid (LkC.below Zl_2.out b3)
  have Zx_3 := Lib.hid g3
  have HV3 := Lib.hid hw3
  clear hW3 g1 g3 hw3 b3
  try simp only [exV]
  go_wp2_with (rw [HW3.out]; refine wpList_store_row rfl TX (.tmp 4) (.tmp 19) rfl w2.heap.size #[.int .i64 awX.k, .int .i64 awX.o, .string awX.s, .int .i64 awX.v, .slice ax mx cx] rfl rfl _ _ HG3.out (by kernel_rfl) rfl (by simp [Value.oneCell']) ?_; rw [HV3.out])
  have hC4 := parA sA3 zeroX 6 3 w3 (by decide) ZV_3.out ZT_3.out aw_bad
  have HC4 := Lib.hid hC4
  clear hC4
  refine HC4.out.mono ?_
  rintro e w4 ⟨az, mz, cz, rfl, kz, b4⟩
  have HB4 := Lib.hid (HB3.out.trans (b4.mono HB3.out.size))
  have Xx_4 := Lib.hid (KA.carry Xx_3.out b4)
  have ZV_4 := Lib.hid (LxV.carry ZV_3.out b4)
  have ZT_4 := Lib.hid (TabJ.below ZT_3.out b4)
  have Zl_4 := Lib.hid (LkC.below Zl_3.out b4)
  have Zx_4 := Lib.hid (AtX.later Zx_3.out b4)
  clear b4 HC4 kz
  try simp only [exV]
  obtain ⟨W5, hW5⟩ : ∃ W, w4.alloc (.cells #[.int .i64 0, .int .i64 0, .string ⟨#[]⟩, .int .i64 0, .slice none 0 0] TX (0, 0)) = W := ⟨_, rfl⟩
  obtain ⟨g1, b5, g3⟩ := varX w4 zeroX (.slice az mz cz) W5 hW5
  have HG5 := Lib.hid g1
  have HW5 := Lib.hid hW5
  obtain ⟨w5, hw5⟩ : ∃ X, W5.setRow w4.heap.size #[.int .i64 zeroX.k, .int .i64 zeroX.o, .string zeroX.s, .int .i64 zeroX.v, .slice az mz cz] = X := ⟨_, rfl⟩
  rw [hw5] at b5 g3
  have HB5 := Lib.hid (HB4.out.trans (b5.mono HB4.out.size))
  have Xx_5 := Lib.hid (KA.carry Xx_4.out b5)
  have ZV_5 := Lib.hid (LxV.carry ZV_4.out b5)
  have ZT_5 := Lib.hid (TabJ.below ZT_4.out b5)
  have Zl_5 := Lib.hid (LkC.below Zl_4.out b5)
  have Zx_5 := Lib.hid (AtX.later Zx_4.out b5)
  have Zz_5 := Lib.hid g3
  have HV5 := Lib.hid hw5
  clear hW5 g1 g3 hw5 b5
  try simp only [exV]
  go_wp2_with (rw [HW5.out]; refine wpList_store_row rfl TX (.tmp 7) (.tmp 24) rfl w4.heap.size #[.int .i64 zeroX.k, .int .i64 zeroX.o, .string zeroX.s, .int .i64 zeroX.v, .slice az mz cz] rfl rfl _ _ HG5.out (by kernel_rfl) rfl (by simp [Value.oneCell']) ?_; rw [HV5.out])
  obtain ⟨wa, hwa⟩ : ∃ W, w5.alloc (.cells #[.int .i64 1, .int .i64 0, .string ⟨#[]⟩, .int .i64 2, .slice none 0 0] TX) = W := ⟨_, rfl⟩
  obtain ⟨wb, hwb⟩ : ∃ W, wa.alloc (.cells #[.int .i64 3, .int .i64 1, .string ⟨#[]⟩, .int .i64 0, .slice (some ⟨w5.heap.size, 0, none⟩) 1 1] TX) = W := ⟨_, rfl⟩
  obtain ⟨w6, hw6⟩ : ∃ W, wb.alloc (.cells #[.int .i64 1, .string ⟨#[120]⟩, .int .i64 0, .int .i64 0, .int .i64 3, .string ⟨#[60, 61]⟩, .int .i64 0, .int .i64 1, .int .i64 2, .string ⟨#[49, 48]⟩, .int .i64 10, .int .i64 3, .int .i64 0, .string ⟨#[]⟩, .int .i64 0, .int .i64 11] TTk) = W := ⟨_, rfl⟩
  have ba : Below w5.heap.size w5 wa := by rw [← hwa]; exact below_allocW w5 _
  have bb : Below wa.heap.size wa wb := by rw [← hwb]; exact below_allocW wa _
  have bc : Below wb.heap.size wb w6 := by rw [← hw6]; exact below_allocW wb _
  have sa : wa.heap.size = w5.heap.size + 1 := by rw [← hwa]; simp
  have sb : wb.heap.size = w5.heap.size + 1 + 1 := by rw [← hwb]; simp [sa]
  have ku : KX wa awU (.slice (some ⟨w5.heap.size, 0, none⟩) 1 1) := by rw [← hwa]; exact one_known (φ := anyB) (numX 2) _ (World.alloc_heap_new _ _) (KA.nil0 _ _) trivial
  have ka : AtX wb (w5.heap.size + 1) 0 awU (.slice (some ⟨w5.heap.size, 0, none⟩) 1 1) := by rw [← sa, ← hwb]; exact boxX wa awU.k awU.o awU.s awU.v _ awU.es
  have kw : LkC anyB w6 (.slice (some ⟨w5.heap.size + 1 + 1, 0, none⟩) 4 4) awL := by rw [← sb, ← hw6]; exact lk_row _ awL _ (by decide) rfl (by decide)
  have hall : ((w5.alloc (.cells #[.int .i64 1, .int .i64 0, .string ⟨#[]⟩, .int .i64 2, .slice none 0 0] TX)).alloc (.cells #[.int .i64 3, .int .i64 1, .string ⟨#[]⟩, .int .i64 0, .slice (some ⟨w5.heap.size, 0, none⟩) 1 1] TX)).alloc (.cells #[.int .i64 1, .string ⟨#[120]⟩, .int .i64 0, .int .i64 0, .int .i64 3, .string ⟨#[60, 61]⟩, .int .i64 0, .int .i64 1, .int .i64 2, .string ⟨#[49, 48]⟩, .int .i64 10, .int .i64 3, .int .i64 0, .string ⟨#[]⟩, .int .i64 0, .int .i64 11] TTk) = w6 := by rw [hwa, hwb, hw6]
  have b6 : Below w5.heap.size w5 w6 := ba.trans ((bb.mono ba.size).trans (bc.mono (Nat.le_trans ba.size bb.size)))
  have HB6 := Lib.hid (HB5.out.trans (b6.mono HB5.out.size))
  have Xx_6 := Lib.hid (KA.carry Xx_5.out b6)
  have ZV_6 := Lib.hid (LxV.carry ZV_5.out b6)
  have ZT_6 := Lib.hid (TabJ.below ZT_5.out b6)
  have Zl_6 := Lib.hid (LkC.below Zl_5.out b6)
  have Zx_6 := Lib.hid (AtX.later Zx_5.out b6)
  have Zz_6 := Lib.hid (AtX.later Zz_5.out b6)
  have Xu_6 := Lib.hid (KA.carry (KA.carry ku bb) bc)
  have Zu_6 := Lib.hid (ka.later bc)
  have Zw_6 := Lib.hid kw
  have HALL := Lib.hid hall
  clear hwa hwb hw6 b6 ba bb bc sa sb ku ka kw hall
  rw [HALL.out]
  refine wp_region_held (S := fun w' => AtX w' (w2.heap.size) (0) awX (.slice ax mx cx) ∧ AtX w' (w5.heap.size + 1) (0) awU (.slice (some ⟨w5.heap.size, 0, none⟩) 1 1)) (by kernel_rfl) ?_
  change wpAnyH _ _ _ _ _ _ _ _ w6.drew
  obtain ⟨w7, hw7⟩ : ∃ W, w6.drew = W := ⟨_, rfl⟩
  have b7 : Below w6.heap.size w6 w7 := by rw [← hw7]; exact (Below.refl _ _).drew
  have HB7 := Lib.hid (HB6.out.trans (b7.mono HB6.out.size))
  have Xx_7 := Lib.hid (KA.carry Xx_6.out b7)
  have Xu_7 := Lib.hid (KA.carry Xu_6.out b7)
  have ZV_7 := Lib.hid (LxV.carry ZV_6.out b7)
  have ZT_7 := Lib.hid (TabJ.below ZT_6.out b7)
  have Zl_7 := Lib.hid (LkC.below Zl_6.out b7)
  have Zx_7 := Lib.hid (AtX.later Zx_6.out b7)
  have Zz_7 := Lib.hid (AtX.later Zz_6.out b7)
  have Zu_7 := Lib.hid (AtX.later Zu_6.out b7)
  have Zw_7 := Lib.hid (LkC.below Zw_6.out b7)
  rw [hw7]
  have HDR7 := Lib.hid b7
  clear b7 hw7
  refine wpAnyH_read (i := 0) (v := .int .i64 0) rfl (by kernel_rfl) (by kernel_rfl) (by kernel_rfl) (fun _ _ _ h => h) (by rfl) (fun _ _ => rfl) (⟨Zx_7.out, Zu_7.out⟩) ?_
  simp only [Act.put, List.setIfInBounds_toArray, List.set_cons_zero, List.set_cons_succ]
  refine wpAnyH_read (i := 1) (v := .bool true) rfl (by kernel_rfl) (by kernel_rfl) (by kernel_rfl) (fun _ _ _ h => h) (by rfl) (fun _ _ => rfl) (⟨Zx_7.out, Zu_7.out⟩) ?_
  simp only [Act.put, List.setIfInBounds_toArray, List.set_cons_zero, List.set_cons_succ]
  refine wpAnyH_read (i := 2) (v := .bool true) rfl (by kernel_rfl) (by kernel_rfl) (by kernel_rfl) (fun _ _ _ h => h) (by rfl) (fun _ _ => rfl) (⟨Zx_7.out, Zu_7.out⟩) ?_
  simp only [Act.put, List.setIfInBounds_toArray, List.set_cons_zero, List.set_cons_succ]
  refine wpAnyH_read (i := 3) (v := .slice al nl cl) rfl (by kernel_rfl) (by kernel_rfl) (by kernel_rfl) (fun _ _ _ h => h) (by rfl) (fun _ _ => rfl) (⟨Zx_7.out, Zu_7.out⟩) ?_
  simp only [Act.put, List.setIfInBounds_toArray, List.set_cons_zero, List.set_cons_succ]
  refine wpAnyH_read (i := 4) (v := .slice (some ⟨w5.heap.size + 1 + 1, 0, none⟩) 4 4) rfl (by kernel_rfl) (by kernel_rfl) (by kernel_rfl) (fun _ _ _ h => h) (by rfl) (fun _ _ => rfl) (⟨Zx_7.out, Zu_7.out⟩) ?_
  simp only [Act.put, List.setIfInBounds_toArray, List.set_cons_zero, List.set_cons_succ]
  refine wpAnyH_next (i := 5) rfl (by kernel_rfl) ?_
  have hC8 := eqK_at anyB anyB (.slice al nl cl) (.slice (some ⟨w5.heap.size + 1 + 1, 0, none⟩) 4 4) awL awL w7 Zl_7.out Zw_7.out
  rw [decide_eq_true (rfl : awL = awL)] at hC8
  have HC8 := Lib.hid hC8
  clear hC8
  go_wp2_with fail
  refine HC8.out.mono ?_
  rintro e w8 ⟨rfl, b8⟩
  have HB8 := Lib.hid (HB7.out.trans (b8.mono HB7.out.size))
  have Xx_8 := Lib.hid (KA.carry Xx_7.out b8)
  have Xu_8 := Lib.hid (KA.carry Xu_7.out b8)
  have ZV_8 := Lib.hid (LxV.carry ZV_7.out b8)
  have ZT_8 := Lib.hid (TabJ.below ZT_7.out b8)
  have Zl_8 := Lib.hid (LkC.below Zl_7.out b8)
  have Zx_8 := Lib.hid (AtX.later Zx_7.out b8)
  have Zz_8 := Lib.hid (AtX.later Zz_7.out b8)
  have Zu_8 := Lib.hid (AtX.later Zu_7.out b8)
  have Zw_8 := Lib.hid (LkC.below Zw_7.out b8)
  clear b8 HC8
  try simp only [exV]
  go_wp2_with fail
  refine ⟨⟨Zx_8.out, Zu_8.out⟩, ?_⟩
  refine wpAnyH_read (i := 6) (v := .bool true) rfl (by kernel_rfl) (by kernel_rfl) (by kernel_rfl) (fun _ _ _ h => h) (by rfl) (fun _ _ => rfl) (⟨Zx_8.out, Zu_8.out⟩) ?_
  simp only [Act.put, List.setIfInBounds_toArray, List.set_cons_zero, List.set_cons_succ]
  refine wpAnyH_read (i := 7) (v := .bool true) rfl (by kernel_rfl) (by kernel_rfl) (by kernel_rfl) (fun _ _ _ h => h) (by rfl) (fun _ _ => rfl) (⟨Zx_8.out, Zu_8.out⟩) ?_
  simp only [Act.put, List.setIfInBounds_toArray, List.set_cons_zero, List.set_cons_succ]
  refine wpAnyH_read (i := 8) (v := .int .i64 0) rfl (by kernel_rfl) (by kernel_rfl) (by kernel_rfl) (fun _ _ _ h => h) (by rfl) (fun _ _ => rfl) (⟨Zx_8.out, Zu_8.out⟩) ?_
  simp only [Act.put, List.setIfInBounds_toArray, List.set_cons_zero, List.set_cons_succ]
  refine wpAnyH_read (i := 9) (v := .bool true) rfl (by kernel_rfl) (by kernel_rfl) (by kernel_rfl) (fun _ _ _ h => h) (by rfl) (fun _ _ => rfl) (⟨Zx_8.out, Zu_8.out⟩) ?_
  simp only [Act.put, List.setIfInBounds_toArray, List.set_cons_zero, List.set_cons_succ]
  refine wpAnyH_read (i := 10) (v := .bool true) rfl (by kernel_rfl) (by kernel_rfl) (by kernel_rfl) (fun _ _ _ h => h) (by rfl) (fun _ _ => rfl) (⟨Zx_8.out, Zu_8.out⟩) ?_
  simp only [Act.put, List.setIfInBounds_toArray, List.set_cons_zero, List.set_cons_succ]
  refine wpAnyH_read (i := 11) (v := .bool true) rfl (by kernel_rfl) (by kernel_rfl) (by kernel_rfl) (fun _ _ _ h => h) (by rfl) (fun _ _ => rfl) (⟨Zx_8.out, Zu_8.out⟩) ?_
  simp only [Act.put, List.setIfInBounds_toArray, List.set_cons_zero, List.set_cons_succ]
  refine wpAnyH_read (i := 12) (v := .int .i64 0) rfl (by kernel_rfl) (by kernel_rfl) (by kernel_rfl) (fun _ _ _ h => h) (by rfl) (fun _ _ => rfl) (⟨Zx_8.out, Zu_8.out⟩) ?_
  simp only [Act.put, List.setIfInBounds_toArray, List.set_cons_zero, List.set_cons_succ]
  refine wpAnyH_read (i := 13) (v := .bool true) rfl (by kernel_rfl) (by kernel_rfl) (by kernel_rfl) (fun _ _ _ h => h) (by rfl) (fun _ _ => rfl) (⟨Zx_8.out, Zu_8.out⟩) ?_
  simp only [Act.put, List.setIfInBounds_toArray, List.set_cons_zero, List.set_cons_succ]
  refine wpAnyH_read (i := 14) (v := .bool true) rfl (by kernel_rfl) (by kernel_rfl) (by kernel_rfl) (fun _ _ _ h => h) (by rfl) (fun _ _ => rfl) (⟨Zx_8.out, Zu_8.out⟩) ?_
  simp only [Act.put, List.setIfInBounds_toArray, List.set_cons_zero, List.set_cons_succ]
  refine wpAnyH_read (i := 15) (v := .bool true) rfl (by kernel_rfl) (by kernel_rfl) (by kernel_rfl) (fun _ _ _ h => h) (by rfl) (fun _ _ => rfl) (⟨Zx_8.out, Zu_8.out⟩) ?_
  simp only [Act.put, List.setIfInBounds_toArray, List.set_cons_zero, List.set_cons_succ]
  refine wpAnyH_read (i := 16) (v := .agg #[.int .i64 awX.k, .int .i64 awX.o, .string awX.s, .int .i64 awX.v, (.slice ax mx cx)]) rfl (by kernel_rfl) (by kernel_rfl) (by kernel_rfl) (fun _ _ _ h => h) (by rfl) (by rintro V ⟨⟨r00, r01, r02, r03, r04⟩, ⟨r10, r11, r12, r13, r14⟩⟩; simp only [Nat.zero_add] at r01 r02 r03 r04; go_simp) (⟨Zx_8.out, Zu_8.out⟩) ?_
  simp only [Act.put, List.setIfInBounds_toArray, List.set_cons_zero, List.set_cons_succ]
  refine wpAnyH_read (i := 19) (v := .agg #[.int .i64 awU.k, .int .i64 awU.o, .string awU.s, .int .i64 awU.v, (.slice (some ⟨w5.heap.size, 0, none⟩) 1 1)]) rfl (by kernel_rfl) (by kernel_rfl) (by kernel_rfl) (fun _ _ _ h => h) (by rfl) (by rintro V ⟨⟨r00, r01, r02, r03, r04⟩, ⟨r10, r11, r12, r13, r14⟩⟩; simp only [Nat.zero_add] at r11 r12 r13 r14; go_simp) (⟨Zx_8.out, Zu_8.out⟩) ?_
  simp only [Act.put, List.setIfInBounds_toArray, List.set_cons_zero, List.set_cons_succ]
  refine wpAnyH_next (i := 17) rfl (by kernel_rfl) ?_
  have hC9 := name_any ⟨#[97]⟩ w8
  have HC9 := Lib.hid hC9
  clear hC9
  go_wp2_with fail
  refine HC9.out.mono ?_
  rintro e w9 ⟨ap, mp, cp, rfl, kp, b9⟩
  have HB9 := Lib.hid (HB8.out.trans (b9.mono HB8.out.size))
  have Xx_9 := Lib.hid (KA.carry Xx_8.out b9)
  have Xu_9 := Lib.hid (KA.carry Xu_8.out b9)
  have ZV_9 := Lib.hid (LxV.carry ZV_8.out b9)
  have ZT_9 := Lib.hid (TabJ.below ZT_8.out b9)
  have Zl_9 := Lib.hid (LkC.below Zl_8.out b9)
  have Zx_9 := Lib.hid (AtX.later Zx_8.out b9)
  have Zz_9 := Lib.hid (AtX.later Zz_8.out b9)
  have Zu_9 := Lib.hid (AtX.later Zu_8.out b9)
  have Zw_9 := Lib.hid (LkC.below Zw_8.out b9)
  have Xp_9 := Lib.hid (kp)
  clear b9 HC9 kp
  try simp only [exV]
  go_wp2_with fail
  refine ⟨⟨Zx_9.out, Zu_9.out⟩, ?_⟩
  refine wpAnyH_next (i := 18) rfl (by kernel_rfl) ?_
  have hC10 := name_any ⟨#[98]⟩ w9
  have HC10 := Lib.hid hC10
  clear hC10
  go_wp2_with fail
  refine HC10.out.mono ?_
  rintro e w10 ⟨aq, mq, cq, rfl, kq, b10⟩
  have HB10 := Lib.hid (HB9.out.trans (b10.mono HB9.out.size))
  have Xx_10 := Lib.hid (KA.carry Xx_9.out b10)
  have Xu_10 := Lib.hid (KA.carry Xu_9.out b10)
  have Xp_10 := Lib.hid (KA.carry Xp_9.out b10)
  have ZV_10 := Lib.hid (LxV.carry ZV_9.out b10)
  have ZT_10 := Lib.hid (TabJ.below ZT_9.out b10)
  have Zl_10 := Lib.hid (LkC.below Zl_9.out b10)
  have Zx_10 := Lib.hid (AtX.later Zx_9.out b10)
  have Zz_10 := Lib.hid (AtX.later Zz_9.out b10)
  have Zu_10 := Lib.hid (AtX.later Zu_9.out b10)
  have Zw_10 := Lib.hid (LkC.below Zw_9.out b10)
  have Xq_10 := Lib.hid (kq)
  clear b10 HC10 kq
  try simp only [exV]
  go_wp2_with fail
  refine ⟨⟨Zx_10.out, Zu_10.out⟩, ?_⟩
  refine wpAnyH_next (i := 20) rfl (by kernel_rfl) ?_
  have hC11 := binary_any 5 (nmX ⟨#[98]⟩) awU aq mq cq (some ⟨w5.heap.size, 0, none⟩) 1 1 w10 Xq_10.out Xu_10.out
  simp only [exV] at hC11
  have HC11 := Lib.hid hC11
  clear hC11
  go_wp2_with fail
  refine HC11.out.mono ?_
  rintro e w11 ⟨ar, mr, cr, rfl, kr, b11⟩
  have HB11 := Lib.hid (HB10.out.trans (b11.mono HB10.out.size))
  have Xx_11 := Lib.hid (KA.carry Xx_10.out b11)
  have Xu_11 := Lib.hid (KA.carry Xu_10.out b11)
  have Xp_11 := Lib.hid (KA.carry Xp_10.out b11)
  have Xq_11 := Lib.hid (KA.carry Xq_10.out b11)
  have ZV_11 := Lib.hid (LxV.carry ZV_10.out b11)
  have ZT_11 := Lib.hid (TabJ.below ZT_10.out b11)
  have Zl_11 := Lib.hid (LkC.below Zl_10.out b11)
  have Zx_11 := Lib.hid (AtX.later Zx_10.out b11)
  have Zz_11 := Lib.hid (AtX.later Zz_10.out b11)
  have Zu_11 := Lib.hid (AtX.later Zu_10.out b11)
  have Zw_11 := Lib.hid (LkC.below Zw_10.out b11)
  have Xr_11 := Lib.hid (kr)
  clear b11 HC11 kr
  try simp only [exV]
  go_wp2_with fail
  refine ⟨⟨Zx_11.out, Zu_11.out⟩, ?_⟩
  refine wpAnyH_next (i := 21) rfl (by kernel_rfl) ?_
  have hC12 := binary_any 3 (nmX ⟨#[97]⟩) (biX 5 (nmX ⟨#[98]⟩) awU) ap mp cp ar mr cr w11 Xp_11.out Xr_11.out
  simp only [exV] at hC12
  have HC12 := Lib.hid hC12
  clear hC12
  go_wp2_with fail
  refine HC12.out.mono ?_
  rintro e w12 ⟨at_, mt, ct, rfl, kt, b12⟩
  have HB12 := Lib.hid (HB11.out.trans (b12.mono HB11.out.size))
  have Xx_12 := Lib.hid (KA.carry Xx_11.out b12)
  have Xu_12 := Lib.hid (KA.carry Xu_11.out b12)
  have Xp_12 := Lib.hid (KA.carry Xp_11.out b12)
  have Xq_12 := Lib.hid (KA.carry Xq_11.out b12)
  have Xr_12 := Lib.hid (KA.carry Xr_11.out b12)
  have ZV_12 := Lib.hid (LxV.carry ZV_11.out b12)
  have ZT_12 := Lib.hid (TabJ.below ZT_11.out b12)
  have Zl_12 := Lib.hid (LkC.below Zl_11.out b12)
  have Zx_12 := Lib.hid (AtX.later Zx_11.out b12)
  have Zz_12 := Lib.hid (AtX.later Zz_11.out b12)
  have Zu_12 := Lib.hid (AtX.later Zu_11.out b12)
  have Zw_12 := Lib.hid (LkC.below Zw_11.out b12)
  have Xt_12 := Lib.hid (kt)
  clear b12 HC12 kt
  try simp only [exV]
  go_wp2_with fail
  refine ⟨⟨Zx_12.out, Zu_12.out⟩, ?_⟩
  refine wpAnyH_next (i := 22) rfl (by kernel_rfl) ?_
  have hC13 := rEqual_any awX awX (.slice ax mx cx) (.slice at_ mt ct) w12 Xx_12.out Xt_12.out aw_fits.1 aw_fits.1
  rw [aw_equ] at hC13
  simp only [exV] at hC13
  have HC13 := Lib.hid hC13
  clear hC13
  go_wp2_with fail
  refine HC13.out.mono ?_
  rintro e w13 ⟨rfl, b13⟩
  have HB13 := Lib.hid (HB12.out.trans (b13.mono HB12.out.size))
  have Xx_13 := Lib.hid (KA.carry Xx_12.out b13)
  have Xu_13 := Lib.hid (KA.carry Xu_12.out b13)
  have Xp_13 := Lib.hid (KA.carry Xp_12.out b13)
  have Xq_13 := Lib.hid (KA.carry Xq_12.out b13)
  have Xr_13 := Lib.hid (KA.carry Xr_12.out b13)
  have Xt_13 := Lib.hid (KA.carry Xt_12.out b13)
  have ZV_13 := Lib.hid (LxV.carry ZV_12.out b13)
  have ZT_13 := Lib.hid (TabJ.below ZT_12.out b13)
  have Zl_13 := Lib.hid (LkC.below Zl_12.out b13)
  have Zx_13 := Lib.hid (AtX.later Zx_12.out b13)
  have Zz_13 := Lib.hid (AtX.later Zz_12.out b13)
  have Zu_13 := Lib.hid (AtX.later Zu_12.out b13)
  have Zw_13 := Lib.hid (LkC.below Zw_12.out b13)
  clear b13 HC13
  try simp only [exV]
  go_wp2_with fail
  refine ⟨⟨Zx_13.out, Zu_13.out⟩, ?_⟩
  refine wpAnyH_read (i := 23) (v := .bool true) rfl (by kernel_rfl) (by kernel_rfl) (by kernel_rfl) (fun _ _ _ h => h) (by rfl) (fun _ _ => rfl) (⟨Zx_13.out, Zu_13.out⟩) ?_
  simp only [Act.put, List.setIfInBounds_toArray, List.set_cons_zero, List.set_cons_succ]
  refine wpAnyH_read (i := 24) (v := .bool true) rfl (by kernel_rfl) (by kernel_rfl) (by kernel_rfl) (fun _ _ _ h => h) (by rfl) (fun _ _ => rfl) (⟨Zx_13.out, Zu_13.out⟩) ?_
  simp only [Act.put, List.setIfInBounds_toArray, List.set_cons_zero, List.set_cons_succ]
  refine wpAnyH_read (i := 25) (v := .int .i64 3) rfl (by kernel_rfl) (by kernel_rfl) (by kernel_rfl) (fun _ _ _ h => h) (by rfl) (fun _ _ => rfl) (⟨Zx_13.out, Zu_13.out⟩) ?_
  simp only [Act.put, List.setIfInBounds_toArray, List.set_cons_zero, List.set_cons_succ]
  refine wpAnyH_read (i := 26) (v := .bool true) rfl (by kernel_rfl) (by kernel_rfl) (by kernel_rfl) (fun _ _ _ h => h) (by rfl) (fun _ _ => rfl) (⟨Zx_13.out, Zu_13.out⟩) ?_
  simp only [Act.put, List.setIfInBounds_toArray, List.set_cons_zero, List.set_cons_succ]
  refine wpAnyH_read (i := 27) (v := .bool true) rfl (by kernel_rfl) (by kernel_rfl) (by kernel_rfl) (fun _ _ _ h => h) (by rfl) (fun _ _ => rfl) (⟨Zx_13.out, Zu_13.out⟩) ?_
  simp only [Act.put, List.setIfInBounds_toArray, List.set_cons_zero, List.set_cons_succ]
  refine wpAnyH_read (i := 28) (v := .bool true) rfl (by kernel_rfl) (by kernel_rfl) (by kernel_rfl) (fun _ _ _ h => h) (by rfl) (fun _ _ => rfl) (⟨Zx_13.out, Zu_13.out⟩) ?_
  simp only [Act.put, List.setIfInBounds_toArray, List.set_cons_zero, List.set_cons_succ]
  refine wpAnyH_read (i := 29) (v := .int .i64 6) rfl (by kernel_rfl) (by kernel_rfl) (by kernel_rfl) (fun _ _ _ h => h) (by rfl) (fun _ _ => rfl) (⟨Zx_13.out, Zu_13.out⟩) ?_
  simp only [Act.put, List.setIfInBounds_toArray, List.set_cons_zero, List.set_cons_succ]
  refine wpAnyH_read (i := 30) (v := .bool true) rfl (by kernel_rfl) (by kernel_rfl) (by kernel_rfl) (fun _ _ _ h => h) (by rfl) (fun _ _ => rfl) (⟨Zx_13.out, Zu_13.out⟩) ?_
  simp only [Act.put, List.setIfInBounds_toArray, List.set_cons_zero, List.set_cons_succ]
  refine wpAnyH_read (i := 31) (v := .bool true) rfl (by kernel_rfl) (by kernel_rfl) (by kernel_rfl) (fun _ _ _ h => h) (by rfl) (fun _ _ => rfl) (⟨Zx_13.out, Zu_13.out⟩) ?_
  simp only [Act.put, List.setIfInBounds_toArray, List.set_cons_zero, List.set_cons_succ]
  refine wpAnyH_next (i := 32) rfl (by kernel_rfl) ?_
  go_wp2_with fail
  refine ⟨⟨Zx_13.out, Zu_13.out⟩, ?_⟩
  refine wpAnyH_done (by kernel_rfl) ?_ _
  go_wp2
  go_ret
  exact ⟨rfl, HB13.out⟩

end Go.Proofs.YtdgphhdkeikbaaaDoor
