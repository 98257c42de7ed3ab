/-
  What the statements' awake returns: the example of the chapter.
-/
import Derived.Test.YtfgaihajopfmfaaGreatDoorExLit
import Derived.Test.YtfgaihajopfmfaaGreatDoorExDevD
import Derived.Test.YtfgaihajopfmfaaGreatDoorExDevE
import Derived.Test.YtfgaihajopfmfaaGreatDoorExDevC
import Derived.Test.YtfgaihajopfmfaaGreatDoorExRefA
import Derived.Test.YtfgaihajopfmfaaGreatDoorHeldTop
namespace Go.Proofs.YtfgaihajopfmfaaGreatDoor
set_option linter.unusedSimpArgs false
set_option linter.unusedVariables false
open Go.RowKit

def sX : ByteArray := ⟨#[120]⟩
def awT : ByteArray := ⟨#[45, 40, 120, 32, 43, 32, 49, 41, 32, 42, 32, 50]⟩
def awE : Ex := biX 5 (unX 1 (biX 3 (nmX sX) (numX 1))) (numX 2)
def awF : Ex := biX 3 (nmX sX) (biX 3 (numX 2) (numX 3))
def awG : Ex := biX 3 (nmX sX) (numX 5)
def awB : List Bd := [(sX, 1, 4)]
theorem aw_print : txF awE = awT ∧ ckE awE = 0 := by decide +kernel
theorem aw_eval : vlF awB awE = (-10, 0) := by decide +kernel
theorem aw_fold : fldF awF = awG ∧ ckE awF = 0 := by
  have h : eqE (fldF awF) awG = true ∧ ckE awF = 0 := by decide +kernel
  exact ⟨(eqE_iff _ _).1 h.1, h.2⟩
theorem aw_equ : equE awG awG = true := by decide +kernel
theorem aw_list : awT.toList = [45, 40, 120, 32, 43, 32, 49, 41, 32, 42, 32, 50] := by rw [ByteArray.toList_eq]; rfl
theorem aw_fits : fitE awE ∧ fitE awF ∧ fitE awG := by
  refine ⟨?_, ?_, ?_⟩ <;> simp [fitE, fitL, awE, awF, awG, nmX, unX, biX, numX, sX, ByteArray.size]
theorem aw_fitB : fitB awB := by
  intro x hx
  have : x = (sX, 1, 4) := by simpa [awB] using hx
  subst this
  decide
/-- What a fold leaves, known. -/
theorem foldA (e r : Ex) (n : Int) (sl : Value) (w : World) (hK : KX w e sl) (hf : fitE e) (hr : fldF e = r ∧ ckE e = n) : Calls Tryz.prog 20 #[exV e sl] w fun x w' => ∃ a m c, x = .returned (.tuple #[exV r (.slice a m c), .int .i64 n]) ∧ KX w' r (.slice a m c) ∧ Below w.heap.size w w' := by
  refine (Fold_any e sl w hK hf).mono ?_
  rintro x w' ⟨a, c, rfl, hk, hb⟩
  rw [← hr.1, ← hr.2]
  exact ⟨a, _, c, rfl, hk.known, hb⟩
theorem printA (e : Ex) (t : ByteArray) (n : Int) (sl : Value) (w : World) (hK : KX w e sl) (hI : TabI w) (hf : fitE e) (hr : txF e = t ∧ ckE e = n) : Calls Tryz.prog 9 #[exV e sl] w fun x w' => x = .returned (.tuple #[.string t, .int .i64 n]) ∧ Below w.heap.size w w' := by
  rw [← hr.1, ← hr.2]
  exact Print_any e sl w hK hI hf txE_short
theorem evalA (l : List Bd) (vb : Value) (e : Ex) (v n : Int) (sl : Value) (w : World) (hK : KX w e sl) (hB : KB w vb l) (hf : fitE e) (hl : fitB l) (hr : vlF l e = (v, n)) : Calls Tryz.prog 26 #[exV e sl, vb] w fun x w' => x = .returned (.tuple #[.int .i64 v, .int .i64 n]) ∧ Below w.heap.size w w' := by
  have := Eval_any l vb e sl w hK hB hf hl
  rw [hr] at this
  exact this
theorem kb_one (w : World) (s : ByteArray) (t v : Int) : KB (w.alloc (.cells #[.string s, .int .i64 t, .int .i64 v] TB)) (.slice (some ⟨w.heap.size, 0, none⟩) 1 1) [(s, t, v)] := by
  refine ⟨some ⟨w.heap.size, 0, none⟩, 1, rfl, Nat.le_refl _, by decide, fun j hj => ⟨w.heap.size, 0, rfl, by simp, ?_⟩⟩
  obtain rfl : j = 0 := by simpa using hj
  refine ⟨?_, ?_, ?_⟩ <;> rw [Nat.zero_add, Lib.cell_of_heap (World.alloc_heap_new w _)] <;> rfl

set_option maxRecDepth 100000 in
set_option maxHeartbeats 8000000 in
theorem awake_any (w : World) (hI : TabI w) : Calls Tryz.prog 8 #[] w fun e w' => e = .returned (.bool true) ∧ Below w.heap.size w w' := by
  have HB0 : Hid (Below w.heap.size w w) := Lib.hid (Below.refl _ w)
  have ZI_0 := Lib.hid hI
  have HN := Lib.hid (fun W => name_any sX W)
  have HM := Lib.hid (fun n W => number_any n W)
  clear hI
  go_enter Tryz.func8, Tryz.ntmps8
  have hC1 := name_any sX w
  have HC1 := Lib.hid hC1
  clear hC1
  go_wp2_with fail
  refine HC1.out.mono ?_
  rintro e w1 ⟨ax, mx, cx, rfl, kx, b1⟩
  have HB1 := Lib.hid (HB0.out.trans (b1.mono HB0.out.size))
  have ZI_1 := Lib.hid (TabI.below ZI_0.out b1)
  have Xx_1 := Lib.hid (kx)
  clear b1 HC1 kx
  try simp only [exV]
  have hC2 := number_any 1 w1
  have HC2 := Lib.hid hC2
  clear hC2
  go_wp2_with fail
  refine HC2.out.mono ?_
  rintro e w2 ⟨ay, my, cy, rfl, ky, b2⟩
  have HB2 := Lib.hid (HB1.out.trans (b2.mono HB1.out.size))
  have Xx_2 := Lib.hid (KA.carry Xx_1.out b2)
  have ZI_2 := Lib.hid (TabI.below ZI_1.out b2)
  have Xy_2 := Lib.hid (ky)
  clear b2 HC2 ky
  try simp only [exV]
  have hC3 := binary_any 3 (nmX sX) (numX 1) ax mx cx ay my cy w2 Xx_2.out Xy_2.out
  simp only [exV] at hC3
  have HC3 := Lib.hid hC3
  clear hC3
  go_wp2_with fail
  refine HC3.out.mono ?_
  rintro e w3 ⟨ab, mb, cb, rfl, kb, b3⟩
  have HB3 := Lib.hid (HB2.out.trans (b3.mono HB2.out.size))
  have Xx_3 := Lib.hid (KA.carry Xx_2.out b3)
  have Xy_3 := Lib.hid (KA.carry Xy_2.out b3)
  have ZI_3 := Lib.hid (TabI.below ZI_2.out b3)
  have Xb_3 := Lib.hid (kb)
  clear b3 HC3 kb
  try simp only [exV]
  have hC4 := unary_any 1 (biX 3 (nmX sX) (numX 1)) ab mb cb w3 Xb_3.out
  simp only [exV] at hC4
  have HC4 := Lib.hid hC4
  clear hC4
  go_wp2_with fail
  refine HC4.out.mono ?_
  rintro e w4 ⟨au, mu, cu, rfl, ku, b4⟩
  have HB4 := Lib.hid (HB3.out.trans (b4.mono HB3.out.size))
  have Xb_4 := Lib.hid (KA.carry Xb_3.out b4)
  have ZI_4 := Lib.hid (TabI.below ZI_3.out b4)
  have Xu_4 := Lib.hid (ku)
  clear b4 HC4 ku
  try simp only [exV]
  have hC5 := number_any 2 w4
  have HC5 := Lib.hid hC5
  clear hC5
  go_wp2_with fail
  refine HC5.out.mono ?_
  rintro e w5 ⟨az, mz, cz, rfl, kz, b5⟩
  have HB5 := Lib.hid (HB4.out.trans (b5.mono HB4.out.size))
  have Xu_5 := Lib.hid (KA.carry Xu_4.out b5)
  have ZI_5 := Lib.hid (TabI.below ZI_4.out b5)
  have Xz_5 := Lib.hid (kz)
  clear b5 HC5 kz
  try simp only [exV]
  have hC6 := binary_any 5 (unX 1 (biX 3 (nmX sX) (numX 1))) (numX 2) au mu cu az mz cz w5 Xu_5.out Xz_5.out
  simp only [exV] at hC6
  have HC6 := Lib.hid hC6
  clear hC6
  go_wp2_with fail
  refine HC6.out.mono ?_
  rintro e w6 ⟨ae, me, ce, rfl, ke, b6⟩
  have HB6 := Lib.hid (HB5.out.trans (b6.mono HB5.out.size))
  have Xu_6 := Lib.hid (KA.carry Xu_5.out b6)
  have Xz_6 := Lib.hid (KA.carry Xz_5.out b6)
  have ZI_6 := Lib.hid (TabI.below ZI_5.out b6)
  have Xe_6 := Lib.hid (ke)
  clear b6 HC6 ke
  try simp only [exV]

  obtain ⟨W7, hW7⟩ : ∃ W, w6.alloc (.cells #[.int .i64 0, .int .i64 0, .string ⟨#[]⟩, .int .i64 0, .slice none 0 0] TX (0, 0)) = W := ⟨_, rfl⟩
  obtain ⟨g1, b7, g3⟩ := varX w6 awE (.slice ae me ce) W7 hW7
  have HG7 := Lib.hid g1
  have HW7 := Lib.hid hW7
  obtain ⟨w7, hw7⟩ : ∃ X, W7.setRow w6.heap.size #[.int .i64 awE.k, .int .i64 awE.o, .string awE.s, .int .i64 awE.v, .slice ae me ce] = X := ⟨_, rfl⟩
  rw [hw7] at b7 g3
  have HB7 := Lib.hid (HB6.out.trans (b7.mono HB6.out.size))
  have Xe_7 := Lib.hid (KA.carry Xe_6.out b7)
  have ZI_7 := Lib.hid (TabI.below ZI_6.out b7)
  have Ze_7 := Lib.hid g3
  have HV7 := Lib.hid hw7
  clear hW7 g1 g3 hw7 b7
  obtain ⟨qe0, qe1, qe2, qe3, qe4⟩ := Ze_7.out
  simp only [Nat.zero_add] at qe1 qe2 qe3 qe4
  try simp only [exV]
  go_wp2_with (rw [HW7.out]; refine wpList_store_row rfl TX (.tmp 1) (.tmp 13) rfl w6.heap.size #[.int .i64 awE.k, .int .i64 awE.o, .string awE.s, .int .i64 awE.v, .slice ae me ce] rfl rfl _ _ HG7.out (by kernel_rfl) rfl (by simp [Value.oneCell']) ?_; rw [HV7.out])
  have hC8 := printA awE awT 0 (.slice ae me ce) w7 Xe_7.out ZI_7.out aw_fits.1 aw_print
  simp only [exV] at hC8
  have HC8 := Lib.hid hC8
  clear hC8
  refine HC8.out.mono ?_
  rintro e w8 ⟨rfl, b8⟩
  have HB8 := Lib.hid (HB7.out.trans (b8.mono HB7.out.size))
  have Xe_8 := Lib.hid (KA.carry Xe_7.out b8)
  have ZI_8 := Lib.hid (TabI.below ZI_7.out b8)
  have Ze_8 := Lib.hid (AtX.later Ze_7.out b8)
  clear b8 HC8 qe0 qe1 qe2 qe3 qe4
  obtain ⟨qe0, qe1, qe2, qe3, qe4⟩ := Ze_8.out
  simp only [Nat.zero_add] at qe1 qe2 qe3 qe4
  obtain ⟨w9, hw9⟩ : ∃ W, w8.alloc (.cells #[.string ⟨#[120]⟩, .int .i64 1, .int .i64 4] TB) = W := ⟨_, rfl⟩
  have b9 : Below w8.heap.size w8 w9 := by rw [← hw9]; exact (Below.refl _ _).alloc (Nat.le_refl _) _
  have kb : KB w9 (.slice (some ⟨w8.heap.size, 0, none⟩) 1 1) awB := by rw [← hw9]; exact kb_one _ _ _ _
  have HB9 := Lib.hid (HB8.out.trans (b9.mono HB8.out.size))
  have Xe_9 := Lib.hid (KA.carry Xe_8.out b9)
  have ZI_9 := Lib.hid (TabI.below ZI_8.out b9)
  have Ze_9 := Lib.hid (AtX.later Ze_8.out b9)
  have HKB := Lib.hid kb
  have HW9 := Lib.hid hw9
  clear hw9 b9 kb
  have hC10 := evalA awB (.slice (some ⟨w8.heap.size, 0, none⟩) 1 1) awE (-10) 0 (.slice ae me ce) w9 Xe_9.out HKB.out aw_fits.1 aw_fitB aw_eval
  simp only [exV] at hC10
  have HC10 := Lib.hid hC10
  clear hC10
  go_wp2_with fail
  rw [HW9.out]
  refine HC10.out.mono ?_
  rintro e w10 ⟨rfl, b10⟩
  have HB10 := Lib.hid (HB9.out.trans (b10.mono HB9.out.size))
  have Xe_10 := Lib.hid (KA.carry Xe_9.out b10)
  have ZI_10 := Lib.hid (TabI.below ZI_9.out b10)
  have Ze_10 := Lib.hid (AtX.later Ze_9.out b10)
  clear b10 HC10 qe0 qe1 qe2 qe3 qe4
  have hC11 := name_any sX w10
  have HC11 := Lib.hid hC11
  clear hC11
  go_wp2_with fail
  refine HC11.out.mono ?_
  rintro e w11 ⟨ax, mx, cx, rfl, kx, b11⟩
  have HB11 := Lib.hid (HB10.out.trans (b11.mono HB10.out.size))
  have ZI_11 := Lib.hid (TabI.below ZI_10.out b11)
  have Xx_11 := Lib.hid (kx)
  clear b11 HC11 kx
  try simp only [exV]
  have hC12 := number_any 2 w11
  have HC12 := Lib.hid hC12
  clear hC12
  go_wp2_with fail
  refine HC12.out.mono ?_
  rintro e w12 ⟨ay, my, cy, rfl, ky, b12⟩
  have HB12 := Lib.hid (HB11.out.trans (b12.mono HB11.out.size))
  have Xx_12 := Lib.hid (KA.carry Xx_11.out b12)
  have ZI_12 := Lib.hid (TabI.below ZI_11.out b12)
  have Xy_12 := Lib.hid (ky)
  clear b12 HC12 ky
  try simp only [exV]
  have hC13 := number_any 3 w12
  have HC13 := Lib.hid hC13
  clear hC13
  go_wp2_with fail
  refine HC13.out.mono ?_
  rintro e w13 ⟨az, mz, cz, rfl, kz, b13⟩
  have HB13 := Lib.hid (HB12.out.trans (b13.mono HB12.out.size))
  have Xx_13 := Lib.hid (KA.carry Xx_12.out b13)
  have Xy_13 := Lib.hid (KA.carry Xy_12.out b13)
  have ZI_13 := Lib.hid (TabI.below ZI_12.out b13)
  have Xz_13 := Lib.hid (kz)
  clear b13 HC13 kz
  try simp only [exV]
  have hC14 := binary_any 3 (numX 2) (numX 3) ay my cy az mz cz w13 Xy_13.out Xz_13.out
  simp only [exV] at hC14
  have HC14 := Lib.hid hC14
  clear hC14
  go_wp2_with fail
  refine HC14.out.mono ?_
  rintro e w14 ⟨ab, mb, cb, rfl, kb, b14⟩
  have HB14 := Lib.hid (HB13.out.trans (b14.mono HB13.out.size))
  have Xx_14 := Lib.hid (KA.carry Xx_13.out b14)
  have Xy_14 := Lib.hid (KA.carry Xy_13.out b14)
  have Xz_14 := Lib.hid (KA.carry Xz_13.out b14)
  have ZI_14 := Lib.hid (TabI.below ZI_13.out b14)
  have Xb_14 := Lib.hid (kb)
  clear b14 HC14 kb
  try simp only [exV]
  have hC15 := binary_any 3 (nmX sX) (biX 3 (numX 2) (numX 3)) ax mx cx ab mb cb w14 Xx_14.out Xb_14.out
  simp only [exV] at hC15
  have HC15 := Lib.hid hC15
  clear hC15
  go_wp2_with fail
  refine HC15.out.mono ?_
  rintro e w15 ⟨af, mf, cf, rfl, kf, b15⟩
  have HB15 := Lib.hid (HB14.out.trans (b15.mono HB14.out.size))
  have Xx_15 := Lib.hid (KA.carry Xx_14.out b15)
  have Xb_15 := Lib.hid (KA.carry Xb_14.out b15)
  have ZI_15 := Lib.hid (TabI.below ZI_14.out b15)
  have Xf_15 := Lib.hid (kf)
  clear b15 HC15 kf
  try simp only [exV]
  have hC16 := foldA awF awG 0 (.slice af mf cf) w15 Xf_15.out aw_fits.2.1 aw_fold
  simp only [exV] at hC16
  have HC16 := Lib.hid hC16
  clear hC16
  go_wp2_with fail
  refine HC16.out.mono ?_
  rintro e w16 ⟨ag, mg, cg, rfl, kg, b16⟩
  have HB16 := Lib.hid (HB15.out.trans (b16.mono HB15.out.size))
  have Xf_16 := Lib.hid (KA.carry Xf_15.out b16)
  have ZI_16 := Lib.hid (TabI.below ZI_15.out b16)
  have Xg_16 := Lib.hid (kg)
  clear b16 HC16 kg
  try simp only [exV]
  obtain ⟨W17, hW17⟩ : ∃ W, w16.alloc (.cells #[.int .i64 0, .int .i64 0, .string ⟨#[]⟩, .int .i64 0, .slice none 0 0] TX (0, 0)) = W := ⟨_, rfl⟩
  obtain ⟨g1, b17, g3⟩ := varX w16 awG (.slice ag mg cg) W17 hW17
  have HG17 := Lib.hid g1
  have HW17 := Lib.hid hW17
  obtain ⟨w17, hw17⟩ : ∃ X, W17.setRow w16.heap.size #[.int .i64 awG.k, .int .i64 awG.o, .string awG.s, .int .i64 awG.v, .slice ag mg cg] = X := ⟨_, rfl⟩
  rw [hw17] at b17 g3
  have HB17 := Lib.hid (HB16.out.trans (b17.mono HB16.out.size))
  have Xg_17 := Lib.hid (KA.carry Xg_16.out b17)
  have ZI_17 := Lib.hid (TabI.below ZI_16.out b17)
  have Zg_17 := Lib.hid g3
  have HV17 := Lib.hid hw17
  clear hW17 g1 g3 hw17 b17
  try simp only [exV]
  go_wp2_with (rw [HW17.out]; refine wpList_store_row rfl TX (.tmp 6) (.tmp 33) rfl w16.heap.size #[.int .i64 awG.k, .int .i64 awG.o, .string awG.s, .int .i64 awG.v, .slice ag mg cg] rfl rfl _ _ HG17.out (by kernel_rfl) rfl (by simp [Value.oneCell']) ?_; rw [HV17.out])
  refine wp_region_held (S := fun w' => AtX w' w16.heap.size 0 awG (.slice ag mg cg)) (by kernel_rfl) ?_
  change wpAnyH _ _ _ _ _ _ _ _ w17.drew
  have HS : Hid (AtX w17.drew w16.heap.size 0 awG (.slice ag mg cg)) := Lib.hid (Zg_17.out.later (Below.refl _ _).drew)
  refine wpAnyH_read (i := 0) (v := .int .i64 0) rfl (by kernel_rfl) (by kernel_rfl) (by kernel_rfl) (fun _ _ _ h => h) (by rfl) (fun _ _ => rfl) HS.out ?_
  simp only [Act.put, List.setIfInBounds_toArray, List.set_cons_zero, List.set_cons_succ]
  refine wpAnyH_read (i := 1) (v := .bool true) rfl (by kernel_rfl) (by kernel_rfl) (by kernel_rfl) (fun _ _ _ h => h) (by rfl) (fun _ _ => rfl) HS.out ?_
  simp only [Act.put, List.setIfInBounds_toArray, List.set_cons_zero, List.set_cons_succ]
  refine wpAnyH_read (i := 2) (v := .bool true) rfl (by kernel_rfl) (by kernel_rfl) (by kernel_rfl) (fun _ _ _ h => h) (by rfl) (fun _ _ => rfl) HS.out ?_
  simp only [Act.put, List.setIfInBounds_toArray, List.set_cons_zero, List.set_cons_succ]
  refine wpAnyH_read (i := 3) (v := .int .i64 0) rfl (by kernel_rfl) (by kernel_rfl) (by kernel_rfl) (fun _ _ _ h => h) (by rfl) (fun _ _ => rfl) HS.out ?_
  simp only [Act.put, List.setIfInBounds_toArray, List.set_cons_zero, List.set_cons_succ]
  refine wpAnyH_read (i := 4) (v := .bool true) rfl (by kernel_rfl) (by kernel_rfl) (by kernel_rfl) (fun _ _ _ h => h) (by rfl) (fun _ _ => rfl) HS.out ?_
  simp only [Act.put, List.setIfInBounds_toArray, List.set_cons_zero, List.set_cons_succ]
  refine wpAnyH_read (i := 5) (v := .bool true) rfl (by kernel_rfl) (by kernel_rfl) (by kernel_rfl) (fun _ _ _ h => h) (by rfl) (fun _ _ => rfl) HS.out ?_
  simp only [Act.put, List.setIfInBounds_toArray, List.set_cons_zero, List.set_cons_succ]
  refine wpAnyH_read (i := 6) (v := .bool true) rfl (by kernel_rfl) (by kernel_rfl) (by kernel_rfl) (fun _ _ _ h => h) (by rfl) (fun _ _ => rfl) HS.out ?_
  simp only [Act.put, List.setIfInBounds_toArray, List.set_cons_zero, List.set_cons_succ]
  refine wpAnyH_read (i := 7) (v := .int .i64 0) rfl (by kernel_rfl) (by kernel_rfl) (by kernel_rfl) (fun _ _ _ h => h) (by rfl) (fun _ _ => rfl) HS.out ?_
  simp only [Act.put, List.setIfInBounds_toArray, List.set_cons_zero, List.set_cons_succ]
  refine wpAnyH_read (i := 8) (v := .bool true) rfl (by kernel_rfl) (by kernel_rfl) (by kernel_rfl) (fun _ _ _ h => h) (by rfl) (fun _ _ => rfl) HS.out ?_
  simp only [Act.put, List.setIfInBounds_toArray, List.set_cons_zero, List.set_cons_succ]
  refine wpAnyH_read (i := 9) (v := .bool true) rfl (by kernel_rfl) (by kernel_rfl) (by kernel_rfl) (fun _ _ _ h => h) (by rfl) (fun _ _ => rfl) HS.out ?_
  simp only [Act.put, List.setIfInBounds_toArray, List.set_cons_zero, List.set_cons_succ]
  refine wpAnyH_read (i := 10) (v := .bool true) rfl (by kernel_rfl) (by kernel_rfl) (by kernel_rfl) (fun _ _ _ h => h) (by rfl) (fun _ _ => rfl) HS.out ?_
  simp only [Act.put, List.setIfInBounds_toArray, List.set_cons_zero, List.set_cons_succ]
  refine wpAnyH_read (i := 11) (v := .string awT) rfl (by kernel_rfl) (by kernel_rfl) (by kernel_rfl) (fun _ _ _ h => h) (by rfl) (fun _ _ => rfl) HS.out ?_
  simp only [Act.put, List.setIfInBounds_toArray, List.set_cons_zero, List.set_cons_succ]
  refine wpAnyH_read (i := 12) (v := .bool true) rfl (by kernel_rfl) (by kernel_rfl) (by kernel_rfl) (fun _ _ _ h => h) (by rfl) (by rintro V -; have h := aw_list; go_simp) HS.out ?_
  simp only [Act.put, List.setIfInBounds_toArray, List.set_cons_zero, List.set_cons_succ]
  refine wpAnyH_read (i := 13) (v := .bool true) rfl (by kernel_rfl) (by kernel_rfl) (by kernel_rfl) (fun _ _ _ h => h) (by rfl) (fun _ _ => rfl) HS.out ?_
  simp only [Act.put, List.setIfInBounds_toArray, List.set_cons_zero, List.set_cons_succ]
  refine wpAnyH_read (i := 14) (v := .bool true) rfl (by kernel_rfl) (by kernel_rfl) (by kernel_rfl) (fun _ _ _ h => h) (by rfl) (fun _ _ => rfl) HS.out ?_
  simp only [Act.put, List.setIfInBounds_toArray, List.set_cons_zero, List.set_cons_succ]
  refine wpAnyH_read (i := 15) (v := .int .i64 (-10)) rfl (by kernel_rfl) (by kernel_rfl) (by kernel_rfl) (fun _ _ _ h => h) (by rfl) (fun _ _ => rfl) HS.out ?_
  simp only [Act.put, List.setIfInBounds_toArray, List.set_cons_zero, List.set_cons_succ]
  refine wpAnyH_read (i := 16) (v := .bool true) rfl (by kernel_rfl) (by kernel_rfl) (by kernel_rfl) (fun _ _ _ h => h) (by rfl) (fun _ _ => rfl) HS.out ?_
  simp only [Act.put, List.setIfInBounds_toArray, List.set_cons_zero, List.set_cons_succ]
  refine wpAnyH_read (i := 17) (v := .bool true) rfl (by kernel_rfl) (by kernel_rfl) (by kernel_rfl) (fun _ _ _ h => h) (by rfl) (fun _ _ => rfl) HS.out ?_
  simp only [Act.put, List.setIfInBounds_toArray, List.set_cons_zero, List.set_cons_succ]
  refine wpAnyH_read (i := 18) (v := .bool true) rfl (by kernel_rfl) (by kernel_rfl) (by kernel_rfl) (fun _ _ _ h => h) (by rfl) (fun _ _ => rfl) HS.out ?_
  simp only [Act.put, List.setIfInBounds_toArray, List.set_cons_zero, List.set_cons_succ]
  refine wpAnyH_read (i := 19) (v := .agg #[.int .i64 awG.k, .int .i64 awG.o, .string awG.s, .int .i64 awG.v, .slice ag mg cg]) rfl (by kernel_rfl) (by kernel_rfl) (by kernel_rfl) (fun _ _ _ h => h) (by rfl) (by rintro V ⟨q0, q1, q2, q3, q4⟩; simp only [Nat.zero_add] at q1 q2 q3 q4; go_simp) HS.out ?_
  simp only [Act.put, List.setIfInBounds_toArray, List.set_cons_zero, List.set_cons_succ]
  have HBD : Hid (Below w.heap.size w w17.drew) := Lib.hid (HB17.out.drew)
  have XG := Lib.hid (KA.carry Xg_17.out (Below.refl w17.heap.size w17).drew)
  generalize w17.drew = WD at HS HBD XG ⊢
  refine wpAnyH_next (i := 20) rfl (by kernel_rfl) ?_
  have hC := name_any sX WD
  have HC := Lib.hid hC
  clear hC
  go_wp2_with fail
  refine HC.out.mono ?_
  rintro e w120 ⟨ap, mp, cp, rfl, kp, hb⟩
  clear HC
  have HB120 := Lib.hid (HBD.out.trans (hb.mono HBD.out.size))
  have HS120 := Lib.hid (HS.out.later hb)
  have XP := Lib.hid kp
  have XG1 := Lib.hid (KA.carry XG.out hb)
  clear kp
  clear hb
  try simp only [exV]
  go_wp2_with fail
  refine ⟨HS120.out, ?_⟩
  refine wpAnyH_next (i := 21) rfl (by kernel_rfl) ?_
  have hC := number_any 5 w120
  have HC := Lib.hid hC
  clear hC
  go_wp2_with fail
  refine HC.out.mono ?_
  rintro e w121 ⟨aq, mq, cq, rfl, kq, hb⟩
  clear HC
  have HB121 := Lib.hid (HB120.out.trans (hb.mono HB120.out.size))
  have HS121 := Lib.hid (HS120.out.later hb)
  have XQ := Lib.hid kq
  have XP1 := Lib.hid (KA.carry XP.out hb)
  have XG2 := Lib.hid (KA.carry XG1.out hb)
  clear kq
  clear hb
  try simp only [exV]
  go_wp2_with fail
  refine ⟨HS121.out, ?_⟩
  refine wpAnyH_next (i := 22) rfl (by kernel_rfl) ?_
  have hC := binary_any 3 (nmX sX) (numX 5) ap mp cp aq mq cq w121 XP1.out XQ.out
  simp only [exV] at hC
  have HC := Lib.hid hC
  clear hC
  go_wp2_with fail
  refine HC.out.mono ?_
  rintro e w122 ⟨ar, mr, cr, rfl, kr, hb⟩
  clear HC
  have HB122 := Lib.hid (HB121.out.trans (hb.mono HB121.out.size))
  have HS122 := Lib.hid (HS121.out.later hb)
  have XR := Lib.hid kr
  have XG3 := Lib.hid (KA.carry XG2.out hb)
  clear kr
  clear hb
  try simp only [exV]
  go_wp2_with fail
  refine ⟨HS122.out, ?_⟩
  refine wpAnyH_next (i := 23) rfl (by kernel_rfl) ?_
  have hC := rEqual_any awG awG (.slice ag mg cg) (.slice ar mr cr) w122 XG3.out XR.out aw_fits.2.2 aw_fits.2.2
  simp only [exV] at hC
  have HC := Lib.hid hC
  clear hC
  go_wp2_with fail
  refine HC.out.mono ?_
  rintro e w123 ⟨rfl, hb⟩
  clear HC
  have HB123 := Lib.hid (HB122.out.trans (hb.mono HB122.out.size))
  have HS123 := Lib.hid (HS122.out.later hb)
  rw [aw_equ]
  clear hb
  try simp only [exV]
  go_wp2_with fail
  refine ⟨HS123.out, ?_⟩
  refine wpAnyH_next (i := 24) rfl (by kernel_rfl) ?_
  go_wp2_with fail
  refine ⟨HS123.out, ?_⟩
  refine wpAnyH_next (i := 25) rfl (by kernel_rfl) ?_
  go_wp2_with fail
  refine ⟨HS123.out, ?_⟩
  refine wpAnyH_done (by kernel_rfl) ?_ _
  go_wp2
  go_ret
  exact ⟨rfl, HB123.out⟩

end Go.Proofs.YtfgaihajopfmfaaGreatDoor
