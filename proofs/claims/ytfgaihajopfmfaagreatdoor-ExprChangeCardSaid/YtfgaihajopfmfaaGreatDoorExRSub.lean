/-
  What the reference's Fold, replaced and Substitute return; the statements' same.
-/
import Derived.Test.YtfgaihajopfmfaaGreatDoorExRFold
import Derived.Test.YtfgaihajopfmfaaGreatDoorExRZero
import Derived.Test.YtfgaihajopfmfaaGreatDoorHeldTop
namespace Go.Proofs.YtfgaihajopfmfaaGreatDoor
set_option linter.unusedSimpArgs false
set_option linter.unusedVariables false
open Go.RowKit

set_option maxRecDepth 100000 in
set_option maxHeartbeats 8000000 in
theorem rFold_any (e : Ex) (a : Option Addr) (n c : Nat) (w : World) (hK : KX w e (.slice a n c)) (hf : fitE e) : Calls Tryz.prog 21 #[exV e (.slice a n c)] w (RetX3 w.heap.size (fldF e, ckE e) w) := by
  have HB0 : Hid (Below w.heap.size w w) := Lib.hid (Below.refl _ w)
  obtain ⟨w1, hw1⟩ : ∃ W, (w.alloc (.cells #[.int .i64 e.k, .int .i64 e.o, .string e.s, .int .i64 e.v, .slice a n c] TX (0, 0))).alloc (.cells #[.int .i64 0, .int .i64 0, .string ⟨#[]⟩, .int .i64 0, .slice none 0 0] TX (0, 0)) = W := ⟨_, rfl⟩
  obtain ⟨t0, t1, b1⟩ := twoBlocks w (.cells #[.int .i64 e.k, .int .i64 e.o, .string e.s, .int .i64 e.v, .slice a n c] TX (0, 0)) (.cells #[.int .i64 0, .int .i64 0, .string ⟨#[]⟩, .int .i64 0, .slice none 0 0] TX (0, 0))
  have hs1 : w1.heap.size = w.heap.size + 2 := by rw [← hw1]; simp
  rw [hw1] at t0 t1 b1
  have Zx_1 : Hid (AtX w1 w.heap.size 0 e (.slice a n c)) := Lib.hid (by refine ⟨?_, ?_, ?_, ?_, ?_⟩ <;> simp [World.cell?, t0])
  have Zr_1 := Lib.hid t1
  have Zs_1 : Hid (w.heap.size + 2 ≤ w1.heap.size) := Lib.hid (by omega)
  have HB1 := Lib.hid b1
  have Xx_1 := Lib.hid (KA.carry hK b1)
  have HFx := Lib.hid hf
  have HW1 := Lib.hid hw1
  simp only [exV]
  clear hK hf t0 t1 b1 hw1 hs1
  go_enter Tryz.func21, Tryz.ntmps21
  have hC2 := rCheck_any e (.slice a n c) w1 Xx_1.out HFx.out
  simp only [exV] at hC2
  have HC2 := Lib.hid hC2
  clear hC2
  go_wp2_with fail
  rw [HW1.out]
  refine HC2.out.mono ?_
  rintro e w2 ⟨rfl, b2⟩
  have HB2 := Lib.hid (HB1.out.trans (b2.mono HB1.out.size))
  have Xx_2 := Lib.hid (KA.carry Xx_1.out b2)
  have Zx_2 := Lib.hid (AtX.later Zx_1.out b2)
  have Zr_2 := Lib.hid (heapZ Zr_1.out b2)
  have Zs_2 := Lib.hid (sizeZ Zs_1.out b2)
  clear b2 HC2
  by_cases h : ckE e = 0
  · obtain ⟨q1, q2⟩ := ieq h
    have HP := Lib.hid (ckE_ok.1 h)
    obtain ⟨r, hr⟩ : ∃ r, fldE e = r := ⟨_, rfl⟩
    have HE : Hid ((fldF e, ckE e) = (r, 0)) := Lib.hid (by unfold fldF; rw [if_pos h, hr, h])
    have hr2 : rpE cnE e = r := hr
    rw [h] at q1 q2 ⊢
    clear h hr
    have hC3 := rfold_any e (.slice a n c) w2 Xx_2.out HP.out.2.2 HP.out.1
    simp only [exV] at hC3
    rw [hr2] at hC3
    have HC3 := Lib.hid hC3
    clear hC3
    obtain ⟨qx0, qx1, qx2, qx3, qx4⟩ := Zx_2.out
    simp only [Nat.zero_add] at qx1 qx2 qx3 qx4
    go_wp2_with fail
    refine HC3.out.mono ?_
    rintro e w3 ⟨ar, cr, rfl, kr, b3⟩
    have HB3 := Lib.hid (HB2.out.trans (b3.mono HB2.out.size))
    have Xx_3 := Lib.hid (KA.carry Xx_2.out b3)
    have Zx_3 := Lib.hid (AtX.later Zx_2.out b3)
    have Zr_3 := Lib.hid (heapZ Zr_2.out b3)
    have Zs_3 := Lib.hid (sizeZ Zs_2.out b3)
    obtain ⟨nr, hnr⟩ : ∃ n, r.es.length = n := ⟨_, rfl⟩
    rw [hnr] at kr ⊢
    try simp only [exV]
    have Xr_3 : Hid (KA (fun b => w.heap.size + 2 ≤ b) w3 r.es (.slice ar nr cr)) := Lib.hid (kr.mono fun b _ h => Nat.le_trans Zs_2.out h)
    clear hnr kr hr2
    clear b3 HC3 qx0 qx1 qx2 qx3 qx4
    have HH := Lib.hid (setRow_heap w3 (w.heap.size + 1) _ #[.int .i64 r.k, .int .i64 r.o, .string r.s, .int .i64 r.v, .slice ar nr cr] _ _ Zr_3.out)
    have HB9 : Hid (Below w.heap.size w (w3.setRow (w.heap.size + 1) #[.int .i64 r.k, .int .i64 r.o, .string r.s, .int .i64 r.v, .slice ar nr cr])) := Lib.hid (below_setRow HB3.out (by omega) _)
    have HK9 := Lib.hid ((KA.put Xr_3.out (g := w.heap.size + 1) (by omega) #[.int .i64 r.k, .int .i64 r.o, .string r.s, .int .i64 r.v, .slice ar nr cr]).known)
    go_wp2_with (refine wpList_store_row rfl TX (.tmp 2) (.tmp 12) rfl (w.heap.size + 1) #[.int .i64 r.k, .int .i64 r.o, .string r.s, .int .i64 r.v, .slice ar nr cr] rfl rfl _ _ Zr_3.out (by kernel_rfl) rfl (by simp [Value.oneCell']) ?_)
    try simp only [Exit.inBlock, Exit.then]
    have hl := run_loadVar_row (P := Tryz.prog) (w3.setRow (w.heap.size + 1) #[.int .i64 r.k, .int .i64 r.o, .string r.s, .int .i64 r.v, .slice ar nr cr]) (w.heap.size + 1) _ TX _ (0, 0) _ HH.out Tryz.underlying24 rfl (by kernel_rfl)
    refine bodyPost_ret (v := .tuple #[exV r (.slice ar nr cr), .int .i64 0]) ?_ rfl ⟨_, _, _, by rw [HE.out], by rw [HE.out]; exact HK9.out, HB9.out⟩
    rw [results_cell_tmp Tryz.results21]
    simp [asAddr, hl, Result.andThen, exV]
    try rfl
  · obtain ⟨q1, q2⟩ := ine h
    have HE : Hid ((fldF e, ckE e) = (zeroX, ckE e)) := Lib.hid (by unfold fldF; rw [if_neg h])
    clear h
    have HH := Lib.hid (setRow_heap w2 (w.heap.size + 1) _ #[.int .i64 0, .int .i64 0, .string ⟨#[]⟩, .int .i64 0, .slice none 0 0] _ _ Zr_2.out)
    have HB9 : Hid (Below w.heap.size w (w2.setRow (w.heap.size + 1) #[.int .i64 0, .int .i64 0, .string ⟨#[]⟩, .int .i64 0, .slice none 0 0])) := Lib.hid (below_setRow HB2.out (by omega) _)
    have HK9 := Lib.hid (KA.nil0 anyB (w2.setRow (w.heap.size + 1) #[.int .i64 0, .int .i64 0, .string ⟨#[]⟩, .int .i64 0, .slice none 0 0]))
    go_wp2_with (refine wpList_store_row rfl TX (.tmp 2) (.tmp 9) rfl (w.heap.size + 1) #[.int .i64 0, .int .i64 0, .string ⟨#[]⟩, .int .i64 0, .slice none 0 0] rfl rfl _ _ Zr_2.out (by kernel_rfl) rfl (by simp [Value.oneCell']) ?_)
    try simp only [Exit.inBlock, Exit.then]
    have hl := run_loadVar_row (P := Tryz.prog) (w2.setRow (w.heap.size + 1) #[.int .i64 0, .int .i64 0, .string ⟨#[]⟩, .int .i64 0, .slice none 0 0]) (w.heap.size + 1) _ TX _ (0, 0) _ HH.out Tryz.underlying24 rfl (by kernel_rfl)
    refine bodyPost_ret (v := .tuple #[exV zeroX (.slice none 0 0), .int .i64 (ckE e)]) ?_ rfl ⟨_, _, _, by rw [HE.out], by rw [HE.out]; exact HK9.out, HB9.out⟩
    rw [results_cell_tmp Tryz.results21]
    simp [asAddr, hl, Result.andThen, exV, zeroX, Ex.k, Ex.o, Ex.s, Ex.v]
    try rfl
theorem mkK (k o : Int) (s : ByteArray) (v : Int) (es : List Ex) : (Ex.mk k o s v es).k = k := rfl
theorem mkO (k o : Int) (s : ByteArray) (v : Int) (es : List Ex) : (Ex.mk k o s v es).o = o := rfl
theorem mkS (k o : Int) (s : ByteArray) (v : Int) (es : List Ex) : (Ex.mk k o s v es).s = s := rfl
theorem mkV (k o : Int) (s : ByteArray) (v : Int) (es : List Ex) : (Ex.mk k o s v es).v = v := rfl
theorem mkE (k o : Int) (s : ByteArray) (v : Int) (es : List Ex) : (Ex.mk k o s v es).es = es := rfl
/-- A tree that is returned: in blocks below n0, or made by the call. -/
def RetY (n0 : Nat) (r : Ex) (w : World) (x : Ending) (w' : World) : Prop := ∃ a m c, x = .returned (exV r (.slice a m c)) ∧ KA (fun b => b < n0 ∨ w.heap.size ≤ b) w' r.es (.slice a m c) ∧ Below w.heap.size w w'
set_option maxRecDepth 100000 in
set_option maxHeartbeats 16000000 in
theorem rrepl_any (nm : ByteArray) (y : Ex) (ay : Option Addr) (ny cy n0 : Nat) (e : Ex) : ∀ (sl : Value) (w : World), KX w e sl → KA (fun b => b < n0) w y.es (.slice ay ny cy) → n0 ≤ w.heap.size → prE e = 0 → szE e ≤ 100 →
    Calls Tryz.prog 59 #[exV e sl, .string nm, exV y (.slice ay ny cy)] w (RetY n0 (rpE (sbF nm y) e) w) := by
  induction e using Ex.ind with
  | h k o s v es ih =>
  intro sl w hK hY hn0 hP hS
  obtain ⟨a, c, sf, rfl, h1, h2, _⟩ := KA.inv hK
  have h1 : es.length ≤ c := h1
  have HIH := Lib.hid ih
  obtain ⟨w1, hw1⟩ : ∃ W, ((w.alloc (.cells #[.int .i64 k, .int .i64 o, .string s, .int .i64 v, .slice a es.length c] TX (0, 0))).alloc (.cells #[.int .i64 y.k, .int .i64 y.o, .string y.s, .int .i64 y.v, .slice ay ny cy] TX (0, 0))).alloc (.cells #[.int .i64 0, .int .i64 0, .string ⟨#[]⟩, .int .i64 0, .slice none 0 0] TX (0, 0)) = W := ⟨_, rfl⟩
  obtain ⟨t0, t1, t2, b1⟩ := threeBlocks w (.cells #[.int .i64 k, .int .i64 o, .string s, .int .i64 v, .slice a es.length c] TX (0, 0)) (.cells #[.int .i64 y.k, .int .i64 y.o, .string y.s, .int .i64 y.v, .slice ay ny cy] TX (0, 0)) (.cells #[.int .i64 0, .int .i64 0, .string ⟨#[]⟩, .int .i64 0, .slice none 0 0] TX (0, 0))
  have hs1 : w1.heap.size = w.heap.size + 3 := by rw [← hw1]; simp
  rw [hw1] at t0 t1 t2 b1
  have Zx_1 : Hid (AtX w1 w.heap.size 0 (.mk k o s v es) (.slice a es.length c)) := Lib.hid (by refine ⟨?_, ?_, ?_, ?_, ?_⟩ <;> simp [World.cell?, t0, Ex.k, Ex.o, Ex.s, Ex.v])
  have Zy_1 : Hid (AtX w1 (w.heap.size + 1) 0 y (.slice ay ny cy)) := Lib.hid (by refine ⟨?_, ?_, ?_, ?_, ?_⟩ <;> simp [World.cell?, t1])
  have Ze_1 := Lib.hid t0
  have Zr_1 := Lib.hid t2
  have Zs_1 : Hid (w.heap.size + 3 ≤ w1.heap.size) := Lib.hid (by omega)
  have HB1 := Lib.hid b1
  have XK : Hid (KA (fun b => b < w.heap.size) w es (.slice a es.length c)) := Lib.hid (KA.mono (show KA anyB w es _ from hK) (fun b h _ => h))
  have XY := Lib.hid hY
  have HN0 := Lib.hid hn0
  have HPa := Lib.hid (prE_arg hP)
  have HSa : Hid (szL es ≤ 100) := Lib.hid (by simp only [szE] at hS; omega)
  have HLen : Hid (es.length ≤ 100) := Lib.hid (Nat.le_trans (szL_len es) HSa.out)
  have HW1 := Lib.hid hw1
  simp only [exV, mkK, mkO, mkS, mkV, mkE]
  clear hK hY hP hS ih t0 t1 t2 b1 hw1 hs1
  by_cases hk : k = 2
  · obtain ⟨z1, z2⟩ := ieq hk
    by_cases hs : s = nm
    · obtain ⟨s1, s2, s3⟩ := str_yes hs
      have HE : Hid (rpE (sbF nm y) (.mk k o s v es) = y) := Lib.hid (rpE_some (by unfold sbF; rw [if_pos ⟨hk, hs⟩]))
      clear hk hs
      go_enter Tryz.func59, Tryz.ntmps59
      have HH := Lib.hid (setRow_heap w1 (w.heap.size + 1 + 1) _ #[.int .i64 y.k, .int .i64 y.o, .string y.s, .int .i64 y.v, .slice ay ny cy] _ _ Zr_1.out)
      have HB9 : Hid (Below w.heap.size w (w1.setRow (w.heap.size + 1 + 1) #[.int .i64 y.k, .int .i64 y.o, .string y.s, .int .i64 y.v, .slice ay ny cy])) := Lib.hid (below_setRow HB1.out (by omega) _)
      have HK9 : Hid (KA (fun b => b < n0 ∨ w.heap.size ≤ b) (w1.setRow (w.heap.size + 1 + 1) #[.int .i64 y.k, .int .i64 y.o, .string y.s, .int .i64 y.v, .slice ay ny cy]) y.es (.slice ay ny cy)) := Lib.hid (XY.out.keep HB9.out.size (fun b h1 h2 => ⟨.inl h2, HB9.out.block b h1⟩))
      go_wp2_with (rw [HW1.out]; refine wpList_store_row rfl TX (.tmp 6) (.tmp 18) rfl (w.heap.size + 1 + 1) #[.int .i64 y.k, .int .i64 y.o, .string y.s, .int .i64 y.v, .slice ay ny cy] rfl rfl _ _ Zr_1.out (by kernel_rfl) rfl (by simp [Value.oneCell']) ?_)
      try simp only [Exit.inBlock, Exit.then]
      exact bodyPost_ret (results_cell_row (P := Tryz.prog) Tryz.results59 _ _ (w.heap.size + 1 + 1) TX _ (0, 0) _ rfl HH.out Tryz.underlying24 rfl (by kernel_rfl)) rfl ⟨ay, ny, cy, by rw [HE.out]; rfl, by rw [HE.out]; exact HK9.out, HB9.out⟩
    · obtain ⟨s1, s2, s3⟩ := str_no hs
      have HE : Hid (rpE (sbF nm y) (.mk k o s v es) = .mk k o s v (rpL (sbF nm y) es)) := Lib.hid (rpE_no (by unfold sbF; rw [if_neg (fun h => hs h.2)]))
      clear hk hs
      obtain ⟨w2, hw2⟩ : ∃ W, (((w.alloc (.cells #[.int .i64 k, .int .i64 o, .string s, .int .i64 v, .slice a es.length c] TX (0, 0))).alloc (.cells #[.int .i64 y.k, .int .i64 y.o, .string y.s, .int .i64 y.v, .slice ay ny cy] TX (0, 0))).alloc (.cells #[.int .i64 0, .int .i64 0, .string ⟨#[]⟩, .int .i64 0, .slice none 0 0] TX (0, 0))).alloc (.cells #[] TX (0, 0)) = W := ⟨_, rfl⟩
      have hw2b : w1.alloc (.cells #[] TX (0, 0)) = w2 := by rw [← HW1.out]; exact hw2
      have b2 : Below w1.heap.size w1 w2 := by rw [← hw2b]; exact below_allocW w1 _
      have hs1 : w1.heap.size = w.heap.size + 1 + 1 + 1 := by rw [← HW1.out]; simp
      have HO0 : Hid (OwnX (fun b => b < n0 ∨ w.heap.size + 3 ≤ b) (w.heap.size + 3) [] (.slice (some ⟨w.heap.size + 1 + 1 + 1, 0, none⟩) 0 0) w2) := Lib.hid (by rw [← hw2b, ← hs1]; exact OwnX.made _ w1 _ (by omega))
      have HB2 := Lib.hid (HB1.out.trans (b2.mono HB1.out.size))
      have Zx_2 := Lib.hid (AtX.later Zx_1.out b2)
      have Zy_2 := Lib.hid (AtX.later Zy_1.out b2)
      have Ze_2 := Lib.hid (heapZ Ze_1.out b2)
      have Zr_2 := Lib.hid (heapZ Zr_1.out b2)
      have Zs_2 := Lib.hid (sizeZ Zs_1.out b2)
      have HW2 := Lib.hid hw2
      clear hw2 hw2b b2 hs1
      go_enter Tryz.func59, Tryz.ntmps59
      go_wp2
      rw [HW2.out]
      go_loopw [7, 8] (fun y4 x wr => ∃ (j : Nat) (ps : List (Ex × Value)), j ≤ es.length ∧ x = .int .i64 j ∧ Hid (OwnX (fun b => b < n0 ∨ w.heap.size + 3 ≤ b) (w.heap.size + 3) ps y4 wr) ∧ Hid (ps.map (·.1) = (es.take j).map (rpE (sbF nm y))) ∧ Hid (Below (w.heap.size + 3) w2 wr)) (fun _ x _ => es.length - (intOf x).toNat)
      case atStart => exact ⟨0, [], Nat.zero_le _, rfl, HO0, Lib.hid rfl, Lib.hid (Below.refl _ _)⟩
      case round =>
        obtain ⟨j, ps, hj, rfl, HO, HI, HBr⟩ := hrel
        have HBE : Hid (Below w.heap.size w wr) := Lib.hid (HB2.out.trans (HBr.out.mono (by omega)))
        have Zx_r : Hid (AtX wr w.heap.size 0 (.mk k o s v es) (.slice a es.length c)) := Lib.hid (Zx_2.out.keep (HBr.out.block _ (by omega)))
        have Zy_r : Hid (AtX wr (w.heap.size + 1) 0 y (.slice ay ny cy)) := Lib.hid (Zy_2.out.keep (HBr.out.block _ (by omega)))
        have Ze_r := Lib.hid ((HBr.out.block w.heap.size (by omega)).trans Ze_2.out)
        have Zr_r := Lib.hid ((HBr.out.block (w.heap.size + 1 + 1) (by omega)).trans Zr_2.out)
        have Zs_r : Hid (w.heap.size + 3 ≤ wr.heap.size) := Lib.hid (Nat.le_trans Zs_2.out HBr.out.size)
        have Xx_r : Hid (KA (fun b => b < w.heap.size) wr es (.slice a es.length c)) := Lib.hid (KA.keep XK.out HBE.out.size (fun b h1 h2 => ⟨h2, HBE.out.block b h2⟩))
        have Xy_r : Hid (KA (fun b => b < n0) wr y.es (.slice ay ny cy)) := Lib.hid (KA.keep XY.out HBE.out.size (fun b h1 h2 => ⟨h2, HBE.out.block b h1⟩))
        obtain ⟨ya, yc, hyv, _, _⟩ := ownZ_slice HO.out.1
        by_cases hlt : j < es.length
        · have k1 : (j : Int) < (es.length : Int) := by omega
          obtain ⟨yn, hyn⟩ : ∃ n, ps.length = n := ⟨_, rfl⟩
          rw [hyn] at hyv
          subst hyv
          clear hyn
          obtain ⟨sr, hcr⟩ := KA.at_ Xx_r.out
          obtain ⟨hKj, b, off, rfl, hb1, hbl, hax⟩ := hcr j hlt
          obtain ⟨a2, c2, _, hsr, _, _, _⟩ := KA.inv hKj
          obtain ⟨n2, hn2⟩ : ∃ n, (ga es j).es.length = n := ⟨_, rfl⟩
          rw [hn2] at hsr
          rw [hsr] at hKj hax
          have Zp_r := Lib.hid hax
          have XKJ := Lib.hid hKj
          have HTM := Lib.hid (take_mapX (sbF nm y) es j hlt)
          have HPL : Hid (ps.length ≤ 100) := Lib.hid (by have := congrArg List.length HI.out; simp at this; have := HLen.out; omega)
          clear hcr hsr hn2 hKj hax
          obtain ⟨q0, q1, q2, q3, q4⟩ := Zx_r.out
          simp only [mkK, mkO, mkS, mkV, mkE, Nat.zero_add] at q0 q1 q2 q3 q4
          go_wp2_with fail
          clear q0 q1 q2 q3 q4
          refine wp_region_held (S := fun w' => AtX w' (w.heap.size) (0) (.mk k o s v es) (.slice (some ⟨b, off, none⟩) es.length c) ∧ AtX w' (w.heap.size + 1) (0) y (.slice ay ny cy) ∧ AtX w' (b) (off + j * 5) (ga es j) (.slice a2 n2 c2)) (by kernel_rfl) ?_
          change wpAnyH _ _ _ _ _ _ _ _ wr.drew
          obtain ⟨w21, hw21⟩ : ∃ W, wr.drew = W := ⟨_, rfl⟩
          have b21 : Below wr.heap.size wr w21 := by rw [← hw21]; exact (Below.refl _ _).drew
          have HB21 := Lib.hid (HBE.out.trans (b21.mono HBE.out.size))
          have Zx_21 := Lib.hid (AtX.later Zx_r.out b21)
          have Zy_21 := Lib.hid (AtX.later Zy_r.out b21)
          have Ze_21 := Lib.hid (heapZ Ze_r.out b21)
          have Zr_21 := Lib.hid (heapZ Zr_r.out b21)
          have Zs_21 := Lib.hid (sizeZ Zs_r.out b21)
          have Zp_21 := Lib.hid (AtX.later Zp_r.out b21)
          rw [hw21]
          have HDR21 := Lib.hid b21
          clear b21 hw21
          refine wpAnyH_read (i := 0) (v := .slice ya yn yc) rfl (by kernel_rfl) (by kernel_rfl) (by kernel_rfl) (fun _ _ _ h => h) (by rfl) (fun _ _ => rfl) (⟨Zx_21.out, Zy_21.out, Zp_21.out⟩) ?_
          simp only [Act.put, List.setIfInBounds_toArray, List.set_cons_zero, List.set_cons_succ]
          refine wpAnyH_read (i := 1) (v := .pointer (some ⟨w.heap.size, 4, none⟩)) rfl (by kernel_rfl) (by kernel_rfl) (by kernel_rfl) (fun _ _ _ h => h) (by rfl) (fun _ _ => by rfl) (⟨Zx_21.out, Zy_21.out, Zp_21.out⟩) ?_
          simp only [Act.put, List.setIfInBounds_toArray, List.set_cons_zero, List.set_cons_succ]
          refine wpAnyH_read (i := 2) (v := .slice (some ⟨b, off, none⟩) es.length c) rfl (by kernel_rfl) (by kernel_rfl) (by kernel_rfl) (fun _ _ _ h => h) (by rfl) (by rintro V ⟨⟨r00, r01, r02, r03, r04⟩, _, _⟩; simp only [Nat.zero_add] at r04; go_simp) (⟨Zx_21.out, Zy_21.out, Zp_21.out⟩) ?_
          simp only [Act.put, List.setIfInBounds_toArray, List.set_cons_zero, List.set_cons_succ]
          refine wpAnyH_read (i := 3) (v := .int .i64 (j : Int)) rfl (by kernel_rfl) (by kernel_rfl) (by kernel_rfl) (fun _ _ _ h => h) (by rfl) (fun _ _ => rfl) (⟨Zx_21.out, Zy_21.out, Zp_21.out⟩) ?_
          simp only [Act.put, List.setIfInBounds_toArray, List.set_cons_zero, List.set_cons_succ]
          refine wpAnyH_read (i := 4) (v := .pointer (some ⟨b, off + j * 5, none⟩)) rfl (by kernel_rfl) (by kernel_rfl) (by kernel_rfl) (fun _ _ _ h => h) (by rfl) (by rintro V -; go_simp) (⟨Zx_21.out, Zy_21.out, Zp_21.out⟩) ?_
          simp only [Act.put, List.setIfInBounds_toArray, List.set_cons_zero, List.set_cons_succ]
          refine wpAnyH_read (i := 5) (v := .agg #[.int .i64 (ga es j).k, .int .i64 (ga es j).o, .string (ga es j).s, .int .i64 (ga es j).v, (.slice a2 n2 c2)]) rfl (by kernel_rfl) (by kernel_rfl) (by kernel_rfl) (fun _ _ _ h => h) (by rfl) (by rintro V ⟨⟨r00, r01, r02, r03, r04⟩, ⟨r10, r11, r12, r13, r14⟩, ⟨r20, r21, r22, r23, r24⟩⟩; go_simp) (⟨Zx_21.out, Zy_21.out, Zp_21.out⟩) ?_
          simp only [Act.put, List.setIfInBounds_toArray, List.set_cons_zero, List.set_cons_succ]
          refine wpAnyH_read (i := 6) (v := .string nm) rfl (by kernel_rfl) (by kernel_rfl) (by kernel_rfl) (fun _ _ _ h => h) (by rfl) (fun _ _ => rfl) (⟨Zx_21.out, Zy_21.out, Zp_21.out⟩) ?_
          simp only [Act.put, List.setIfInBounds_toArray, List.set_cons_zero, List.set_cons_succ]
          refine wpAnyH_read (i := 7) (v := .agg #[.int .i64 y.k, .int .i64 y.o, .string y.s, .int .i64 y.v, (.slice ay ny cy)]) rfl (by kernel_rfl) (by kernel_rfl) (by kernel_rfl) (fun _ _ _ h => h) (by rfl) (by rintro V ⟨⟨r00, r01, r02, r03, r04⟩, ⟨r10, r11, r12, r13, r14⟩, ⟨r20, r21, r22, r23, r24⟩⟩; simp only [Nat.zero_add] at r11 r12 r13 r14; go_simp) (⟨Zx_21.out, Zy_21.out, Zp_21.out⟩) ?_
          simp only [Act.put, List.setIfInBounds_toArray, List.set_cons_zero, List.set_cons_succ]
          refine wpAnyH_next (i := 8) rfl (by kernel_rfl) ?_
          have hbd : Below wr.heap.size wr w21 := HDR21.out
          have HIN := Lib.hid (HIH.out (ga es j) (ga_mem hlt) (.slice a2 n2 c2) w21 (XKJ.out.known.carry hbd) (Xy_r.out.carry hbd) (Nat.le_trans HN0.out (by have := hbd.size; have := Zs_r.out; omega)) (HPa.out _ (ga_mem hlt)) (Nat.le_trans (szE_arg (ga_mem hlt)) HSa.out))
          simp only [exV] at HIN
          have HBRd := Lib.hid (HBr.out.trans (hbd.mono (show w.heap.size + 3 ≤ wr.heap.size by have := Zs_r.out; omega)))
          have HOd := Lib.hid (HO.out.below hbd)
          have HSd := Lib.hid hbd.size
          clear hbd
          go_wp2_with fail
          refine HIN.out.mono ?_
          rintro x w7 ⟨a7, n7, c7, rfl, hk7, b7⟩
          obtain ⟨r, hr⟩ : ∃ r, rpE (sbF nm y) (ga es j) = r := ⟨_, rfl⟩
          rw [hr] at hk7 HTM ⊢
          have HB7 := Lib.hid (HBRd.out.trans (b7.mono (show w.heap.size + 3 ≤ w21.heap.size by have := Zs_r.out; have := HSd.out; omega)))
          have HO7 := Lib.hid (HOd.out.below b7)
          have HOL := Lib.hid HOd.out.lt
          have HK7 := Lib.hid hk7
          have HS7 := Lib.hid b7.size
          have Zx_7 := Lib.hid (AtX.later Zx_21.out b7)
          have Zy_7 := Lib.hid (AtX.later Zy_21.out b7)
          have Zp_7 := Lib.hid (AtX.later Zp_21.out b7)
          clear hk7 b7 hr HIN
          simp only [exV]
          go_wp2_with fail
          refine ⟨⟨Zx_7.out, Zy_7.out, Zp_7.out⟩, ?_⟩
          refine wpAnyH_next (i := 9) rfl (by kernel_rfl) ?_
          go_wp2_with fail
          obtain ⟨w8, hw8⟩ : ∃ X, w7.alloc (.cells #[.int .i64 r.k, .int .i64 r.o, .string r.s, .int .i64 r.v, .slice a7 n7 c7] TX) = X := ⟨_, rfl⟩
          have hb8 : Below w7.heap.size w7 w8 := by rw [← hw8]; exact below_allocW w7 _
          have h8y := World.alloc_heap_new w7 (.cells #[.int .i64 r.k, .int .i64 r.o, .string r.s, .int .i64 r.v, .slice a7 n7 c7] TX)
          rw [hw8] at h8y
          have HO8 := Lib.hid (HO7.out.below hb8)
          have HK8 := Lib.hid (KA.carry HK7.out hb8)
          have HB8 := Lib.hid (HB7.out.trans (hb8.mono (show w.heap.size + 3 ≤ w7.heap.size by have := HS7.out; have := Zs_r.out; have := HSd.out; omega)))
          have Zx_8 := Lib.hid (AtX.later Zx_7.out hb8)
          have Zy_8 := Lib.hid (AtX.later Zy_7.out hb8)
          have Zp_8 := Lib.hid (AtX.later Zp_7.out hb8)
          obtain ⟨v9, w9, hr9, ho9, hb9, hs9, hkeep9⟩ := appX w8 (w.heap.size + 3) _ ps r (.slice a7 n7 c7) w7.heap.size HO8.out (HK8.out.mono (fun b _ h => ⟨by have := Zs_r.out; have := HSd.out; omega, fun e => by have := HOL.out b e; have := HN0.out; omega⟩)) h8y rfl (by have := HPL.out; omega) (by have := hb8.size; have := HS7.out; have := Zs_r.out; have := HSd.out; omega)
          have HO9 := Lib.hid ho9
          have HB9 := Lib.hid (HB8.out.trans hb9)
          have HI9 : Hid ((ps ++ [(r, Value.slice a7 n7 c7)]).map (·.1) = (es.take (j + 1)).map (rpE (sbF nm y))) := Lib.hid (by rw [HTM.out, List.map_append, HI.out]; rfl)
          have Zx_9 := Lib.hid (AtX.keep Zx_8.out (hkeep9 _ Zx_8.out.lt (fun e => by have := (HO8.out.lt _ e).1; omega)))
          have Zy_9 := Lib.hid (AtX.keep Zy_8.out (hkeep9 _ Zy_8.out.lt (fun e => by have := (HO8.out.lt _ e).1; omega)))
          have Zp_9 := Lib.hid (AtX.keep Zp_8.out (hkeep9 _ Zp_8.out.lt (fun e => by have := (HO8.out.lt _ e).1; omega)))
          have HW8 := Lib.hid hw8
          rw [hw8]
          clear ho9 hb9 hkeep9 h8y hb8 hw8
          refine ⟨⟨Zx_8.out, Zy_8.out, Zp_8.out⟩, ?_⟩
          refine wpAnyH_next (i := 10) rfl (by kernel_rfl) ?_
          go_wp2_with (at_builtin; refine append_by_run _ rfl _ _ 22 rfl _ _ rfl rfl _ _ hr9 ?_)
          refine ⟨⟨Zx_9.out, Zy_9.out, Zp_9.out⟩, ?_⟩
          refine wpAnyH_next (i := 11) rfl (by kernel_rfl) ?_
          go_wp2_with fail
          refine ⟨⟨Zx_9.out, Zy_9.out, Zp_9.out⟩, ?_⟩
          refine wpAnyH_done (by kernel_rfl) ?_ _
          clear hr9
          go_wp2
          go_roundw
          case rel => exact ⟨j + 1, _, by omega, by go_num, HO9, HI9, HB9⟩
          case measure => simp [intOf]; omega
        · have k1 : ¬ (j : Int) < (es.length : Int) := by omega
          have hje : j = es.length := by omega
          have hpl : ps.length = es.length := by have := congrArg List.length HI.out; simpa [hje] using this
          rw [hpl] at hyv
          subst hyv
          have HE2 : Hid (rpE (sbF nm y) (.mk k o s v es) = .mk k o s v (ps.map (·.1))) := Lib.hid (by rw [HE.out, rpL_map, HI.out, hje, List.take_length])
          have HEL : Hid ((ps.map (·.1)).length = es.length) := Lib.hid (by rw [List.length_map, hpl])
          obtain ⟨q0, q1, q2, q3, q4⟩ := Zx_r.out
          simp only [mkK, mkO, mkS, mkV, mkE, Nat.zero_add] at q0 q1 q2 q3 q4
          have hz := heap_setCell_same wr w.heap.size 4 _ TX (.slice ya es.length yc) Ze_r.out
          have hz2 : (wr.setCell ⟨w.heap.size, 4, none⟩ (.slice ya es.length yc)).heap[w.heap.size]? = some (.cells #[.int .i64 k, .int .i64 o, .string s, .int .i64 v, .slice ya es.length yc] TX (0, 0)) := by simpa using hz
          have u0 : (wr.setCell ⟨w.heap.size, 4, none⟩ (.slice ya es.length yc)).cell? ⟨w.heap.size, 0, none⟩ = some (.int .i64 k) := by simp [World.cell?, hz2]
          have u1 : (wr.setCell ⟨w.heap.size, 4, none⟩ (.slice ya es.length yc)).cell? ⟨w.heap.size, 1, none⟩ = some (.int .i64 o) := by simp [World.cell?, hz2]
          have u2 : (wr.setCell ⟨w.heap.size, 4, none⟩ (.slice ya es.length yc)).cell? ⟨w.heap.size, 2, none⟩ = some (.string s) := by simp [World.cell?, hz2]
          have u3 : (wr.setCell ⟨w.heap.size, 4, none⟩ (.slice ya es.length yc)).cell? ⟨w.heap.size, 3, none⟩ = some (.int .i64 v) := by simp [World.cell?, hz2]
          have u4 : (wr.setCell ⟨w.heap.size, 4, none⟩ (.slice ya es.length yc)).cell? ⟨w.heap.size, 4, none⟩ = some (.slice ya es.length yc) := by simp [World.cell?, hz2]
          have hfz := Lib.frozen_of_heap Ze_r.out
          have hr2 : (wr.setCell ⟨w.heap.size, 4, none⟩ (.slice ya es.length yc)).heap[(w.heap.size + 1 + 1)]? = _ := (heap_setCell_other wr ⟨w.heap.size, 4, none⟩ (w.heap.size + 1 + 1) (.slice ya es.length yc) (by simp; omega)).trans Zr_r.out
          have HR2 := Lib.hid hr2
          have gC := setC_grown wr w.heap.size 4 (.slice ya es.length yc)
          have HBV : Hid (Below w.heap.size w (wr.setCell ⟨w.heap.size, 4, none⟩ (.slice ya es.length yc))) := Lib.hid (HBE.out.trans ((Below.refl _ wr).grown gC (by have := Zs_r.out; omega) (fun k e => by injection e with e; omega)))
          have HOV := Lib.hid (HO.out.setC (n := w.heap.size) (i := 4) (u := .slice ya es.length yc) (fun e => by have := (HO.out.lt _ e).1; omega) (by have := HN0.out; omega))
          have HKV := Lib.hid (HOV.out.known)
          have HH := Lib.hid (setRow_heap (wr.setCell ⟨w.heap.size, 4, none⟩ (.slice ya es.length yc)) (w.heap.size + 1 + 1) _ #[.int .i64 k, .int .i64 o, .string s, .int .i64 v, .slice ya es.length yc] _ _ HR2.out)
          have HB9 : Hid (Below w.heap.size w ((wr.setCell ⟨w.heap.size, 4, none⟩ (.slice ya es.length yc)).setRow (w.heap.size + 1 + 1) #[.int .i64 k, .int .i64 o, .string s, .int .i64 v, .slice ya es.length yc])) := Lib.hid (below_setRow HBV.out (by omega) _)
          have HK9 : Hid (KA (fun b => b < n0 ∨ w.heap.size ≤ b) ((wr.setCell ⟨w.heap.size, 4, none⟩ (.slice ya es.length yc)).setRow (w.heap.size + 1 + 1) #[.int .i64 k, .int .i64 o, .string s, .int .i64 v, .slice ya es.length yc]) _ _) := Lib.hid (HKV.out.keep (by simp [World.setRow]) (fun b _ h => ⟨by rcases h with (h | h) | h <;> omega, setRow_other (wr.setCell ⟨w.heap.size, 4, none⟩ (.slice ya es.length yc)) (w.heap.size + 1 + 1) b _ (by have := HN0.out; rcases h with (h | h) | h <;> omega)⟩))
          clear hz hz2 hr2 gC hje hpl
          go_wp2_with (refine wpList_store_row rfl TX (.tmp 6) (.tmp 40) rfl (w.heap.size + 1 + 1) #[.int .i64 k, .int .i64 o, .string s, .int .i64 v, .slice ya es.length yc] rfl rfl _ _ HR2.out (by kernel_rfl) rfl (by simp [Value.oneCell']) ?_)
          try simp only [Exit.inBlock, Exit.then]
          exact bodyPost_ret (results_cell_row (P := Tryz.prog) Tryz.results59 _ _ (w.heap.size + 1 + 1) TX _ (0, 0) _ rfl HH.out Tryz.underlying24 rfl (by kernel_rfl)) rfl ⟨ya, es.length, yc, by rw [HE2.out]; rfl, by rw [HE2.out]; exact HK9.out, HB9.out⟩
  · obtain ⟨z1, z2⟩ := ine hk
    have HE : Hid (rpE (sbF nm y) (.mk k o s v es) = .mk k o s v (rpL (sbF nm y) es)) := Lib.hid (rpE_no (by unfold sbF; rw [if_neg (fun h => hk h.1)]))
    clear hk
    obtain ⟨w2, hw2⟩ : ∃ W, (((w.alloc (.cells #[.int .i64 k, .int .i64 o, .string s, .int .i64 v, .slice a es.length c] TX (0, 0))).alloc (.cells #[.int .i64 y.k, .int .i64 y.o, .string y.s, .int .i64 y.v, .slice ay ny cy] TX (0, 0))).alloc (.cells #[.int .i64 0, .int .i64 0, .string ⟨#[]⟩, .int .i64 0, .slice none 0 0] TX (0, 0))).alloc (.cells #[] TX (0, 0)) = W := ⟨_, rfl⟩
    have hw2b : w1.alloc (.cells #[] TX (0, 0)) = w2 := by rw [← HW1.out]; exact hw2
    have b2 : Below w1.heap.size w1 w2 := by rw [← hw2b]; exact below_allocW w1 _
    have hs1 : w1.heap.size = w.heap.size + 1 + 1 + 1 := by rw [← HW1.out]; simp
    have HO0 : Hid (OwnX (fun b => b < n0 ∨ w.heap.size + 3 ≤ b) (w.heap.size + 3) [] (.slice (some ⟨w.heap.size + 1 + 1 + 1, 0, none⟩) 0 0) w2) := Lib.hid (by rw [← hw2b, ← hs1]; exact OwnX.made _ w1 _ (by omega))
    have HB2 := Lib.hid (HB1.out.trans (b2.mono HB1.out.size))
    have Zx_2 := Lib.hid (AtX.later Zx_1.out b2)
    have Zy_2 := Lib.hid (AtX.later Zy_1.out b2)
    have Ze_2 := Lib.hid (heapZ Ze_1.out b2)
    have Zr_2 := Lib.hid (heapZ Zr_1.out b2)
    have Zs_2 := Lib.hid (sizeZ Zs_1.out b2)
    have HW2 := Lib.hid hw2
    clear hw2 hw2b b2 hs1
    go_enter Tryz.func59, Tryz.ntmps59
    go_wp2
    rw [HW2.out]
    go_loopw [7, 8] (fun y4 x wr => ∃ (j : Nat) (ps : List (Ex × Value)), j ≤ es.length ∧ x = .int .i64 j ∧ Hid (OwnX (fun b => b < n0 ∨ w.heap.size + 3 ≤ b) (w.heap.size + 3) ps y4 wr) ∧ Hid (ps.map (·.1) = (es.take j).map (rpE (sbF nm y))) ∧ Hid (Below (w.heap.size + 3) w2 wr)) (fun _ x _ => es.length - (intOf x).toNat)
    case atStart => exact ⟨0, [], Nat.zero_le _, rfl, HO0, Lib.hid rfl, Lib.hid (Below.refl _ _)⟩
    case round =>
      obtain ⟨j, ps, hj, rfl, HO, HI, HBr⟩ := hrel
      have HBE : Hid (Below w.heap.size w wr) := Lib.hid (HB2.out.trans (HBr.out.mono (by omega)))
      have Zx_r : Hid (AtX wr w.heap.size 0 (.mk k o s v es) (.slice a es.length c)) := Lib.hid (Zx_2.out.keep (HBr.out.block _ (by omega)))
      have Zy_r : Hid (AtX wr (w.heap.size + 1) 0 y (.slice ay ny cy)) := Lib.hid (Zy_2.out.keep (HBr.out.block _ (by omega)))
      have Ze_r := Lib.hid ((HBr.out.block w.heap.size (by omega)).trans Ze_2.out)
      have Zr_r := Lib.hid ((HBr.out.block (w.heap.size + 1 + 1) (by omega)).trans Zr_2.out)
      have Zs_r : Hid (w.heap.size + 3 ≤ wr.heap.size) := Lib.hid (Nat.le_trans Zs_2.out HBr.out.size)
      have Xx_r : Hid (KA (fun b => b < w.heap.size) wr es (.slice a es.length c)) := Lib.hid (KA.keep XK.out HBE.out.size (fun b h1 h2 => ⟨h2, HBE.out.block b h2⟩))
      have Xy_r : Hid (KA (fun b => b < n0) wr y.es (.slice ay ny cy)) := Lib.hid (KA.keep XY.out HBE.out.size (fun b h1 h2 => ⟨h2, HBE.out.block b h1⟩))
      obtain ⟨ya, yc, hyv, _, _⟩ := ownZ_slice HO.out.1
      by_cases hlt : j < es.length
      · have k1 : (j : Int) < (es.length : Int) := by omega
        obtain ⟨yn, hyn⟩ : ∃ n, ps.length = n := ⟨_, rfl⟩
        rw [hyn] at hyv
        subst hyv
        clear hyn
        obtain ⟨sr, hcr⟩ := KA.at_ Xx_r.out
        obtain ⟨hKj, b, off, rfl, hb1, hbl, hax⟩ := hcr j hlt
        obtain ⟨a2, c2, _, hsr, _, _, _⟩ := KA.inv hKj
        obtain ⟨n2, hn2⟩ : ∃ n, (ga es j).es.length = n := ⟨_, rfl⟩
        rw [hn2] at hsr
        rw [hsr] at hKj hax
        have Zp_r := Lib.hid hax
        have XKJ := Lib.hid hKj
        have HTM := Lib.hid (take_mapX (sbF nm y) es j hlt)
        have HPL : Hid (ps.length ≤ 100) := Lib.hid (by have := congrArg List.length HI.out; simp at this; have := HLen.out; omega)
        clear hcr hsr hn2 hKj hax
        obtain ⟨q0, q1, q2, q3, q4⟩ := Zx_r.out
        simp only [mkK, mkO, mkS, mkV, mkE, Nat.zero_add] at q0 q1 q2 q3 q4
        go_wp2_with fail
        clear q0 q1 q2 q3 q4
        refine wp_region_held (S := fun w' => AtX w' (w.heap.size) (0) (.mk k o s v es) (.slice (some ⟨b, off, none⟩) es.length c) ∧ AtX w' (w.heap.size + 1) (0) y (.slice ay ny cy) ∧ AtX w' (b) (off + j * 5) (ga es j) (.slice a2 n2 c2)) (by kernel_rfl) ?_
        change wpAnyH _ _ _ _ _ _ _ _ wr.drew
        obtain ⟨w21, hw21⟩ : ∃ W, wr.drew = W := ⟨_, rfl⟩
        have b21 : Below wr.heap.size wr w21 := by rw [← hw21]; exact (Below.refl _ _).drew
        have HB21 := Lib.hid (HBE.out.trans (b21.mono HBE.out.size))
        have Zx_21 := Lib.hid (AtX.later Zx_r.out b21)
        have Zy_21 := Lib.hid (AtX.later Zy_r.out b21)
        have Ze_21 := Lib.hid (heapZ Ze_r.out b21)
        have Zr_21 := Lib.hid (heapZ Zr_r.out b21)
        have Zs_21 := Lib.hid (sizeZ Zs_r.out b21)
        have Zp_21 := Lib.hid (AtX.later Zp_r.out b21)
        rw [hw21]
        have HDR21 := Lib.hid b21
        clear b21 hw21
        refine wpAnyH_read (i := 0) (v := .slice ya yn yc) rfl (by kernel_rfl) (by kernel_rfl) (by kernel_rfl) (fun _ _ _ h => h) (by rfl) (fun _ _ => rfl) (⟨Zx_21.out, Zy_21.out, Zp_21.out⟩) ?_
        simp only [Act.put, List.setIfInBounds_toArray, List.set_cons_zero, List.set_cons_succ]
        refine wpAnyH_read (i := 1) (v := .pointer (some ⟨w.heap.size, 4, none⟩)) rfl (by kernel_rfl) (by kernel_rfl) (by kernel_rfl) (fun _ _ _ h => h) (by rfl) (fun _ _ => by rfl) (⟨Zx_21.out, Zy_21.out, Zp_21.out⟩) ?_
        simp only [Act.put, List.setIfInBounds_toArray, List.set_cons_zero, List.set_cons_succ]
        refine wpAnyH_read (i := 2) (v := .slice (some ⟨b, off, none⟩) es.length c) rfl (by kernel_rfl) (by kernel_rfl) (by kernel_rfl) (fun _ _ _ h => h) (by rfl) (by rintro V ⟨⟨r00, r01, r02, r03, r04⟩, _, _⟩; simp only [Nat.zero_add] at r04; go_simp) (⟨Zx_21.out, Zy_21.out, Zp_21.out⟩) ?_
        simp only [Act.put, List.setIfInBounds_toArray, List.set_cons_zero, List.set_cons_succ]
        refine wpAnyH_read (i := 3) (v := .int .i64 (j : Int)) rfl (by kernel_rfl) (by kernel_rfl) (by kernel_rfl) (fun _ _ _ h => h) (by rfl) (fun _ _ => rfl) (⟨Zx_21.out, Zy_21.out, Zp_21.out⟩) ?_
        simp only [Act.put, List.setIfInBounds_toArray, List.set_cons_zero, List.set_cons_succ]
        refine wpAnyH_read (i := 4) (v := .pointer (some ⟨b, off + j * 5, none⟩)) rfl (by kernel_rfl) (by kernel_rfl) (by kernel_rfl) (fun _ _ _ h => h) (by rfl) (by rintro V -; go_simp) (⟨Zx_21.out, Zy_21.out, Zp_21.out⟩) ?_
        simp only [Act.put, List.setIfInBounds_toArray, List.set_cons_zero, List.set_cons_succ]
        refine wpAnyH_read (i := 5) (v := .agg #[.int .i64 (ga es j).k, .int .i64 (ga es j).o, .string (ga es j).s, .int .i64 (ga es j).v, (.slice a2 n2 c2)]) rfl (by kernel_rfl) (by kernel_rfl) (by kernel_rfl) (fun _ _ _ h => h) (by rfl) (by rintro V ⟨⟨r00, r01, r02, r03, r04⟩, ⟨r10, r11, r12, r13, r14⟩, ⟨r20, r21, r22, r23, r24⟩⟩; go_simp) (⟨Zx_21.out, Zy_21.out, Zp_21.out⟩) ?_
        simp only [Act.put, List.setIfInBounds_toArray, List.set_cons_zero, List.set_cons_succ]
        refine wpAnyH_read (i := 6) (v := .string nm) rfl (by kernel_rfl) (by kernel_rfl) (by kernel_rfl) (fun _ _ _ h => h) (by rfl) (fun _ _ => rfl) (⟨Zx_21.out, Zy_21.out, Zp_21.out⟩) ?_
        simp only [Act.put, List.setIfInBounds_toArray, List.set_cons_zero, List.set_cons_succ]
        refine wpAnyH_read (i := 7) (v := .agg #[.int .i64 y.k, .int .i64 y.o, .string y.s, .int .i64 y.v, (.slice ay ny cy)]) rfl (by kernel_rfl) (by kernel_rfl) (by kernel_rfl) (fun _ _ _ h => h) (by rfl) (by rintro V ⟨⟨r00, r01, r02, r03, r04⟩, ⟨r10, r11, r12, r13, r14⟩, ⟨r20, r21, r22, r23, r24⟩⟩; simp only [Nat.zero_add] at r11 r12 r13 r14; go_simp) (⟨Zx_21.out, Zy_21.out, Zp_21.out⟩) ?_
        simp only [Act.put, List.setIfInBounds_toArray, List.set_cons_zero, List.set_cons_succ]
        refine wpAnyH_next (i := 8) rfl (by kernel_rfl) ?_
        have hbd : Below wr.heap.size wr w21 := HDR21.out
        have HIN := Lib.hid (HIH.out (ga es j) (ga_mem hlt) (.slice a2 n2 c2) w21 (XKJ.out.known.carry hbd) (Xy_r.out.carry hbd) (Nat.le_trans HN0.out (by have := hbd.size; have := Zs_r.out; omega)) (HPa.out _ (ga_mem hlt)) (Nat.le_trans (szE_arg (ga_mem hlt)) HSa.out))
        simp only [exV] at HIN
        have HBRd := Lib.hid (HBr.out.trans (hbd.mono (show w.heap.size + 3 ≤ wr.heap.size by have := Zs_r.out; omega)))
        have HOd := Lib.hid (HO.out.below hbd)
        have HSd := Lib.hid hbd.size
        clear hbd
        go_wp2_with fail
        refine HIN.out.mono ?_
        rintro x w7 ⟨a7, n7, c7, rfl, hk7, b7⟩
        obtain ⟨r, hr⟩ : ∃ r, rpE (sbF nm y) (ga es j) = r := ⟨_, rfl⟩
        rw [hr] at hk7 HTM ⊢
        have HB7 := Lib.hid (HBRd.out.trans (b7.mono (show w.heap.size + 3 ≤ w21.heap.size by have := Zs_r.out; have := HSd.out; omega)))
        have HO7 := Lib.hid (HOd.out.below b7)
        have HOL := Lib.hid HOd.out.lt
        have HK7 := Lib.hid hk7
        have HS7 := Lib.hid b7.size
        have Zx_7 := Lib.hid (AtX.later Zx_21.out b7)
        have Zy_7 := Lib.hid (AtX.later Zy_21.out b7)
        have Zp_7 := Lib.hid (AtX.later Zp_21.out b7)
        clear hk7 b7 hr HIN
        simp only [exV]
        go_wp2_with fail
        refine ⟨⟨Zx_7.out, Zy_7.out, Zp_7.out⟩, ?_⟩
        refine wpAnyH_next (i := 9) rfl (by kernel_rfl) ?_
        go_wp2_with fail
        obtain ⟨w8, hw8⟩ : ∃ X, w7.alloc (.cells #[.int .i64 r.k, .int .i64 r.o, .string r.s, .int .i64 r.v, .slice a7 n7 c7] TX) = X := ⟨_, rfl⟩
        have hb8 : Below w7.heap.size w7 w8 := by rw [← hw8]; exact below_allocW w7 _
        have h8y := World.alloc_heap_new w7 (.cells #[.int .i64 r.k, .int .i64 r.o, .string r.s, .int .i64 r.v, .slice a7 n7 c7] TX)
        rw [hw8] at h8y
        have HO8 := Lib.hid (HO7.out.below hb8)
        have HK8 := Lib.hid (KA.carry HK7.out hb8)
        have HB8 := Lib.hid (HB7.out.trans (hb8.mono (show w.heap.size + 3 ≤ w7.heap.size by have := HS7.out; have := Zs_r.out; have := HSd.out; omega)))
        have Zx_8 := Lib.hid (AtX.later Zx_7.out hb8)
        have Zy_8 := Lib.hid (AtX.later Zy_7.out hb8)
        have Zp_8 := Lib.hid (AtX.later Zp_7.out hb8)
        obtain ⟨v9, w9, hr9, ho9, hb9, hs9, hkeep9⟩ := appX w8 (w.heap.size + 3) _ ps r (.slice a7 n7 c7) w7.heap.size HO8.out (HK8.out.mono (fun b _ h => ⟨by have := Zs_r.out; have := HSd.out; omega, fun e => by have := HOL.out b e; have := HN0.out; omega⟩)) h8y rfl (by have := HPL.out; omega) (by have := hb8.size; have := HS7.out; have := Zs_r.out; have := HSd.out; omega)
        have HO9 := Lib.hid ho9
        have HB9 := Lib.hid (HB8.out.trans hb9)
        have HI9 : Hid ((ps ++ [(r, Value.slice a7 n7 c7)]).map (·.1) = (es.take (j + 1)).map (rpE (sbF nm y))) := Lib.hid (by rw [HTM.out, List.map_append, HI.out]; rfl)
        have Zx_9 := Lib.hid (AtX.keep Zx_8.out (hkeep9 _ Zx_8.out.lt (fun e => by have := (HO8.out.lt _ e).1; omega)))
        have Zy_9 := Lib.hid (AtX.keep Zy_8.out (hkeep9 _ Zy_8.out.lt (fun e => by have := (HO8.out.lt _ e).1; omega)))
        have Zp_9 := Lib.hid (AtX.keep Zp_8.out (hkeep9 _ Zp_8.out.lt (fun e => by have := (HO8.out.lt _ e).1; omega)))
        have HW8 := Lib.hid hw8
        rw [hw8]
        clear ho9 hb9 hkeep9 h8y hb8 hw8
        refine ⟨⟨Zx_8.out, Zy_8.out, Zp_8.out⟩, ?_⟩
        refine wpAnyH_next (i := 10) rfl (by kernel_rfl) ?_
        go_wp2_with (at_builtin; refine append_by_run _ rfl _ _ 22 rfl _ _ rfl rfl _ _ hr9 ?_)
        refine ⟨⟨Zx_9.out, Zy_9.out, Zp_9.out⟩, ?_⟩
        refine wpAnyH_next (i := 11) rfl (by kernel_rfl) ?_
        go_wp2_with fail
        refine ⟨⟨Zx_9.out, Zy_9.out, Zp_9.out⟩, ?_⟩
        refine wpAnyH_done (by kernel_rfl) ?_ _
        clear hr9
        go_wp2
        go_roundw
        case rel => exact ⟨j + 1, _, by omega, by go_num, HO9, HI9, HB9⟩
        case measure => simp [intOf]; omega
      · have k1 : ¬ (j : Int) < (es.length : Int) := by omega
        have hje : j = es.length := by omega
        have hpl : ps.length = es.length := by have := congrArg List.length HI.out; simpa [hje] using this
        rw [hpl] at hyv
        subst hyv
        have HE2 : Hid (rpE (sbF nm y) (.mk k o s v es) = .mk k o s v (ps.map (·.1))) := Lib.hid (by rw [HE.out, rpL_map, HI.out, hje, List.take_length])
        have HEL : Hid ((ps.map (·.1)).length = es.length) := Lib.hid (by rw [List.length_map, hpl])
        obtain ⟨q0, q1, q2, q3, q4⟩ := Zx_r.out
        simp only [mkK, mkO, mkS, mkV, mkE, Nat.zero_add] at q0 q1 q2 q3 q4
        have hz := heap_setCell_same wr w.heap.size 4 _ TX (.slice ya es.length yc) Ze_r.out
        have hz2 : (wr.setCell ⟨w.heap.size, 4, none⟩ (.slice ya es.length yc)).heap[w.heap.size]? = some (.cells #[.int .i64 k, .int .i64 o, .string s, .int .i64 v, .slice ya es.length yc] TX (0, 0)) := by simpa using hz
        have u0 : (wr.setCell ⟨w.heap.size, 4, none⟩ (.slice ya es.length yc)).cell? ⟨w.heap.size, 0, none⟩ = some (.int .i64 k) := by simp [World.cell?, hz2]
        have u1 : (wr.setCell ⟨w.heap.size, 4, none⟩ (.slice ya es.length yc)).cell? ⟨w.heap.size, 1, none⟩ = some (.int .i64 o) := by simp [World.cell?, hz2]
        have u2 : (wr.setCell ⟨w.heap.size, 4, none⟩ (.slice ya es.length yc)).cell? ⟨w.heap.size, 2, none⟩ = some (.string s) := by simp [World.cell?, hz2]
        have u3 : (wr.setCell ⟨w.heap.size, 4, none⟩ (.slice ya es.length yc)).cell? ⟨w.heap.size, 3, none⟩ = some (.int .i64 v) := by simp [World.cell?, hz2]
        have u4 : (wr.setCell ⟨w.heap.size, 4, none⟩ (.slice ya es.length yc)).cell? ⟨w.heap.size, 4, none⟩ = some (.slice ya es.length yc) := by simp [World.cell?, hz2]
        have hfz := Lib.frozen_of_heap Ze_r.out
        have hr2 : (wr.setCell ⟨w.heap.size, 4, none⟩ (.slice ya es.length yc)).heap[(w.heap.size + 1 + 1)]? = _ := (heap_setCell_other wr ⟨w.heap.size, 4, none⟩ (w.heap.size + 1 + 1) (.slice ya es.length yc) (by simp; omega)).trans Zr_r.out
        have HR2 := Lib.hid hr2
        have gC := setC_grown wr w.heap.size 4 (.slice ya es.length yc)
        have HBV : Hid (Below w.heap.size w (wr.setCell ⟨w.heap.size, 4, none⟩ (.slice ya es.length yc))) := Lib.hid (HBE.out.trans ((Below.refl _ wr).grown gC (by have := Zs_r.out; omega) (fun k e => by injection e with e; omega)))
        have HOV := Lib.hid (HO.out.setC (n := w.heap.size) (i := 4) (u := .slice ya es.length yc) (fun e => by have := (HO.out.lt _ e).1; omega) (by have := HN0.out; omega))
        have HKV := Lib.hid (HOV.out.known)
        have HH := Lib.hid (setRow_heap (wr.setCell ⟨w.heap.size, 4, none⟩ (.slice ya es.length yc)) (w.heap.size + 1 + 1) _ #[.int .i64 k, .int .i64 o, .string s, .int .i64 v, .slice ya es.length yc] _ _ HR2.out)
        have HB9 : Hid (Below w.heap.size w ((wr.setCell ⟨w.heap.size, 4, none⟩ (.slice ya es.length yc)).setRow (w.heap.size + 1 + 1) #[.int .i64 k, .int .i64 o, .string s, .int .i64 v, .slice ya es.length yc])) := Lib.hid (below_setRow HBV.out (by omega) _)
        have HK9 : Hid (KA (fun b => b < n0 ∨ w.heap.size ≤ b) ((wr.setCell ⟨w.heap.size, 4, none⟩ (.slice ya es.length yc)).setRow (w.heap.size + 1 + 1) #[.int .i64 k, .int .i64 o, .string s, .int .i64 v, .slice ya es.length yc]) _ _) := Lib.hid (HKV.out.keep (by simp [World.setRow]) (fun b _ h => ⟨by rcases h with (h | h) | h <;> omega, setRow_other (wr.setCell ⟨w.heap.size, 4, none⟩ (.slice ya es.length yc)) (w.heap.size + 1 + 1) b _ (by have := HN0.out; rcases h with (h | h) | h <;> omega)⟩))
        clear hz hz2 hr2 gC hje hpl
        go_wp2_with (refine wpList_store_row rfl TX (.tmp 6) (.tmp 40) rfl (w.heap.size + 1 + 1) #[.int .i64 k, .int .i64 o, .string s, .int .i64 v, .slice ya es.length yc] rfl rfl _ _ HR2.out (by kernel_rfl) rfl (by simp [Value.oneCell']) ?_)
        try simp only [Exit.inBlock, Exit.then]
        exact bodyPost_ret (results_cell_row (P := Tryz.prog) Tryz.results59 _ _ (w.heap.size + 1 + 1) TX _ (0, 0) _ rfl HH.out Tryz.underlying24 rfl (by kernel_rfl)) rfl ⟨ya, es.length, yc, by rw [HE2.out]; rfl, by rw [HE2.out]; exact HK9.out, HB9.out⟩

end Go.Proofs.YtfgaihajopfmfaaGreatDoor
