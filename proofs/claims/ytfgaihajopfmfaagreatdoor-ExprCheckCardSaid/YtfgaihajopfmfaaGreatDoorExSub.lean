/-
  What the program's Substitute returns.
-/
import Derived.Test.YtfgaihajopfmfaaGreatDoorExRepS
import Derived.Test.YtfgaihajopfmfaaGreatDoorExDevA
import Derived.Test.YtfgaihajopfmfaaGreatDoorExLit
import Derived.Test.YtfgaihajopfmfaaGreatDoorExMath
namespace Go.Proofs.YtfgaihajopfmfaaGreatDoor
set_option linter.unusedSimpArgs false
set_option linter.unusedVariables false
open Go.RowKit

/-- What Substitute returns: a tree and an error. -/
def subF (nm : ByteArray) (e y : Ex) : Ex × Int := if ckE e ≠ 0 ∨ ckE y ≠ 0 then (zeroX, 1) else if nmB nm = false then (zeroX, 5) else if ckE (sbE nm y e) ≠ 0 then (zeroX, ckE (sbE nm y e)) else (sbE nm y e, 0)
def RetX3 (n : Nat) (r : Ex × Int) (w : World) (x : Ending) (w' : World) : Prop := ∃ a m c, x = .returned (.tuple #[exV r.1 (.slice a m c), .int .i64 r.2]) ∧ KX w' r.1 (.slice a m c) ∧ Below n w w'
theorem heapZ {w w' : World} {b : Nat} {o : Obj} (h : w.heap[b]? = some o) (hb : Below w.heap.size w w') : w'.heap[b]? = some o := (hb.block _ (Array.getElem?_eq_some_iff.1 h).1).trans h
theorem sizeZ {n : Nat} {w w' : World} (h : n ≤ w.heap.size) (hb : Below w.heap.size w w') : n ≤ w'.heap.size := Nat.le_trans h hb.size
theorem isNameB (s : ByteArray) (w : World) (hs : s.size ≤ 9223372036854775807) : Calls Tryz.prog 55 #[.string s] w fun x w' => x = .returned (.bool (nmB s)) ∧ Below w.heap.size w w' := (isName_same s w hs).mono (by rintro x w' ⟨rfl, rfl⟩; exact ⟨rfl, Below.refl _ _⟩)
theorem fourBlocks (w : World) (o p q r : Obj) : ((((w.alloc o).alloc p).alloc q).alloc r).heap[w.heap.size]? = some o ∧ ((((w.alloc o).alloc p).alloc q).alloc r).heap[w.heap.size + 1]? = some p ∧ ((((w.alloc o).alloc p).alloc q).alloc r).heap[w.heap.size + 1 + 1]? = some q ∧ ((((w.alloc o).alloc p).alloc q).alloc r).heap[w.heap.size + 1 + 1 + 1]? = some r ∧ Below w.heap.size w ((((w.alloc o).alloc p).alloc q).alloc r) := by
  obtain ⟨h1, h2, h3, h4⟩ := threeBlocks w o p q
  refine ⟨?_, ?_, ?_, ?_, h4.alloc h4.size _⟩
  · rw [Below.heap_alloc _ _ _ (by simp; omega)]; exact h1
  · rw [Below.heap_alloc _ _ _ (by simp)]; exact h2
  · rw [Below.heap_alloc _ _ _ (by simp)]; exact h3
  · have := World.alloc_heap_new (((w.alloc o).alloc p).alloc q) r
    simpa using this
set_option maxRecDepth 100000 in
set_option maxHeartbeats 8000000 in
theorem Substitute_any (nm : ByteArray) (e y : Ex) (a : Option Addr) (n c : Nat) (a2 : Option Addr) (n2 c2 : Nat) (w : World) (hK : KX w e (.slice a n c)) (hY : KX w y (.slice a2 n2 c2)) (hf : fitE e) (hg : fitE y) (hn : nm.size ≤ 9223372036854775807) :
    Calls Tryz.prog 22 #[exV e (.slice a n c), .string nm, exV y (.slice a2 n2 c2)] w (RetX3 w.heap.size (subF nm e y) w) := by
  have HB0 : Hid (Below w.heap.size w w) := Lib.hid (Below.refl _ w)
  obtain ⟨w1, hw1⟩ : ∃ W, (((w.alloc (.cells #[.int .i64 e.k, .int .i64 e.o, .string e.s, .int .i64 e.v, .slice a n c] TX (0, 0))).alloc (.cells #[.string nm] 9 (0, 0))).alloc (.cells #[.int .i64 y.k, .int .i64 y.o, .string y.s, .int .i64 y.v, .slice a2 n2 c2] TX (0, 0))).alloc (.cells #[.int .i64 0, .int .i64 0, .string ⟨#[]⟩, .int .i64 0, .slice none 0 0] TX (0, 0)) = W := ⟨_, rfl⟩
  obtain ⟨t0, t1, t2, t3, b1⟩ := fourBlocks w (.cells #[.int .i64 e.k, .int .i64 e.o, .string e.s, .int .i64 e.v, .slice a n c] TX (0, 0)) (.cells #[.string nm] 9 (0, 0)) (.cells #[.int .i64 y.k, .int .i64 y.o, .string y.s, .int .i64 y.v, .slice a2 n2 c2] TX (0, 0)) (.cells #[.int .i64 0, .int .i64 0, .string ⟨#[]⟩, .int .i64 0, .slice none 0 0] TX (0, 0))
  have hs1 : w1.heap.size = w.heap.size + 4 := by rw [← hw1]; simp
  rw [hw1] at t0 t1 t2 t3 b1
  have Zx_1 : Hid (AtX w1 w.heap.size 0 e (.slice a n c)) := Lib.hid (by refine ⟨?_, ?_, ?_, ?_, ?_⟩ <;> simp [World.cell?, t0])
  have Zy_1 : Hid (AtX w1 (w.heap.size + 1 + 1) 0 y (.slice a2 n2 c2)) := Lib.hid (by refine ⟨?_, ?_, ?_, ?_, ?_⟩ <;> simp [World.cell?, t2])
  have Zn_1 := Lib.hid t1
  have Zr_1 := Lib.hid t3
  have Zs_1 : Hid (w.heap.size + 4 ≤ w1.heap.size) := Lib.hid (by omega)
  have HB1 := Lib.hid b1
  have Xx_1 := Lib.hid (KA.carry hK b1)
  have Xy_1 := Lib.hid (KA.carry hY b1)
  have HFx := Lib.hid hf
  have HFy := Lib.hid hg
  have HNM := Lib.hid hn
  have HW1 := Lib.hid hw1
  simp only [exV]
  clear hK hY hf hg hn t0 t1 t2 t3 b1 hw1 hs1
  go_enter Tryz.func22, Tryz.ntmps22
  by_cases h : ckE e = 0
  · obtain ⟨q1, q2⟩ := ieq h
    have HH1 := Lib.hid h
    have hC2 := check_any e (.slice a n c) w1 Xx_1.out HFx.out
    simp only [exV] at hC2
    rw [h] at hC2
    have HC2 := Lib.hid hC2
    clear hC2
    go_wp2_with fail
    rw [HW1.out]
    refine HC2.out.mono ?_
    rintro e w2 ⟨rfl, b2⟩
    have HB2 := Lib.hid (HB1.out.trans (b2.mono HB1.out.size))
    have Xx_2 := Lib.hid (KA.carry Xx_1.out b2)
    have Xy_2 := Lib.hid (KA.carry Xy_1.out b2)
    have Zx_2 := Lib.hid (AtX.later Zx_1.out b2)
    have Zy_2 := Lib.hid (AtX.later Zy_1.out b2)
    have Zn_2 := Lib.hid (heapZ Zn_1.out b2)
    have Zr_2 := Lib.hid (heapZ Zr_1.out b2)
    have Zs_2 := Lib.hid (sizeZ Zs_1.out b2)
    clear b2 HC2
    clear h q1 q2
    by_cases h : ckE y = 0
    · obtain ⟨q1, q2⟩ := ieq h
      have HH2 := Lib.hid h
      have hC3 := check_any y (.slice a2 n2 c2) w2 Xy_2.out HFy.out
      simp only [exV] at hC3
      rw [h] at hC3
      have HC3 := Lib.hid hC3
      clear hC3
      obtain ⟨qy0, qy1, qy2, qy3, qy4⟩ := Zy_2.out
      simp only [Nat.zero_add] at qy1 qy2 qy3 qy4
      go_wp2_with fail
      refine HC3.out.mono ?_
      rintro e w3 ⟨rfl, b3⟩
      have HB3 := Lib.hid (HB2.out.trans (b3.mono HB2.out.size))
      have Xx_3 := Lib.hid (KA.carry Xx_2.out b3)
      have Xy_3 := Lib.hid (KA.carry Xy_2.out b3)
      have Zx_3 := Lib.hid (AtX.later Zx_2.out b3)
      have Zy_3 := Lib.hid (AtX.later Zy_2.out b3)
      have Zn_3 := Lib.hid (heapZ Zn_2.out b3)
      have Zr_3 := Lib.hid (heapZ Zr_2.out b3)
      have Zs_3 := Lib.hid (sizeZ Zs_2.out b3)
      clear b3 HC3 qy0 qy1 qy2 qy3 qy4
      clear h q1 q2
      have hnc := cell_one Zn_3.out
      cases hv : nmB nm with
      | false =>
        have HE : Hid (subF nm e y = (zeroX, 5)) := Lib.hid (by unfold subF; rw [if_neg (by simp [HH1.out, HH2.out]), if_pos hv])
        have hC4 := isNameB nm w3 HNM.out
        rw [hv] at hC4
        have HC4 := Lib.hid hC4
        clear hC4
        go_wp2_with fail
        refine HC4.out.mono ?_
        rintro e w4 ⟨rfl, b4⟩
        have HB4 := Lib.hid (HB3.out.trans (b4.mono HB3.out.size))
        have Xx_4 := Lib.hid (KA.carry Xx_3.out b4)
        have Xy_4 := Lib.hid (KA.carry Xy_3.out b4)
        have Zx_4 := Lib.hid (AtX.later Zx_3.out b4)
        have Zy_4 := Lib.hid (AtX.later Zy_3.out b4)
        have Zn_4 := Lib.hid (heapZ Zn_3.out b4)
        have Zr_4 := Lib.hid (heapZ Zr_3.out b4)
        have Zs_4 := Lib.hid (sizeZ Zs_3.out b4)
        clear b4 HC4 hnc
        have HH := Lib.hid (setRow_heap w4 (w.heap.size + 1 + 1 + 1) _ #[.int .i64 0, .int .i64 0, .string ⟨#[]⟩, .int .i64 0, .slice none 0 0] _ _ Zr_4.out)
        have HB9 : Hid (Below w.heap.size w (w4.setRow (w.heap.size + 1 + 1 + 1) #[.int .i64 0, .int .i64 0, .string ⟨#[]⟩, .int .i64 0, .slice none 0 0])) := Lib.hid (below_setRow HB4.out (by omega) _)
        have HK9 : Hid (KX (w4.setRow (w.heap.size + 1 + 1 + 1) #[.int .i64 0, .int .i64 0, .string ⟨#[]⟩, .int .i64 0, .slice none 0 0]) zeroX (.slice none 0 0)) := Lib.hid (KA.nil0 _ _)
        go_wp2_with (refine wpList_store_row rfl TX (.tmp 6) (.tmp 22) rfl (w.heap.size + 1 + 1 + 1) #[.int .i64 0, .int .i64 0, .string ⟨#[]⟩, .int .i64 0, .slice none 0 0] rfl rfl _ _ Zr_4.out (by kernel_rfl) rfl (by simp [Value.oneCell']) ?_)
        try simp only [Exit.inBlock, Exit.then]
        have hl := run_loadVar_row (P := Tryz.prog) (w4.setRow (w.heap.size + 1 + 1 + 1) #[.int .i64 0, .int .i64 0, .string ⟨#[]⟩, .int .i64 0, .slice none 0 0]) (w.heap.size + 1 + 1 + 1) _ TX _ (0, 0) _ HH.out Tryz.underlying24 rfl (by kernel_rfl)
        refine bodyPost_ret (v := .tuple #[exV zeroX (.slice none 0 0), .int .i64 5]) ?_ rfl ⟨_, _, _, by rw [HE.out], by rw [HE.out]; exact HK9.out, HB9.out⟩
        rw [results_cell_tmp Tryz.results22]
        simp [asAddr, hl, Result.andThen, exV, zeroX, Ex.k, Ex.o, Ex.s, Ex.v]
        try rfl
      | true =>
        have hC4 := isNameB nm w3 HNM.out
        rw [hv] at hC4
        have HC4 := Lib.hid hC4
        clear hC4
        go_wp2_with fail
        refine HC4.out.mono ?_
        rintro e w4 ⟨rfl, b4⟩
        have HB4 := Lib.hid (HB3.out.trans (b4.mono HB3.out.size))
        have Xx_4 := Lib.hid (KA.carry Xx_3.out b4)
        have Xy_4 := Lib.hid (KA.carry Xy_3.out b4)
        have Zx_4 := Lib.hid (AtX.later Zx_3.out b4)
        have Zy_4 := Lib.hid (AtX.later Zy_3.out b4)
        have Zn_4 := Lib.hid (heapZ Zn_3.out b4)
        have Zr_4 := Lib.hid (heapZ Zr_3.out b4)
        have Zs_4 := Lib.hid (sizeZ Zs_3.out b4)
        clear b4 HC4 hnc
        obtain ⟨r, hr⟩ : ∃ r, sbE nm y e = r := ⟨_, rfl⟩
        have HP := Lib.hid (ckE_ok.1 HH1.out)
        have HQ := Lib.hid (ckE_ok.1 HH2.out)
        have hpr : prE r = 0 := by rw [← hr]; exact sbE_prE nm y HQ.out.2.2 e HP.out.2.2
        have HFr := Lib.hid (prE_fit r hpr)
        clear hpr
        have HSC : Hid (SubC (w.heap.size + 1) (w.heap.size + 1 + 1) nm y (.slice a2 n2 c2) w4) := Lib.hid ⟨Zn_4.out, Zy_4.out, Xy_4.out, HQ.out.2.2, HQ.out.1⟩
        have hre : rpE (sbF nm y) e = r := hr
        have HRE := Lib.hid hr
        clear hr
        have hC5 := repS_any (w.heap.size + 1) (w.heap.size + 1 + 1) nm y (.slice a2 n2 c2) e (.slice a n c) w4 Xx_4.out HSC.out HP.out.2.2 HP.out.1
        rw [hre] at hC5
        simp only [exV] at hC5
        have HC5 := Lib.hid hC5
        clear hC5
        obtain ⟨qx0, qx1, qx2, qx3, qx4⟩ := Zx_4.out
        simp only [Nat.zero_add] at qx1 qx2 qx3 qx4
        go_wp2_with fail
        refine HC5.out.mono ?_
        rintro e w5 ⟨ar, cr, rfl, kr, b5⟩
        have HB5 := Lib.hid (HB4.out.trans (b5.mono HB4.out.size))
        have Xx_5 := Lib.hid (KA.carry Xx_4.out b5)
        have Xy_5 := Lib.hid (KA.carry Xy_4.out b5)
        have Zx_5 := Lib.hid (AtX.later Zx_4.out b5)
        have Zy_5 := Lib.hid (AtX.later Zy_4.out b5)
        have Zn_5 := Lib.hid (heapZ Zn_4.out b5)
        have Zr_5 := Lib.hid (heapZ Zr_4.out b5)
        have Zs_5 := Lib.hid (sizeZ Zs_4.out b5)
        obtain ⟨nr, hnr⟩ : ∃ n, r.es.length = n := ⟨_, rfl⟩
        rw [hnr] at kr
        try simp only [exV]
        rw [hnr]
        have Xr_5 : Hid (KA (fun b => w.heap.size + 4 ≤ b) w5 r.es (.slice ar nr cr)) := Lib.hid (kr.mono fun b _ h => Nat.le_trans Zs_4.out h)
        clear hnr kr
        clear b5 HC5 hre qx0 qx1 qx2 qx3 qx4
        obtain ⟨W6, hW6⟩ : ∃ W, w5.alloc (.cells #[.int .i64 0, .int .i64 0, .string ⟨#[]⟩, .int .i64 0, .slice none 0 0] TX (0, 0)) = W := ⟨_, rfl⟩
        obtain ⟨g1, b6, g3⟩ := varX w5 r (.slice ar nr cr) W6 hW6
        have HG6 := Lib.hid g1
        have HW6 := Lib.hid hW6
        obtain ⟨w6, hw6⟩ : ∃ X, W6.setRow w5.heap.size #[.int .i64 r.k, .int .i64 r.o, .string r.s, .int .i64 r.v, .slice ar nr cr] = X := ⟨_, rfl⟩
        rw [hw6] at b6 g3
        have HB6 := Lib.hid (HB5.out.trans (b6.mono HB5.out.size))
        have Xx_6 := Lib.hid (KA.carry Xx_5.out b6)
        have Xy_6 := Lib.hid (KA.carry Xy_5.out b6)
        have Xr_6 := Lib.hid (KA.carry Xr_5.out b6)
        have Zx_6 := Lib.hid (AtX.later Zx_5.out b6)
        have Zy_6 := Lib.hid (AtX.later Zy_5.out b6)
        have Zn_6 := Lib.hid (heapZ Zn_5.out b6)
        have Zr_6 := Lib.hid (heapZ Zr_5.out b6)
        have Zs_6 := Lib.hid (sizeZ Zs_5.out b6)
        have Zb_6 := Lib.hid g3
        have HV6 := Lib.hid hw6
        clear hW6 g1 g3 hw6 b6
        obtain ⟨qb0, qb1, qb2, qb3, qb4⟩ := Zb_6.out
        simp only [Nat.zero_add] at qb1 qb2 qb3 qb4
        try simp only [exV]
        go_wp2_with (rw [HW6.out]; refine wpList_store_row rfl TX (.tmp 8) (.tmp 25) rfl w5.heap.size #[.int .i64 r.k, .int .i64 r.o, .string r.s, .int .i64 r.v, .slice ar nr cr] rfl rfl _ _ HG6.out (by kernel_rfl) rfl (by simp [Value.oneCell']) ?_; rw [HV6.out])
        have hC7 := check_any r (.slice ar nr cr) w6 Xr_6.out.known HFr.out
        simp only [exV] at hC7
        have HC7 := Lib.hid hC7
        clear hC7
        refine HC7.out.mono ?_
        rintro e w7 ⟨rfl, b7⟩
        have HB7 := Lib.hid (HB6.out.trans (b7.mono HB6.out.size))
        have Xx_7 := Lib.hid (KA.carry Xx_6.out b7)
        have Xy_7 := Lib.hid (KA.carry Xy_6.out b7)
        have Xr_7 := Lib.hid (KA.carry Xr_6.out b7)
        have Zx_7 := Lib.hid (AtX.later Zx_6.out b7)
        have Zy_7 := Lib.hid (AtX.later Zy_6.out b7)
        have Zn_7 := Lib.hid (heapZ Zn_6.out b7)
        have Zr_7 := Lib.hid (heapZ Zr_6.out b7)
        have Zs_7 := Lib.hid (sizeZ Zs_6.out b7)
        have Zb_7 := Lib.hid (AtX.later Zb_6.out b7)
        clear b7 HC7 qb0 qb1 qb2 qb3 qb4
        by_cases h : ckE r = 0
        · obtain ⟨q1, q2⟩ := ieq h
          have HE : Hid (subF nm e y = (r, 0)) := Lib.hid (by unfold subF; rw [if_neg (by simp [HH1.out, HH2.out]), if_neg (by simp [hv]), HRE.out, if_neg (by simp [h])])
          clear h
          have HH := Lib.hid (setRow_heap w7 (w.heap.size + 1 + 1 + 1) _ #[.int .i64 r.k, .int .i64 r.o, .string r.s, .int .i64 r.v, .slice ar nr cr] _ _ Zr_7.out)
          have HB9 : Hid (Below w.heap.size w (w7.setRow (w.heap.size + 1 + 1 + 1) #[.int .i64 r.k, .int .i64 r.o, .string r.s, .int .i64 r.v, .slice ar nr cr])) := Lib.hid (below_setRow HB7.out (by omega) _)
          have HK9 : Hid (KX (w7.setRow (w.heap.size + 1 + 1 + 1) #[.int .i64 r.k, .int .i64 r.o, .string r.s, .int .i64 r.v, .slice ar nr cr]) r (.slice ar nr cr)) := Lib.hid ((KA.put Xr_7.out (g := w.heap.size + 1 + 1 + 1) (by omega) _).known)
          obtain ⟨qb0, qb1, qb2, qb3, qb4⟩ := Zb_7.out
          simp only [Nat.zero_add] at qb1 qb2 qb3 qb4
          go_wp2_with (refine wpList_store_row rfl TX (.tmp 6) (.tmp 32) rfl (w.heap.size + 1 + 1 + 1) #[.int .i64 r.k, .int .i64 r.o, .string r.s, .int .i64 r.v, .slice ar nr cr] rfl rfl _ _ Zr_7.out (by kernel_rfl) rfl (by simp [Value.oneCell']) ?_)
          try simp only [Exit.inBlock, Exit.then]
          have hl := run_loadVar_row (P := Tryz.prog) (w7.setRow (w.heap.size + 1 + 1 + 1) #[.int .i64 r.k, .int .i64 r.o, .string r.s, .int .i64 r.v, .slice ar nr cr]) (w.heap.size + 1 + 1 + 1) _ TX _ (0, 0) _ HH.out Tryz.underlying24 rfl (by kernel_rfl)
          refine bodyPost_ret (v := .tuple #[exV r (.slice ar nr cr), .int .i64 0]) ?_ rfl ⟨_, _, _, by rw [HE.out], by rw [HE.out]; exact HK9.out, HB9.out⟩
          rw [results_cell_tmp Tryz.results22]
          simp [asAddr, hl, Result.andThen, exV]
          try rfl
        · obtain ⟨q1, q2⟩ := ine h
          have HE : Hid (subF nm e y = (zeroX, ckE r)) := Lib.hid (by unfold subF; rw [if_neg (by simp [HH1.out, HH2.out]), if_neg (by simp [hv]), HRE.out, if_pos h])
          clear h
          have HH := Lib.hid (setRow_heap w7 (w.heap.size + 1 + 1 + 1) _ #[.int .i64 0, .int .i64 0, .string ⟨#[]⟩, .int .i64 0, .slice none 0 0] _ _ Zr_7.out)
          have HB9 : Hid (Below w.heap.size w (w7.setRow (w.heap.size + 1 + 1 + 1) #[.int .i64 0, .int .i64 0, .string ⟨#[]⟩, .int .i64 0, .slice none 0 0])) := Lib.hid (below_setRow HB7.out (by omega) _)
          have HK9 : Hid (KX (w7.setRow (w.heap.size + 1 + 1 + 1) #[.int .i64 0, .int .i64 0, .string ⟨#[]⟩, .int .i64 0, .slice none 0 0]) zeroX (.slice none 0 0)) := Lib.hid (KA.nil0 _ _)
          go_wp2_with (refine wpList_store_row rfl TX (.tmp 6) (.tmp 30) rfl (w.heap.size + 1 + 1 + 1) #[.int .i64 0, .int .i64 0, .string ⟨#[]⟩, .int .i64 0, .slice none 0 0] rfl rfl _ _ Zr_7.out (by kernel_rfl) rfl (by simp [Value.oneCell']) ?_)
          try simp only [Exit.inBlock, Exit.then]
          have hl := run_loadVar_row (P := Tryz.prog) (w7.setRow (w.heap.size + 1 + 1 + 1) #[.int .i64 0, .int .i64 0, .string ⟨#[]⟩, .int .i64 0, .slice none 0 0]) (w.heap.size + 1 + 1 + 1) _ TX _ (0, 0) _ HH.out Tryz.underlying24 rfl (by kernel_rfl)
          refine bodyPost_ret (v := .tuple #[exV zeroX (.slice none 0 0), .int .i64 (ckE r)]) ?_ rfl ⟨_, _, _, by rw [HE.out], by rw [HE.out]; exact HK9.out, HB9.out⟩
          rw [results_cell_tmp Tryz.results22]
          simp [asAddr, hl, Result.andThen, exV, zeroX, Ex.k, Ex.o, Ex.s, Ex.v]
          try rfl
    · obtain ⟨q1, q2⟩ := ine h
      have HE : Hid (subF nm e y = (zeroX, 1)) := Lib.hid (by unfold subF; rw [if_pos (.inr h)])
      clear h
      have hC3 := check_any y (.slice a2 n2 c2) w2 Xy_2.out HFy.out
      simp only [exV] at hC3
      have HC3 := Lib.hid hC3
      clear hC3
      obtain ⟨qy0, qy1, qy2, qy3, qy4⟩ := Zy_2.out
      simp only [Nat.zero_add] at qy1 qy2 qy3 qy4
      go_wp2_with fail
      refine HC3.out.mono ?_
      rintro e w3 ⟨rfl, b3⟩
      have HB3 := Lib.hid (HB2.out.trans (b3.mono HB2.out.size))
      have Xx_3 := Lib.hid (KA.carry Xx_2.out b3)
      have Xy_3 := Lib.hid (KA.carry Xy_2.out b3)
      have Zx_3 := Lib.hid (AtX.later Zx_2.out b3)
      have Zy_3 := Lib.hid (AtX.later Zy_2.out b3)
      have Zn_3 := Lib.hid (heapZ Zn_2.out b3)
      have Zr_3 := Lib.hid (heapZ Zr_2.out b3)
      have Zs_3 := Lib.hid (sizeZ Zs_2.out b3)
      clear b3 HC3 qy0 qy1 qy2 qy3 qy4
      have HH := Lib.hid (setRow_heap w3 (w.heap.size + 1 + 1 + 1) _ #[.int .i64 0, .int .i64 0, .string ⟨#[]⟩, .int .i64 0, .slice none 0 0] _ _ Zr_3.out)
      have HB9 : Hid (Below w.heap.size w (w3.setRow (w.heap.size + 1 + 1 + 1) #[.int .i64 0, .int .i64 0, .string ⟨#[]⟩, .int .i64 0, .slice none 0 0])) := Lib.hid (below_setRow HB3.out (by omega) _)
      have HK9 : Hid (KX (w3.setRow (w.heap.size + 1 + 1 + 1) #[.int .i64 0, .int .i64 0, .string ⟨#[]⟩, .int .i64 0, .slice none 0 0]) zeroX (.slice none 0 0)) := Lib.hid (KA.nil0 _ _)
      go_wp2_with (refine wpList_store_row rfl TX (.tmp 6) (.tmp 18) rfl (w.heap.size + 1 + 1 + 1) #[.int .i64 0, .int .i64 0, .string ⟨#[]⟩, .int .i64 0, .slice none 0 0] rfl rfl _ _ Zr_3.out (by kernel_rfl) rfl (by simp [Value.oneCell']) ?_)
      try simp only [Exit.inBlock, Exit.then]
      have hl := run_loadVar_row (P := Tryz.prog) (w3.setRow (w.heap.size + 1 + 1 + 1) #[.int .i64 0, .int .i64 0, .string ⟨#[]⟩, .int .i64 0, .slice none 0 0]) (w.heap.size + 1 + 1 + 1) _ TX _ (0, 0) _ HH.out Tryz.underlying24 rfl (by kernel_rfl)
      refine bodyPost_ret (v := .tuple #[exV zeroX (.slice none 0 0), .int .i64 1]) ?_ rfl ⟨_, _, _, by rw [HE.out], by rw [HE.out]; exact HK9.out, HB9.out⟩
      rw [results_cell_tmp Tryz.results22]
      simp [asAddr, hl, Result.andThen, exV, zeroX, Ex.k, Ex.o, Ex.s, Ex.v]
      try rfl
  · obtain ⟨q1, q2⟩ := ine h
    have HE : Hid (subF nm e y = (zeroX, 1)) := Lib.hid (by unfold subF; rw [if_pos (.inl h)])
    clear h
    have hC2 := check_any e (.slice a n c) w1 Xx_1.out HFx.out
    simp only [exV] at hC2
    have HC2 := Lib.hid hC2
    clear hC2
    go_wp2_with fail
    rw [HW1.out]
    refine HC2.out.mono ?_
    rintro e w2 ⟨rfl, b2⟩
    have HB2 := Lib.hid (HB1.out.trans (b2.mono HB1.out.size))
    have Xx_2 := Lib.hid (KA.carry Xx_1.out b2)
    have Xy_2 := Lib.hid (KA.carry Xy_1.out b2)
    have Zx_2 := Lib.hid (AtX.later Zx_1.out b2)
    have Zy_2 := Lib.hid (AtX.later Zy_1.out b2)
    have Zn_2 := Lib.hid (heapZ Zn_1.out b2)
    have Zr_2 := Lib.hid (heapZ Zr_1.out b2)
    have Zs_2 := Lib.hid (sizeZ Zs_1.out b2)
    clear b2 HC2
    have HH := Lib.hid (setRow_heap w2 (w.heap.size + 1 + 1 + 1) _ #[.int .i64 0, .int .i64 0, .string ⟨#[]⟩, .int .i64 0, .slice none 0 0] _ _ Zr_2.out)
    have HB9 : Hid (Below w.heap.size w (w2.setRow (w.heap.size + 1 + 1 + 1) #[.int .i64 0, .int .i64 0, .string ⟨#[]⟩, .int .i64 0, .slice none 0 0])) := Lib.hid (below_setRow HB2.out (by omega) _)
    have HK9 : Hid (KX (w2.setRow (w.heap.size + 1 + 1 + 1) #[.int .i64 0, .int .i64 0, .string ⟨#[]⟩, .int .i64 0, .slice none 0 0]) zeroX (.slice none 0 0)) := Lib.hid (KA.nil0 _ _)
    go_wp2_with (refine wpList_store_row rfl TX (.tmp 6) (.tmp 18) rfl (w.heap.size + 1 + 1 + 1) #[.int .i64 0, .int .i64 0, .string ⟨#[]⟩, .int .i64 0, .slice none 0 0] rfl rfl _ _ Zr_2.out (by kernel_rfl) rfl (by simp [Value.oneCell']) ?_)
    try simp only [Exit.inBlock, Exit.then]
    have hl := run_loadVar_row (P := Tryz.prog) (w2.setRow (w.heap.size + 1 + 1 + 1) #[.int .i64 0, .int .i64 0, .string ⟨#[]⟩, .int .i64 0, .slice none 0 0]) (w.heap.size + 1 + 1 + 1) _ TX _ (0, 0) _ HH.out Tryz.underlying24 rfl (by kernel_rfl)
    refine bodyPost_ret (v := .tuple #[exV zeroX (.slice none 0 0), .int .i64 1]) ?_ rfl ⟨_, _, _, by rw [HE.out], by rw [HE.out]; exact HK9.out, HB9.out⟩
    rw [results_cell_tmp Tryz.results22]
    simp [asAddr, hl, Result.andThen, exV, zeroX, Ex.k, Ex.o, Ex.s, Ex.v]
    try rfl

end Go.Proofs.YtfgaihajopfmfaaGreatDoor
