/-
  What the reference's literal, fold and Fold return.
-/
import Derived.Test.YtfgaihajopfmfaaGreatDoorExSub
import Derived.Test.YtfgaihajopfmfaaGreatDoorExRefC
namespace Go.Proofs.YtfgaihajopfmfaaGreatDoor
set_option linter.unusedSimpArgs false
set_option linter.unusedVariables false
open Go.RowKit

theorem OwnX.made (φ : Nat → Prop) (w : World) (B : Nat) (hB : B ≤ w.heap.size) : OwnX φ B [] (.slice (some ⟨w.heap.size, 0, none⟩) 0 0) (w.alloc (.cells #[] TX)) := ⟨World.ownsRow_made w #[] 0 hB (Nat.zero_le _) rfl, fun p hp => by cases hp⟩
set_option maxHeartbeats 4000000 in
theorem rlit_any (n : Int) (w : World) (h1 : -1099511627776 ≤ n) (h2 : n ≤ 1099511627776) : Calls Tryz.prog 103 #[.int .i64 n] w (RetE w.heap.size (litX n) w) := by
  by_cases hn : n < 0
  · have HLX : Hid (litX n = .mk 3 1 .empty 0 [numX (-n)]) := Lib.hid (by unfold litX; rw [if_pos hn])
    have hge : decide (0 ≤ n) = false := by simpa using hn
    have hneg : IntKind.i64.wrap (-n) = -n := by rw [IntKind.wrap_i64]; omega
    obtain ⟨W, hW⟩ : ∃ W, (w.alloc (.cells #[.int .i64 0, .int .i64 0, .string ⟨#[]⟩, .int .i64 0, .slice none 0 0] TX (0, 0))).alloc (.cells #[.int .i64 1, .int .i64 0, .string ⟨#[]⟩, .int .i64 (-n), .slice none 0 0] TX (0, 0)) = W := ⟨_, rfl⟩
    obtain ⟨t0, t1, hb⟩ := twoBlocks w (.cells #[.int .i64 0, .int .i64 0, .string ⟨#[]⟩, .int .i64 0, .slice none 0 0] TX (0, 0)) (.cells #[.int .i64 1, .int .i64 0, .string ⟨#[]⟩, .int .i64 (-n), .slice none 0 0] TX (0, 0))
    rw [hW] at t0 t1 hb
    have HW := Lib.hid hW
    have H0 := Lib.hid t0
    have HH4 := Lib.hid (setRow_heap W w.heap.size _ #[.int .i64 3, .int .i64 1, .string ⟨#[]⟩, .int .i64 0, .slice (some ⟨w.heap.size + 1, 0, none⟩) 1 1] _ _ t0)
    have HB9 : Hid (Below w.heap.size w (W.setRow w.heap.size #[.int .i64 3, .int .i64 1, .string ⟨#[]⟩, .int .i64 0, .slice (some ⟨w.heap.size + 1, 0, none⟩) 1 1])) := Lib.hid (below_setRow hb (Nat.le_refl _) _)
    have HK9 : Hid (KA (fun b => w.heap.size ≤ b) (W.setRow w.heap.size #[.int .i64 3, .int .i64 1, .string ⟨#[]⟩, .int .i64 0, .slice (some ⟨w.heap.size + 1, 0, none⟩) 1 1]) [numX (-n)] (.slice (some ⟨w.heap.size + 1, 0, none⟩) 1 1)) := Lib.hid (by
      refine one_known (numX (-n)) (.slice none 0 0) ?_ (KA.nil0 _ _) (by omega)
      rw [setRow_other W w.heap.size _ _ (by omega)]
      exact t1)
    clear hW t0 t1 hb
    go_enter Tryz.func103, Tryz.ntmps103
    go_wp2_with (rw [HW.out]; refine wpList_store_row rfl TX (.tmp 2) (.tmp 11) rfl w.heap.size #[.int .i64 3, .int .i64 1, .string ⟨#[]⟩, .int .i64 0, .slice (some ⟨w.heap.size + 1, 0, none⟩) 1 1] rfl rfl _ _ H0.out (by kernel_rfl) rfl (by simp [Value.oneCell']) ?_)
    try simp only [Exit.inBlock, Exit.then]
    exact bodyPost_ret (results_cell_row (P := Tryz.prog) Tryz.results103 _ _ w.heap.size TX _ (0, 0) _ rfl HH4.out Tryz.underlying24 rfl (by kernel_rfl)) rfl ⟨_, _, by rw [HLX.out]; rfl, by rw [HLX.out]; exact HK9.out, HB9.out⟩
  · have HLX : Hid (litX n = numX n) := Lib.hid (by unfold litX; rw [if_neg hn])
    have hge : decide (0 ≤ n) = true := by simpa using hn
    obtain ⟨W, hW⟩ : ∃ W, w.alloc (.cells #[.int .i64 0, .int .i64 0, .string ⟨#[]⟩, .int .i64 0, .slice none 0 0] TX (0, 0)) = W := ⟨_, rfl⟩
    have hb : Below w.heap.size w W := by rw [← hW]; exact below_allocW w _
    have t0 : W.heap[w.heap.size]? = some (.cells #[.int .i64 0, .int .i64 0, .string ⟨#[]⟩, .int .i64 0, .slice none 0 0] TX (0, 0)) := by rw [← hW]; exact World.alloc_heap_new w _
    have HW := Lib.hid hW
    have H0 := Lib.hid t0
    have HH4 := Lib.hid (setRow_heap W w.heap.size _ #[.int .i64 1, .int .i64 0, .string ⟨#[]⟩, .int .i64 n, .slice none 0 0] _ _ t0)
    have HB9 : Hid (Below w.heap.size w (W.setRow w.heap.size #[.int .i64 1, .int .i64 0, .string ⟨#[]⟩, .int .i64 n, .slice none 0 0])) := Lib.hid (below_setRow hb (Nat.le_refl _) _)
    clear hW t0 hb
    go_enter Tryz.func103, Tryz.ntmps103
    go_wp2_with (rw [HW.out]; refine wpList_store_row rfl TX (.tmp 2) (.tmp 6) rfl w.heap.size #[.int .i64 1, .int .i64 0, .string ⟨#[]⟩, .int .i64 n, .slice none 0 0] rfl rfl _ _ H0.out (by kernel_rfl) rfl (by simp [Value.oneCell']) ?_)
    try simp only [Exit.inBlock, Exit.then]
    exact bodyPost_ret (results_cell_row (P := Tryz.prog) Tryz.results103 _ _ w.heap.size TX _ (0, 0) _ rfl HH4.out Tryz.underlying24 rfl (by kernel_rfl)) rfl ⟨none, 0, by rw [HLX.out]; rfl, by rw [HLX.out]; exact KA.nil0 _ _, HB9.out⟩
set_option maxRecDepth 100000 in
set_option maxHeartbeats 16000000 in
theorem rfold_any (e : Ex) : ∀ (sl : Value) (w : World), KX w e sl → prE e = 0 → szE e ≤ 100 → Calls Tryz.prog 54 #[exV e sl] w (RetE w.heap.size (rpE cnE e) w) := by
  induction e using Ex.ind with
  | h k o s v es ih =>
  intro sl w hK hP hS
  obtain ⟨a, c, sf, rfl, h1, h2, _⟩ := KA.inv hK
  have h1 : es.length ≤ c := h1
  have HIH := Lib.hid ih
  have HB0 : Hid (Below w.heap.size w w) := Lib.hid (Below.refl _ w)
  obtain ⟨w1, hw1⟩ : ∃ W, (w.alloc (.cells #[.int .i64 k, .int .i64 o, .string s, .int .i64 v, .slice a es.length c] TX (0, 0))).alloc (.cells #[.int .i64 0, .int .i64 0, .string ⟨#[]⟩, .int .i64 0, .slice none 0 0] TX (0, 0)) = W := ⟨_, rfl⟩
  obtain ⟨t0, t1, b1⟩ := twoBlocks w (.cells #[.int .i64 k, .int .i64 o, .string s, .int .i64 v, .slice a es.length c] TX (0, 0)) (.cells #[.int .i64 0, .int .i64 0, .string ⟨#[]⟩, .int .i64 0, .slice none 0 0] TX (0, 0))
  have hs1 : w1.heap.size = w.heap.size + 2 := by rw [← hw1]; simp
  rw [hw1] at t0 t1 b1
  have Zx_1 : Hid (AtX w1 w.heap.size 0 (.mk k o s v es) (.slice a es.length c)) := Lib.hid (by refine ⟨?_, ?_, ?_, ?_, ?_⟩ <;> simp [World.cell?, t0, Ex.k, Ex.o, Ex.s, Ex.v])
  have Ze_1 := Lib.hid t0
  have Zr_1 := Lib.hid t1
  have Zs_1 : Hid (w.heap.size + 2 ≤ w1.heap.size) := Lib.hid (by omega)
  have HB1 := Lib.hid b1
  have Xx_1 : Hid (KX w1 (.mk k o s v es) (.slice a es.length c)) := Lib.hid (KA.carry hK b1)
  have XK : Hid (KA (fun b => b < w.heap.size) w es (.slice a es.length c)) := Lib.hid (KA.mono (show KA anyB w es _ from hK) (fun b h _ => h))
  have HPe := Lib.hid hP
  have HSe := Lib.hid hS
  have HPa := Lib.hid (prE_arg hP)
  have HSa : Hid (szL es ≤ 100) := Lib.hid (by simp only [szE] at hS; omega)
  have HLen : Hid (es.length ≤ 100) := Lib.hid (Nat.le_trans (szL_len es) HSa.out)
  have HW1 := Lib.hid hw1
  simp only [exV, Ex.k, Ex.o, Ex.s, Ex.v, Ex.es]
  clear hK hP hS ih t0 t1 b1 hw1 hs1
  go_enter Tryz.func54, Tryz.ntmps54
  obtain ⟨w2, hw2⟩ : ∃ W, w1.alloc (.cells #[] TB (0, 0)) = W := ⟨_, rfl⟩
  have b2 : Below w1.heap.size w1 w2 := by rw [← hw2]; exact below_allocW w1 _
  have HB2 := Lib.hid (HB1.out.trans (b2.mono HB1.out.size))
  have Xx_2 := Lib.hid (KA.carry Xx_1.out b2)
  have Zx_2 := Lib.hid (AtX.later Zx_1.out b2)
  have Ze_2 := Lib.hid (heapZ Ze_1.out b2)
  have Zr_2 := Lib.hid (heapZ Zr_1.out b2)
  have Zs_2 := Lib.hid (sizeZ Zs_1.out b2)
  have HW2 := Lib.hid hw2
  clear hw2 b2
  have HWc : Hid (((w.alloc (.cells #[.int .i64 k, .int .i64 o, .string s, .int .i64 v, .slice a es.length c] TX (0, 0))).alloc (.cells #[.int .i64 0, .int .i64 0, .string ⟨#[]⟩, .int .i64 0, .slice none 0 0] TX (0, 0))).alloc (.cells #[] TB (0, 0)) = w2) := Lib.hid (by rw [HW1.out]; exact HW2.out)
  have hC3 := rtypeOf_any [] (.slice (some ⟨w.heap.size + 1 + 1, 0, none⟩) 0 0) (.mk k o s v es) (.slice a es.length c) w2 Xx_2.out (KB.nil w2 _ 0 (by decide)) HPe.out HSe.out
  simp only [exV, Ex.k, Ex.o, Ex.s, Ex.v] at hC3
  have HC3 := Lib.hid hC3
  clear hC3
  go_wp2_with fail
  rw [HWc.out]
  refine HC3.out.mono ?_
  rintro e w3 ⟨rfl, b3⟩
  have HB3 := Lib.hid (HB2.out.trans (b3.mono HB2.out.size))
  have Xx_3 := Lib.hid (KA.carry Xx_2.out b3)
  have Zx_3 := Lib.hid (AtX.later Zx_2.out b3)
  have Ze_3 := Lib.hid (heapZ Ze_2.out b3)
  have Zr_3 := Lib.hid (heapZ Zr_2.out b3)
  have Zs_3 := Lib.hid (sizeZ Zs_2.out b3)
  clear b3 HC3
  by_cases h2 : (tyE [] (.mk k o s v es)).2 = 0
  · obtain ⟨p1, p2⟩ := ieq h2
    have HT2 := Lib.hid h2
    by_cases h1 : (tyE [] (.mk k o s v es)).1 = 1
    · obtain ⟨p3, p4⟩ := ieq h1
      have HTY : Hid (tyE [] (.mk k o s v es) = (1, 0)) := Lib.hid (by rw [← h1, ← h2])
      rw [HTY.out] at p1 p2 p3 p4 ⊢
      clear h1 h2 p1 p2 p3 p4
      obtain ⟨q0, q1, q2, q3, q4⟩ := Zx_3.out
      simp only [Ex.k, Ex.o, Ex.s, Ex.v, Ex.es, Nat.zero_add] at q0 q1 q2 q3 q4
      obtain ⟨w4, hw4⟩ : ∃ W, w3.alloc (.cells #[] TB (0, 0)) = W := ⟨_, rfl⟩
      have b4 : Below w3.heap.size w3 w4 := by rw [← hw4]; exact below_allocW w3 _
      have HB4 := Lib.hid (HB3.out.trans (b4.mono HB3.out.size))
      have Xx_4 := Lib.hid (KA.carry Xx_3.out b4)
      have Zx_4 := Lib.hid (AtX.later Zx_3.out b4)
      have Ze_4 := Lib.hid (heapZ Ze_3.out b4)
      have Zr_4 := Lib.hid (heapZ Zr_3.out b4)
      have Zs_4 := Lib.hid (sizeZ Zs_3.out b4)
      have HW4 := Lib.hid hw4
      clear hw4 b4
      have hC5 := reval_any [] ckB_nil (.slice (some ⟨w3.heap.size, 0, none⟩) 0 0) (.mk k o s v es) (.slice a es.length c) w4 Xx_4.out (KB.nil w4 _ 0 (by decide)) HPe.out HSe.out HT2.out
      simp only [exV, Ex.k, Ex.o, Ex.s, Ex.v] at hC5
      have HC5 := Lib.hid hC5
      clear hC5
      go_wp2_with fail
      rw [HW4.out]
      refine HC5.out.mono ?_
      rintro e w5 ⟨rfl, b5⟩
      have HB5 := Lib.hid (HB4.out.trans (b5.mono HB4.out.size))
      have Xx_5 := Lib.hid (KA.carry Xx_4.out b5)
      have Zx_5 := Lib.hid (AtX.later Zx_4.out b5)
      have Ze_5 := Lib.hid (heapZ Ze_4.out b5)
      have Zr_5 := Lib.hid (heapZ Zr_4.out b5)
      have Zs_5 := Lib.hid (sizeZ Zs_4.out b5)
      clear b5 HC5 q0 q1 q2 q3 q4
      by_cases h3 : (vlE [] (.mk k o s v es)).2 = 0
      · obtain ⟨p1, p2⟩ := ieq h3
        obtain ⟨V, hV⟩ : ∃ V, (vlE [] (.mk k o s v es)).1 = V := ⟨_, rfl⟩
        have hrg : -1099511627776 ≤ V ∧ V ≤ 1099511627776 := by rw [← hV]; exact ((sound [] ckB_nil (.mk k o s v es) HPe.out 1 HTY.out).ok h3).range
        have HC : Hid (rpE cnE (.mk k o s v es) = litX V) := Lib.hid (rpE_some (by unfold cnE; rw [if_pos ⟨HTY.out, h3⟩, hV]))
        rw [hV]
        clear h3 hV
        have hC6 := rlit_any V w5 hrg.1 hrg.2
        have HC6 := Lib.hid hC6
        clear hC6
        go_wp2_with fail
        refine HC6.out.mono ?_
        rintro e w6 ⟨al, cl, rfl, kl, b6⟩
        have HB6 := Lib.hid (HB5.out.trans (b6.mono HB5.out.size))
        have Xx_6 := Lib.hid (KA.carry Xx_5.out b6)
        have Zx_6 := Lib.hid (AtX.later Zx_5.out b6)
        have Ze_6 := Lib.hid (heapZ Ze_5.out b6)
        have Zr_6 := Lib.hid (heapZ Zr_5.out b6)
        have Zs_6 := Lib.hid (sizeZ Zs_5.out b6)
        obtain ⟨r, hr⟩ : ∃ r, litX V = r := ⟨_, rfl⟩
        rw [hr] at HC kl ⊢
        obtain ⟨nr, hnr⟩ : ∃ n, r.es.length = n := ⟨_, rfl⟩
        rw [hnr] at kl ⊢
        have HRL := Lib.hid (kl.mono (ψ := fun b => w.heap.size + 2 ≤ b) (fun b _ h => Nat.le_trans Zs_5.out h))
        have HNR := Lib.hid hnr
        simp only [exV]
        clear hr hnr kl
        clear b6 HC6
        have HH := Lib.hid (setRow_heap w6 (w.heap.size + 1) _ #[.int .i64 r.k, .int .i64 r.o, .string r.s, .int .i64 r.v, .slice al nr cl] _ _ Zr_6.out)
        have HB9 : Hid (Below w.heap.size w (w6.setRow (w.heap.size + 1) #[.int .i64 r.k, .int .i64 r.o, .string r.s, .int .i64 r.v, .slice al nr cl])) := Lib.hid (below_setRow HB6.out (by omega) _)
        have HK9 := Lib.hid ((KA.put HRL.out (g := w.heap.size + 1) (by omega) #[.int .i64 r.k, .int .i64 r.o, .string r.s, .int .i64 r.v, .slice al nr cl]).mono (ψ := fun b => w.heap.size ≤ b) (fun b _ h => by omega))
        go_wp2_with (refine wpList_store_row rfl TX (.tmp 2) (.tmp 30) rfl (w.heap.size + 1) #[.int .i64 r.k, .int .i64 r.o, .string r.s, .int .i64 r.v, .slice al nr cl] rfl rfl _ _ Zr_6.out (by kernel_rfl) rfl (by simp [Value.oneCell']) ?_)
        try simp only [Exit.inBlock, Exit.then]
        exact bodyPost_ret (results_cell_row (P := Tryz.prog) Tryz.results54 _ _ (w.heap.size + 1) TX _ (0, 0) _ rfl HH.out Tryz.underlying24 rfl (by kernel_rfl)) rfl ⟨al, cl, by rw [HC.out]; simp only [exV, HNR.out], by rw [HC.out, HNR.out]; exact HK9.out, HB9.out⟩
      · obtain ⟨p1, p2⟩ := ine h3
        have HC : Hid (cnE (.mk k o s v es) = none) := Lib.hid (by unfold cnE; rw [if_neg (fun h => h3 h.2)])
        clear h3
        have HE : Hid (rpE cnE (.mk k o s v es) = .mk k o s v (rpL cnE es)) := Lib.hid (rpE_no HC.out)
        obtain ⟨w6, hw6⟩ : ∃ W, w5.alloc (.cells #[] TX (0, 0)) = W := ⟨_, rfl⟩
        have b6 : Below w5.heap.size w5 w6 := by rw [← hw6]; exact below_allocW w5 _
        have HB6 := Lib.hid (HB5.out.trans (b6.mono HB5.out.size))
        have Xx_6 := Lib.hid (KA.carry Xx_5.out b6)
        have Zx_6 := Lib.hid (AtX.later Zx_5.out b6)
        have Ze_6 := Lib.hid (heapZ Ze_5.out b6)
        have Zr_6 := Lib.hid (heapZ Zr_5.out b6)
        have Zs_6 := Lib.hid (sizeZ Zs_5.out b6)
        have HW6 := Lib.hid hw6
        clear hw6 b6
        have HO0 : Hid (OwnX (fun b => w.heap.size + 2 ≤ b) (w.heap.size + 2) [] (.slice (some ⟨w5.heap.size, 0, none⟩) 0 0) w6) := Lib.hid (by rw [← HW6.out]; exact OwnX.made _ w5 _ (by have := Zs_5.out; omega))
        go_wp2
        rw [HW6.out]
        go_loopw [7, 8] (fun y x wr => ∃ (j : Nat) (ps : List (Ex × Value)), j ≤ es.length ∧ x = .int .i64 j ∧ Hid (OwnX (fun b => w.heap.size + 2 ≤ b) (w.heap.size + 2) ps y wr) ∧ Hid (ps.map (·.1) = (es.take j).map (rpE cnE)) ∧ Hid (Below (w.heap.size + 2) w6 wr)) (fun _ x _ => es.length - (intOf x).toNat)
        case atStart => exact ⟨0, [], Nat.zero_le _, rfl, HO0, Lib.hid rfl, Lib.hid (Below.refl _ _)⟩
        case round =>
          obtain ⟨j, ps, hj, rfl, HO, HI, HBr⟩ := hrel
          have HBE : Hid (Below w.heap.size w wr) := Lib.hid (HB6.out.trans (HBr.out.mono (by omega)))
          have Zx_r : Hid (AtX wr w.heap.size 0 (.mk k o s v es) (.slice a es.length c)) := Lib.hid (Zx_6.out.keep (HBr.out.block _ (by omega)))
          have Ze_r := Lib.hid ((HBr.out.block w.heap.size (by omega)).trans Ze_6.out)
          have Zr_r := Lib.hid ((HBr.out.block (w.heap.size + 1) (by omega)).trans Zr_6.out)
          have Zs_r : Hid (w.heap.size + 2 ≤ wr.heap.size) := Lib.hid (Nat.le_trans Zs_6.out HBr.out.size)
          have Xx_r : Hid (KA (fun b => b < w.heap.size) wr es (.slice a es.length c)) := Lib.hid (KA.keep XK.out HBE.out.size (fun b h1 h2 => ⟨h2, HBE.out.block b h2⟩))
          obtain ⟨ya, yc, hyv, _, _⟩ := ownZ_slice HO.out.1
          by_cases hlt : j < es.length
          · have k1 : (j : Int) < (es.length : Int) := by omega
            obtain ⟨yn, hyn⟩ : ∃ n, ps.length = n := ⟨_, rfl⟩
            rw [hyn] at hyv
            subst hyv
            clear hyn
            obtain ⟨sr, hcr⟩ := KA.at_ Xx_r.out
            obtain ⟨hKj, b, off, rfl, hb1, hbl, y0, y1, y2, y3, y4⟩ := hcr j hlt
            obtain ⟨a2, c2, _, hsr, _, _, _⟩ := KA.inv hKj
            obtain ⟨n2, hn2⟩ : ∃ n, (ga es j).es.length = n := ⟨_, rfl⟩
            rw [hn2] at hsr
            rw [hsr] at hKj y4
            have HTM := Lib.hid (take_mapX cnE es j hlt)
            have HPL : Hid (ps.length ≤ 100) := Lib.hid (by have := congrArg List.length HI.out; simp at this; have := HLen.out; omega)
            have HIN := Lib.hid (HIH.out (ga es j) (ga_mem hlt) (.slice a2 n2 c2) wr hKj.known (HPa.out _ (ga_mem hlt)) (Nat.le_trans (szE_arg (ga_mem hlt)) HSa.out))
            simp only [exV] at HIN
            clear hcr hsr hn2 hKj
            obtain ⟨q0, q1, q2, q3, q4⟩ := Zx_r.out
            simp only [Ex.k, Ex.o, Ex.s, Ex.v, Ex.es, Nat.zero_add] at q0 q1 q2 q3 q4
            go_wp2_with fail
            refine HIN.out.mono ?_
            rintro x w7 ⟨a7, c7, rfl, hk7, b7⟩
            obtain ⟨r, hr⟩ : ∃ r, rpE cnE (ga es j) = r := ⟨_, rfl⟩
            rw [hr] at hk7 HTM ⊢
            obtain ⟨n7, hn7⟩ : ∃ n, r.es.length = n := ⟨_, rfl⟩
            rw [hn7] at hk7 ⊢
            have HB7 := Lib.hid (HBr.out.trans (b7.mono (show w.heap.size + 2 ≤ wr.heap.size by have := Zs_r.out; omega)))
            have HO7 := Lib.hid (HO.out.below b7)
            have HOL := Lib.hid HO.out.lt
            have HK7 := Lib.hid hk7
            have HS7 := Lib.hid b7.size
            clear hk7 b7 hr HIN hn7 q0 q1 q2 q3 q4 y0 y1 y2 y3 y4
            simp only [exV]
            obtain ⟨w8, hw8⟩ : ∃ X, w7.alloc (.cells #[.int .i64 r.k, .int .i64 r.o, .string r.s, .int .i64 r.v, .slice a7 n7 c7] TX) = X := ⟨_, rfl⟩
            have hb8 : Below w7.heap.size w7 w8 := by rw [← hw8]; exact below_allocW w7 _
            have h8y := World.alloc_heap_new w7 (.cells #[.int .i64 r.k, .int .i64 r.o, .string r.s, .int .i64 r.v, .slice a7 n7 c7] TX)
            rw [hw8] at h8y
            have HO8 := Lib.hid (HO7.out.below hb8)
            have HK8 := Lib.hid (KA.carry HK7.out hb8)
            have HB8 := Lib.hid (HB7.out.trans (hb8.mono (show w.heap.size + 2 ≤ w7.heap.size by have := HS7.out; have := Zs_r.out; omega)))
            obtain ⟨v9, w9, hr9, ho9, hb9, hs9, hkeep9⟩ := appX w8 (w.heap.size + 2) _ ps r (.slice a7 n7 c7) w7.heap.size HO8.out (HK8.out.mono (fun b _ h => ⟨by have := Zs_r.out; omega, fun e => by have := (HOL.out b e).2; omega⟩)) h8y rfl (by have := HPL.out; omega) (by have := hb8.size; have := HS7.out; have := Zs_r.out; omega)
            have HO9 := Lib.hid ho9
            have HB9 := Lib.hid (HB8.out.trans hb9)
            have HI9 : Hid ((ps ++ [(r, Value.slice a7 n7 c7)]).map (·.1) = (es.take (j + 1)).map (rpE cnE)) := Lib.hid (by rw [HTM.out, List.map_append, HI.out]; rfl)
            have HW8 := Lib.hid hw8
            clear ho9 hb9 hkeep9 h8y hb8 hw8
            go_wp2_with (at_builtin; rw [HW8.out]; refine append_by_run _ rfl _ _ 22 rfl _ _ rfl rfl _ _ hr9 ?_)
            go_roundw
            case rel => exact ⟨j + 1, _, by omega, by go_num, HO9, HI9, HB9⟩
            case measure => simp [intOf]; omega
          · have k1 : ¬ (j : Int) < (es.length : Int) := by omega
            have hje : j = es.length := by omega
            have hpl : ps.length = es.length := by have := congrArg List.length HI.out; simpa [hje] using this
            rw [hpl] at hyv
            subst hyv
            have HE2 : Hid (rpE cnE (.mk k o s v es) = .mk k o s v (ps.map (·.1))) := Lib.hid (by rw [HE.out, rpL_map, HI.out, hje, List.take_length])
            have HEL : Hid ((ps.map (·.1)).length = es.length) := Lib.hid (by rw [List.length_map, hpl])
            obtain ⟨q0, q1, q2, q3, q4⟩ := Zx_r.out
            simp only [Ex.k, Ex.o, Ex.s, Ex.v, Ex.es, Nat.zero_add] at q0 q1 q2 q3 q4
            have hz := heap_setCell_same wr w.heap.size 4 _ TX (.slice ya es.length yc) Ze_r.out
            have hz2 : (wr.setCell ⟨w.heap.size, 4, none⟩ (.slice ya es.length yc)).heap[w.heap.size]? = some (.cells #[.int .i64 k, .int .i64 o, .string s, .int .i64 v, .slice ya es.length yc] TX (0, 0)) := by simpa using hz
            have u0 : (wr.setCell ⟨w.heap.size, 4, none⟩ (.slice ya es.length yc)).cell? ⟨w.heap.size, 0, none⟩ = some (.int .i64 k) := by simp [World.cell?, hz2]
            have u1 : (wr.setCell ⟨w.heap.size, 4, none⟩ (.slice ya es.length yc)).cell? ⟨w.heap.size, 1, none⟩ = some (.int .i64 o) := by simp [World.cell?, hz2]
            have u2 : (wr.setCell ⟨w.heap.size, 4, none⟩ (.slice ya es.length yc)).cell? ⟨w.heap.size, 2, none⟩ = some (.string s) := by simp [World.cell?, hz2]
            have u3 : (wr.setCell ⟨w.heap.size, 4, none⟩ (.slice ya es.length yc)).cell? ⟨w.heap.size, 3, none⟩ = some (.int .i64 v) := by simp [World.cell?, hz2]
            have u4 : (wr.setCell ⟨w.heap.size, 4, none⟩ (.slice ya es.length yc)).cell? ⟨w.heap.size, 4, none⟩ = some (.slice ya es.length yc) := by simp [World.cell?, hz2]
            have hfz := Lib.frozen_of_heap Ze_r.out
            have hr2 : (wr.setCell ⟨w.heap.size, 4, none⟩ (.slice ya es.length yc)).heap[w.heap.size + 1]? = _ := (heap_setCell_other wr ⟨w.heap.size, 4, none⟩ (w.heap.size + 1) (.slice ya es.length yc) (by simp)).trans Zr_r.out
            have HR2 := Lib.hid hr2
            have gC := setC_grown wr w.heap.size 4 (.slice ya es.length yc)
            have HBV : Hid (Below w.heap.size w (wr.setCell ⟨w.heap.size, 4, none⟩ (.slice ya es.length yc))) := Lib.hid (HBE.out.trans ((Below.refl _ wr).grown gC (by have := Zs_r.out; omega) (fun k e => by injection e with e; omega)))
            have HOV := Lib.hid (HO.out.setC (n := w.heap.size) (i := 4) (u := .slice ya es.length yc) (fun e => by have := (HO.out.lt _ e).1; omega) (by omega))
            have HKV := Lib.hid (HOV.out.known.mono (ψ := fun b => w.heap.size + 2 ≤ b) (fun b _ h => by rcases h with h | h <;> omega))
            have HH := Lib.hid (setRow_heap (wr.setCell ⟨w.heap.size, 4, none⟩ (.slice ya es.length yc)) (w.heap.size + 1) _ #[.int .i64 k, .int .i64 o, .string s, .int .i64 v, .slice ya es.length yc] _ _ HR2.out)
            have HB9 : Hid (Below w.heap.size w ((wr.setCell ⟨w.heap.size, 4, none⟩ (.slice ya es.length yc)).setRow (w.heap.size + 1) #[.int .i64 k, .int .i64 o, .string s, .int .i64 v, .slice ya es.length yc])) := Lib.hid (below_setRow HBV.out (by omega) _)
            have HK9 := Lib.hid ((KA.put HKV.out (g := w.heap.size + 1) (by omega) #[.int .i64 k, .int .i64 o, .string s, .int .i64 v, .slice ya es.length yc]).mono (ψ := fun b => w.heap.size ≤ b) (fun b _ h => by omega))
            clear hz hz2 hr2 gC hje hpl
            go_wp2_with (refine wpList_store_row rfl TX (.tmp 2) (.tmp 50) rfl (w.heap.size + 1) #[.int .i64 k, .int .i64 o, .string s, .int .i64 v, .slice ya es.length yc] rfl rfl _ _ HR2.out (by kernel_rfl) rfl (by simp [Value.oneCell']) ?_)
            try simp only [Exit.inBlock, Exit.then]
            exact bodyPost_ret (results_cell_row (P := Tryz.prog) Tryz.results54 _ _ (w.heap.size + 1) TX _ (0, 0) _ rfl HH.out Tryz.underlying24 rfl (by kernel_rfl)) rfl ⟨ya, yc, by rw [HE2.out]; simp only [exV, Ex.k, Ex.o, Ex.s, Ex.v, Ex.es, HEL.out], by rw [HE2.out]; simp only [Ex.es, HEL.out]; exact HK9.out, HB9.out⟩
    · obtain ⟨p3, p4⟩ := ine h1
      have HC : Hid (cnE (.mk k o s v es) = none) := Lib.hid (by unfold cnE; rw [if_neg (fun h => h1 (by rw [h.1]))])
      clear h1
      have HE : Hid (rpE cnE (.mk k o s v es) = .mk k o s v (rpL cnE es)) := Lib.hid (rpE_no HC.out)
      obtain ⟨w4, hw4⟩ : ∃ W, w3.alloc (.cells #[] TX (0, 0)) = W := ⟨_, rfl⟩
      have b4 : Below w3.heap.size w3 w4 := by rw [← hw4]; exact below_allocW w3 _
      have HB4 := Lib.hid (HB3.out.trans (b4.mono HB3.out.size))
      have Xx_4 := Lib.hid (KA.carry Xx_3.out b4)
      have Zx_4 := Lib.hid (AtX.later Zx_3.out b4)
      have Ze_4 := Lib.hid (heapZ Ze_3.out b4)
      have Zr_4 := Lib.hid (heapZ Zr_3.out b4)
      have Zs_4 := Lib.hid (sizeZ Zs_3.out b4)
      have HW4 := Lib.hid hw4
      clear hw4 b4
      have HO0 : Hid (OwnX (fun b => w.heap.size + 2 ≤ b) (w.heap.size + 2) [] (.slice (some ⟨w3.heap.size, 0, none⟩) 0 0) w4) := Lib.hid (by rw [← HW4.out]; exact OwnX.made _ w3 _ (by have := Zs_3.out; omega))
      go_wp2
      rw [HW4.out]
      go_loopw [7, 8] (fun y x wr => ∃ (j : Nat) (ps : List (Ex × Value)), j ≤ es.length ∧ x = .int .i64 j ∧ Hid (OwnX (fun b => w.heap.size + 2 ≤ b) (w.heap.size + 2) ps y wr) ∧ Hid (ps.map (·.1) = (es.take j).map (rpE cnE)) ∧ Hid (Below (w.heap.size + 2) w4 wr)) (fun _ x _ => es.length - (intOf x).toNat)
      case atStart => exact ⟨0, [], Nat.zero_le _, rfl, HO0, Lib.hid rfl, Lib.hid (Below.refl _ _)⟩
      case round =>
        obtain ⟨j, ps, hj, rfl, HO, HI, HBr⟩ := hrel
        have HBE : Hid (Below w.heap.size w wr) := Lib.hid (HB4.out.trans (HBr.out.mono (by omega)))
        have Zx_r : Hid (AtX wr w.heap.size 0 (.mk k o s v es) (.slice a es.length c)) := Lib.hid (Zx_4.out.keep (HBr.out.block _ (by omega)))
        have Ze_r := Lib.hid ((HBr.out.block w.heap.size (by omega)).trans Ze_4.out)
        have Zr_r := Lib.hid ((HBr.out.block (w.heap.size + 1) (by omega)).trans Zr_4.out)
        have Zs_r : Hid (w.heap.size + 2 ≤ wr.heap.size) := Lib.hid (Nat.le_trans Zs_4.out HBr.out.size)
        have Xx_r : Hid (KA (fun b => b < w.heap.size) wr es (.slice a es.length c)) := Lib.hid (KA.keep XK.out HBE.out.size (fun b h1 h2 => ⟨h2, HBE.out.block b h2⟩))
        obtain ⟨ya, yc, hyv, _, _⟩ := ownZ_slice HO.out.1
        by_cases hlt : j < es.length
        · have k1 : (j : Int) < (es.length : Int) := by omega
          obtain ⟨yn, hyn⟩ : ∃ n, ps.length = n := ⟨_, rfl⟩
          rw [hyn] at hyv
          subst hyv
          clear hyn
          obtain ⟨sr, hcr⟩ := KA.at_ Xx_r.out
          obtain ⟨hKj, b, off, rfl, hb1, hbl, y0, y1, y2, y3, y4⟩ := hcr j hlt
          obtain ⟨a2, c2, _, hsr, _, _, _⟩ := KA.inv hKj
          obtain ⟨n2, hn2⟩ : ∃ n, (ga es j).es.length = n := ⟨_, rfl⟩
          rw [hn2] at hsr
          rw [hsr] at hKj y4
          have HTM := Lib.hid (take_mapX cnE es j hlt)
          have HPL : Hid (ps.length ≤ 100) := Lib.hid (by have := congrArg List.length HI.out; simp at this; have := HLen.out; omega)
          have HIN := Lib.hid (HIH.out (ga es j) (ga_mem hlt) (.slice a2 n2 c2) wr hKj.known (HPa.out _ (ga_mem hlt)) (Nat.le_trans (szE_arg (ga_mem hlt)) HSa.out))
          simp only [exV] at HIN
          clear hcr hsr hn2 hKj
          obtain ⟨q0, q1, q2, q3, q4⟩ := Zx_r.out
          simp only [Ex.k, Ex.o, Ex.s, Ex.v, Ex.es, Nat.zero_add] at q0 q1 q2 q3 q4
          go_wp2_with fail
          refine HIN.out.mono ?_
          rintro x w7 ⟨a7, c7, rfl, hk7, b7⟩
          obtain ⟨r, hr⟩ : ∃ r, rpE cnE (ga es j) = r := ⟨_, rfl⟩
          rw [hr] at hk7 HTM ⊢
          obtain ⟨n7, hn7⟩ : ∃ n, r.es.length = n := ⟨_, rfl⟩
          rw [hn7] at hk7 ⊢
          have HB7 := Lib.hid (HBr.out.trans (b7.mono (show w.heap.size + 2 ≤ wr.heap.size by have := Zs_r.out; omega)))
          have HO7 := Lib.hid (HO.out.below b7)
          have HOL := Lib.hid HO.out.lt
          have HK7 := Lib.hid hk7
          have HS7 := Lib.hid b7.size
          clear hk7 b7 hr HIN hn7 q0 q1 q2 q3 q4 y0 y1 y2 y3 y4
          simp only [exV]
          obtain ⟨w8, hw8⟩ : ∃ X, w7.alloc (.cells #[.int .i64 r.k, .int .i64 r.o, .string r.s, .int .i64 r.v, .slice a7 n7 c7] TX) = X := ⟨_, rfl⟩
          have hb8 : Below w7.heap.size w7 w8 := by rw [← hw8]; exact below_allocW w7 _
          have h8y := World.alloc_heap_new w7 (.cells #[.int .i64 r.k, .int .i64 r.o, .string r.s, .int .i64 r.v, .slice a7 n7 c7] TX)
          rw [hw8] at h8y
          have HO8 := Lib.hid (HO7.out.below hb8)
          have HK8 := Lib.hid (KA.carry HK7.out hb8)
          have HB8 := Lib.hid (HB7.out.trans (hb8.mono (show w.heap.size + 2 ≤ w7.heap.size by have := HS7.out; have := Zs_r.out; omega)))
          obtain ⟨v9, w9, hr9, ho9, hb9, hs9, hkeep9⟩ := appX w8 (w.heap.size + 2) _ ps r (.slice a7 n7 c7) w7.heap.size HO8.out (HK8.out.mono (fun b _ h => ⟨by have := Zs_r.out; omega, fun e => by have := (HOL.out b e).2; omega⟩)) h8y rfl (by have := HPL.out; omega) (by have := hb8.size; have := HS7.out; have := Zs_r.out; omega)
          have HO9 := Lib.hid ho9
          have HB9 := Lib.hid (HB8.out.trans hb9)
          have HI9 : Hid ((ps ++ [(r, Value.slice a7 n7 c7)]).map (·.1) = (es.take (j + 1)).map (rpE cnE)) := Lib.hid (by rw [HTM.out, List.map_append, HI.out]; rfl)
          have HW8 := Lib.hid hw8
          clear ho9 hb9 hkeep9 h8y hb8 hw8
          go_wp2_with (at_builtin; rw [HW8.out]; refine append_by_run _ rfl _ _ 22 rfl _ _ rfl rfl _ _ hr9 ?_)
          go_roundw
          case rel => exact ⟨j + 1, _, by omega, by go_num, HO9, HI9, HB9⟩
          case measure => simp [intOf]; omega
        · have k1 : ¬ (j : Int) < (es.length : Int) := by omega
          have hje : j = es.length := by omega
          have hpl : ps.length = es.length := by have := congrArg List.length HI.out; simpa [hje] using this
          rw [hpl] at hyv
          subst hyv
          have HE2 : Hid (rpE cnE (.mk k o s v es) = .mk k o s v (ps.map (·.1))) := Lib.hid (by rw [HE.out, rpL_map, HI.out, hje, List.take_length])
          have HEL : Hid ((ps.map (·.1)).length = es.length) := Lib.hid (by rw [List.length_map, hpl])
          obtain ⟨q0, q1, q2, q3, q4⟩ := Zx_r.out
          simp only [Ex.k, Ex.o, Ex.s, Ex.v, Ex.es, Nat.zero_add] at q0 q1 q2 q3 q4
          have hz := heap_setCell_same wr w.heap.size 4 _ TX (.slice ya es.length yc) Ze_r.out
          have hz2 : (wr.setCell ⟨w.heap.size, 4, none⟩ (.slice ya es.length yc)).heap[w.heap.size]? = some (.cells #[.int .i64 k, .int .i64 o, .string s, .int .i64 v, .slice ya es.length yc] TX (0, 0)) := by simpa using hz
          have u0 : (wr.setCell ⟨w.heap.size, 4, none⟩ (.slice ya es.length yc)).cell? ⟨w.heap.size, 0, none⟩ = some (.int .i64 k) := by simp [World.cell?, hz2]
          have u1 : (wr.setCell ⟨w.heap.size, 4, none⟩ (.slice ya es.length yc)).cell? ⟨w.heap.size, 1, none⟩ = some (.int .i64 o) := by simp [World.cell?, hz2]
          have u2 : (wr.setCell ⟨w.heap.size, 4, none⟩ (.slice ya es.length yc)).cell? ⟨w.heap.size, 2, none⟩ = some (.string s) := by simp [World.cell?, hz2]
          have u3 : (wr.setCell ⟨w.heap.size, 4, none⟩ (.slice ya es.length yc)).cell? ⟨w.heap.size, 3, none⟩ = some (.int .i64 v) := by simp [World.cell?, hz2]
          have u4 : (wr.setCell ⟨w.heap.size, 4, none⟩ (.slice ya es.length yc)).cell? ⟨w.heap.size, 4, none⟩ = some (.slice ya es.length yc) := by simp [World.cell?, hz2]
          have hfz := Lib.frozen_of_heap Ze_r.out
          have hr2 : (wr.setCell ⟨w.heap.size, 4, none⟩ (.slice ya es.length yc)).heap[w.heap.size + 1]? = _ := (heap_setCell_other wr ⟨w.heap.size, 4, none⟩ (w.heap.size + 1) (.slice ya es.length yc) (by simp)).trans Zr_r.out
          have HR2 := Lib.hid hr2
          have gC := setC_grown wr w.heap.size 4 (.slice ya es.length yc)
          have HBV : Hid (Below w.heap.size w (wr.setCell ⟨w.heap.size, 4, none⟩ (.slice ya es.length yc))) := Lib.hid (HBE.out.trans ((Below.refl _ wr).grown gC (by have := Zs_r.out; omega) (fun k e => by injection e with e; omega)))
          have HOV := Lib.hid (HO.out.setC (n := w.heap.size) (i := 4) (u := .slice ya es.length yc) (fun e => by have := (HO.out.lt _ e).1; omega) (by omega))
          have HKV := Lib.hid (HOV.out.known.mono (ψ := fun b => w.heap.size + 2 ≤ b) (fun b _ h => by rcases h with h | h <;> omega))
          have HH := Lib.hid (setRow_heap (wr.setCell ⟨w.heap.size, 4, none⟩ (.slice ya es.length yc)) (w.heap.size + 1) _ #[.int .i64 k, .int .i64 o, .string s, .int .i64 v, .slice ya es.length yc] _ _ HR2.out)
          have HB9 : Hid (Below w.heap.size w ((wr.setCell ⟨w.heap.size, 4, none⟩ (.slice ya es.length yc)).setRow (w.heap.size + 1) #[.int .i64 k, .int .i64 o, .string s, .int .i64 v, .slice ya es.length yc])) := Lib.hid (below_setRow HBV.out (by omega) _)
          have HK9 := Lib.hid ((KA.put HKV.out (g := w.heap.size + 1) (by omega) #[.int .i64 k, .int .i64 o, .string s, .int .i64 v, .slice ya es.length yc]).mono (ψ := fun b => w.heap.size ≤ b) (fun b _ h => by omega))
          clear hz hz2 hr2 gC hje hpl
          go_wp2_with (refine wpList_store_row rfl TX (.tmp 2) (.tmp 50) rfl (w.heap.size + 1) #[.int .i64 k, .int .i64 o, .string s, .int .i64 v, .slice ya es.length yc] rfl rfl _ _ HR2.out (by kernel_rfl) rfl (by simp [Value.oneCell']) ?_)
          try simp only [Exit.inBlock, Exit.then]
          exact bodyPost_ret (results_cell_row (P := Tryz.prog) Tryz.results54 _ _ (w.heap.size + 1) TX _ (0, 0) _ rfl HH.out Tryz.underlying24 rfl (by kernel_rfl)) rfl ⟨ya, yc, by rw [HE2.out]; simp only [exV, Ex.k, Ex.o, Ex.s, Ex.v, Ex.es, HEL.out], by rw [HE2.out]; simp only [Ex.es, HEL.out]; exact HK9.out, HB9.out⟩
  · obtain ⟨p1, p2⟩ := ine h2
    have HC : Hid (cnE (.mk k o s v es) = none) := Lib.hid (by unfold cnE; rw [if_neg (fun h => h2 (by rw [h.1]))])
    clear h2
    have HE : Hid (rpE cnE (.mk k o s v es) = .mk k o s v (rpL cnE es)) := Lib.hid (rpE_no HC.out)
    obtain ⟨w4, hw4⟩ : ∃ W, w3.alloc (.cells #[] TX (0, 0)) = W := ⟨_, rfl⟩
    have b4 : Below w3.heap.size w3 w4 := by rw [← hw4]; exact below_allocW w3 _
    have HB4 := Lib.hid (HB3.out.trans (b4.mono HB3.out.size))
    have Xx_4 := Lib.hid (KA.carry Xx_3.out b4)
    have Zx_4 := Lib.hid (AtX.later Zx_3.out b4)
    have Ze_4 := Lib.hid (heapZ Ze_3.out b4)
    have Zr_4 := Lib.hid (heapZ Zr_3.out b4)
    have Zs_4 := Lib.hid (sizeZ Zs_3.out b4)
    have HW4 := Lib.hid hw4
    clear hw4 b4
    have HO0 : Hid (OwnX (fun b => w.heap.size + 2 ≤ b) (w.heap.size + 2) [] (.slice (some ⟨w3.heap.size, 0, none⟩) 0 0) w4) := Lib.hid (by rw [← HW4.out]; exact OwnX.made _ w3 _ (by have := Zs_3.out; omega))
    go_wp2
    rw [HW4.out]
    go_loopw [7, 8] (fun y x wr => ∃ (j : Nat) (ps : List (Ex × Value)), j ≤ es.length ∧ x = .int .i64 j ∧ Hid (OwnX (fun b => w.heap.size + 2 ≤ b) (w.heap.size + 2) ps y wr) ∧ Hid (ps.map (·.1) = (es.take j).map (rpE cnE)) ∧ Hid (Below (w.heap.size + 2) w4 wr)) (fun _ x _ => es.length - (intOf x).toNat)
    case atStart => exact ⟨0, [], Nat.zero_le _, rfl, HO0, Lib.hid rfl, Lib.hid (Below.refl _ _)⟩
    case round =>
      obtain ⟨j, ps, hj, rfl, HO, HI, HBr⟩ := hrel
      have HBE : Hid (Below w.heap.size w wr) := Lib.hid (HB4.out.trans (HBr.out.mono (by omega)))
      have Zx_r : Hid (AtX wr w.heap.size 0 (.mk k o s v es) (.slice a es.length c)) := Lib.hid (Zx_4.out.keep (HBr.out.block _ (by omega)))
      have Ze_r := Lib.hid ((HBr.out.block w.heap.size (by omega)).trans Ze_4.out)
      have Zr_r := Lib.hid ((HBr.out.block (w.heap.size + 1) (by omega)).trans Zr_4.out)
      have Zs_r : Hid (w.heap.size + 2 ≤ wr.heap.size) := Lib.hid (Nat.le_trans Zs_4.out HBr.out.size)
      have Xx_r : Hid (KA (fun b => b < w.heap.size) wr es (.slice a es.length c)) := Lib.hid (KA.keep XK.out HBE.out.size (fun b h1 h2 => ⟨h2, HBE.out.block b h2⟩))
      obtain ⟨ya, yc, hyv, _, _⟩ := ownZ_slice HO.out.1
      by_cases hlt : j < es.length
      · have k1 : (j : Int) < (es.length : Int) := by omega
        obtain ⟨yn, hyn⟩ : ∃ n, ps.length = n := ⟨_, rfl⟩
        rw [hyn] at hyv
        subst hyv
        clear hyn
        obtain ⟨sr, hcr⟩ := KA.at_ Xx_r.out
        obtain ⟨hKj, b, off, rfl, hb1, hbl, y0, y1, y2, y3, y4⟩ := hcr j hlt
        obtain ⟨a2, c2, _, hsr, _, _, _⟩ := KA.inv hKj
        obtain ⟨n2, hn2⟩ : ∃ n, (ga es j).es.length = n := ⟨_, rfl⟩
        rw [hn2] at hsr
        rw [hsr] at hKj y4
        have HTM := Lib.hid (take_mapX cnE es j hlt)
        have HPL : Hid (ps.length ≤ 100) := Lib.hid (by have := congrArg List.length HI.out; simp at this; have := HLen.out; omega)
        have HIN := Lib.hid (HIH.out (ga es j) (ga_mem hlt) (.slice a2 n2 c2) wr hKj.known (HPa.out _ (ga_mem hlt)) (Nat.le_trans (szE_arg (ga_mem hlt)) HSa.out))
        simp only [exV] at HIN
        clear hcr hsr hn2 hKj
        obtain ⟨q0, q1, q2, q3, q4⟩ := Zx_r.out
        simp only [Ex.k, Ex.o, Ex.s, Ex.v, Ex.es, Nat.zero_add] at q0 q1 q2 q3 q4
        go_wp2_with fail
        refine HIN.out.mono ?_
        rintro x w7 ⟨a7, c7, rfl, hk7, b7⟩
        obtain ⟨r, hr⟩ : ∃ r, rpE cnE (ga es j) = r := ⟨_, rfl⟩
        rw [hr] at hk7 HTM ⊢
        obtain ⟨n7, hn7⟩ : ∃ n, r.es.length = n := ⟨_, rfl⟩
        rw [hn7] at hk7 ⊢
        have HB7 := Lib.hid (HBr.out.trans (b7.mono (show w.heap.size + 2 ≤ wr.heap.size by have := Zs_r.out; omega)))
        have HO7 := Lib.hid (HO.out.below b7)
        have HOL := Lib.hid HO.out.lt
        have HK7 := Lib.hid hk7
        have HS7 := Lib.hid b7.size
        clear hk7 b7 hr HIN hn7 q0 q1 q2 q3 q4 y0 y1 y2 y3 y4
        simp only [exV]
        obtain ⟨w8, hw8⟩ : ∃ X, w7.alloc (.cells #[.int .i64 r.k, .int .i64 r.o, .string r.s, .int .i64 r.v, .slice a7 n7 c7] TX) = X := ⟨_, rfl⟩
        have hb8 : Below w7.heap.size w7 w8 := by rw [← hw8]; exact below_allocW w7 _
        have h8y := World.alloc_heap_new w7 (.cells #[.int .i64 r.k, .int .i64 r.o, .string r.s, .int .i64 r.v, .slice a7 n7 c7] TX)
        rw [hw8] at h8y
        have HO8 := Lib.hid (HO7.out.below hb8)
        have HK8 := Lib.hid (KA.carry HK7.out hb8)
        have HB8 := Lib.hid (HB7.out.trans (hb8.mono (show w.heap.size + 2 ≤ w7.heap.size by have := HS7.out; have := Zs_r.out; omega)))
        obtain ⟨v9, w9, hr9, ho9, hb9, hs9, hkeep9⟩ := appX w8 (w.heap.size + 2) _ ps r (.slice a7 n7 c7) w7.heap.size HO8.out (HK8.out.mono (fun b _ h => ⟨by have := Zs_r.out; omega, fun e => by have := (HOL.out b e).2; omega⟩)) h8y rfl (by have := HPL.out; omega) (by have := hb8.size; have := HS7.out; have := Zs_r.out; omega)
        have HO9 := Lib.hid ho9
        have HB9 := Lib.hid (HB8.out.trans hb9)
        have HI9 : Hid ((ps ++ [(r, Value.slice a7 n7 c7)]).map (·.1) = (es.take (j + 1)).map (rpE cnE)) := Lib.hid (by rw [HTM.out, List.map_append, HI.out]; rfl)
        have HW8 := Lib.hid hw8
        clear ho9 hb9 hkeep9 h8y hb8 hw8
        go_wp2_with (at_builtin; rw [HW8.out]; refine append_by_run _ rfl _ _ 22 rfl _ _ rfl rfl _ _ hr9 ?_)
        go_roundw
        case rel => exact ⟨j + 1, _, by omega, by go_num, HO9, HI9, HB9⟩
        case measure => simp [intOf]; omega
      · have k1 : ¬ (j : Int) < (es.length : Int) := by omega
        have hje : j = es.length := by omega
        have hpl : ps.length = es.length := by have := congrArg List.length HI.out; simpa [hje] using this
        rw [hpl] at hyv
        subst hyv
        have HE2 : Hid (rpE cnE (.mk k o s v es) = .mk k o s v (ps.map (·.1))) := Lib.hid (by rw [HE.out, rpL_map, HI.out, hje, List.take_length])
        have HEL : Hid ((ps.map (·.1)).length = es.length) := Lib.hid (by rw [List.length_map, hpl])
        obtain ⟨q0, q1, q2, q3, q4⟩ := Zx_r.out
        simp only [Ex.k, Ex.o, Ex.s, Ex.v, Ex.es, Nat.zero_add] at q0 q1 q2 q3 q4
        have hz := heap_setCell_same wr w.heap.size 4 _ TX (.slice ya es.length yc) Ze_r.out
        have hz2 : (wr.setCell ⟨w.heap.size, 4, none⟩ (.slice ya es.length yc)).heap[w.heap.size]? = some (.cells #[.int .i64 k, .int .i64 o, .string s, .int .i64 v, .slice ya es.length yc] TX (0, 0)) := by simpa using hz
        have u0 : (wr.setCell ⟨w.heap.size, 4, none⟩ (.slice ya es.length yc)).cell? ⟨w.heap.size, 0, none⟩ = some (.int .i64 k) := by simp [World.cell?, hz2]
        have u1 : (wr.setCell ⟨w.heap.size, 4, none⟩ (.slice ya es.length yc)).cell? ⟨w.heap.size, 1, none⟩ = some (.int .i64 o) := by simp [World.cell?, hz2]
        have u2 : (wr.setCell ⟨w.heap.size, 4, none⟩ (.slice ya es.length yc)).cell? ⟨w.heap.size, 2, none⟩ = some (.string s) := by simp [World.cell?, hz2]
        have u3 : (wr.setCell ⟨w.heap.size, 4, none⟩ (.slice ya es.length yc)).cell? ⟨w.heap.size, 3, none⟩ = some (.int .i64 v) := by simp [World.cell?, hz2]
        have u4 : (wr.setCell ⟨w.heap.size, 4, none⟩ (.slice ya es.length yc)).cell? ⟨w.heap.size, 4, none⟩ = some (.slice ya es.length yc) := by simp [World.cell?, hz2]
        have hfz := Lib.frozen_of_heap Ze_r.out
        have hr2 : (wr.setCell ⟨w.heap.size, 4, none⟩ (.slice ya es.length yc)).heap[w.heap.size + 1]? = _ := (heap_setCell_other wr ⟨w.heap.size, 4, none⟩ (w.heap.size + 1) (.slice ya es.length yc) (by simp)).trans Zr_r.out
        have HR2 := Lib.hid hr2
        have gC := setC_grown wr w.heap.size 4 (.slice ya es.length yc)
        have HBV : Hid (Below w.heap.size w (wr.setCell ⟨w.heap.size, 4, none⟩ (.slice ya es.length yc))) := Lib.hid (HBE.out.trans ((Below.refl _ wr).grown gC (by have := Zs_r.out; omega) (fun k e => by injection e with e; omega)))
        have HOV := Lib.hid (HO.out.setC (n := w.heap.size) (i := 4) (u := .slice ya es.length yc) (fun e => by have := (HO.out.lt _ e).1; omega) (by omega))
        have HKV := Lib.hid (HOV.out.known.mono (ψ := fun b => w.heap.size + 2 ≤ b) (fun b _ h => by rcases h with h | h <;> omega))
        have HH := Lib.hid (setRow_heap (wr.setCell ⟨w.heap.size, 4, none⟩ (.slice ya es.length yc)) (w.heap.size + 1) _ #[.int .i64 k, .int .i64 o, .string s, .int .i64 v, .slice ya es.length yc] _ _ HR2.out)
        have HB9 : Hid (Below w.heap.size w ((wr.setCell ⟨w.heap.size, 4, none⟩ (.slice ya es.length yc)).setRow (w.heap.size + 1) #[.int .i64 k, .int .i64 o, .string s, .int .i64 v, .slice ya es.length yc])) := Lib.hid (below_setRow HBV.out (by omega) _)
        have HK9 := Lib.hid ((KA.put HKV.out (g := w.heap.size + 1) (by omega) #[.int .i64 k, .int .i64 o, .string s, .int .i64 v, .slice ya es.length yc]).mono (ψ := fun b => w.heap.size ≤ b) (fun b _ h => by omega))
        clear hz hz2 hr2 gC hje hpl
        go_wp2_with (refine wpList_store_row rfl TX (.tmp 2) (.tmp 50) rfl (w.heap.size + 1) #[.int .i64 k, .int .i64 o, .string s, .int .i64 v, .slice ya es.length yc] rfl rfl _ _ HR2.out (by kernel_rfl) rfl (by simp [Value.oneCell']) ?_)
        try simp only [Exit.inBlock, Exit.then]
        exact bodyPost_ret (results_cell_row (P := Tryz.prog) Tryz.results54 _ _ (w.heap.size + 1) TX _ (0, 0) _ rfl HH.out Tryz.underlying24 rfl (by kernel_rfl)) rfl ⟨ya, yc, by rw [HE2.out]; simp only [exV, Ex.k, Ex.o, Ex.s, Ex.v, Ex.es, HEL.out], by rw [HE2.out]; simp only [Ex.es, HEL.out]; exact HK9.out, HB9.out⟩

end Go.Proofs.YtfgaihajopfmfaaGreatDoor
