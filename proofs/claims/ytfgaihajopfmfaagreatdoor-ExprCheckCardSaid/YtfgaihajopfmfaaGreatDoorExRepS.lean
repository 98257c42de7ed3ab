/-
  The program's replace, by its function (S).
-/
import Derived.Test.YtfgaihajopfmfaaGreatDoorExSubst1
namespace Go.Proofs.YtfgaihajopfmfaaGreatDoor
set_option linter.unusedSimpArgs false
set_option linter.unusedVariables false
open Go.RowKit

set_option maxRecDepth 100000 in
set_option maxHeartbeats 8000000 in
theorem repS_any (bn bb : Nat) (nm : ByteArray) (by_ : Ex) (slb : Value) (e : Ex) : ∀ (sl : Value) (w : World), KX w e sl → (SubC bn bb nm by_ slb) w → prE e = 0 → szE e ≤ 100 →
    Calls Tryz.prog 51 #[exV e sl, .func (.func 56) #[] #[.pointer (some ⟨bn, 0, none⟩), .pointer (some ⟨bb, 0, none⟩)]] w (RetE w.heap.size (rpE (sbF nm by_) e) w) := by
  induction e using Ex.ind with
  | h k o s v es ih =>
  intro sl w hK hC hP hS
  obtain ⟨a, c, sf, rfl, h1, h2, hc⟩ := KA.inv hK
  have h1 : es.length ≤ c := h1
  have HIH := Lib.hid ih
  obtain ⟨w1, hw1⟩ : ∃ W, (w.alloc (.cells #[.int .i64 k, .int .i64 o, .string s, .int .i64 v, .slice a es.length c] TX (0, 0))).alloc (.cells #[.int .i64 0, .int .i64 0, .string ⟨#[]⟩, .int .i64 0, .slice none 0 0] TX (0, 0)) = W := ⟨_, rfl⟩
  obtain ⟨t0, t1, hb1⟩ := twoBlocks w (.cells #[.int .i64 k, .int .i64 o, .string s, .int .i64 v, .slice a es.length c] TX (0, 0)) (.cells #[.int .i64 0, .int .i64 0, .string ⟨#[]⟩, .int .i64 0, .slice none 0 0] TX (0, 0))
  rw [hw1] at t0 t1 hb1
  have HX1 : Hid (AtX w1 w.heap.size 0 (.mk k o s v es) (.slice a es.length c)) := Lib.hid (by
    refine ⟨?_, ?_, ?_, ?_, ?_⟩ <;> simp [World.cell?, t0, Ex.k, Ex.o, Ex.s, Ex.v])
  have HR1 := Lib.hid t1
  have HK1 : Hid (KX w1 (.mk k o s v es) (.slice a es.length c)) := Lib.hid (hK.carry hb1)
  have HC1 := Lib.hid (SubC.carry hC hb1)
  have HB1 := Lib.hid hb1
  have HW := Lib.hid hw1
  have HP := Lib.hid (prE_arg hP)
  have HS : Hid (szL es ≤ 100) := Lib.hid (by simp only [szE] at hS; omega)
  have HLen : Hid (es.length ≤ 100) := Lib.hid (Nat.le_trans (szL_len es) HS.out)
  have HIN := Lib.hid (subst1_any bn bb nm by_ slb (.mk k o s v es) (.slice a es.length c) w1 HK1.out HC1.out)
  simp only [exV, Ex.k, Ex.o, Ex.s, Ex.v, Ex.es] at *
  clear hc ih hK hC hP hS hb1 hw1 t0 t1
  go_enter Tryz.func51, Tryz.ntmps51
  go_wp2_with fail
  rw [HW.out]
  refine HIN.out.mono ?_
  rintro x w4 ⟨a4, c4, rfl, hk4, b4⟩
  have HB4 := Lib.hid (HB1.out.trans (b4.mono HB1.out.size))
  have HR4 := Lib.hid ((b4.block _ (Array.getElem?_eq_some_iff.1 HR1.out).1).trans HR1.out)
  have HX4 := Lib.hid (HX1.out.keep (b4.block _ HX1.out.lt))
  have HK4 := Lib.hid (HK1.out.carry b4)
  have HC4 := Lib.hid (SubC.carry HC1.out b4)
  have HKR := Lib.hid hk4
  clear hk4 b4 HIN
  cases hf : (sbF nm by_) (.mk k o s v es) with
  | some r =>
    have HE : Hid (rpE (sbF nm by_) (.mk k o s v es) = r) := Lib.hid (rpE_some hf)
    rw [hf] at HKR
    simp only [Option.getD_some, Option.isSome_some, exV] at HKR ⊢
    have HSZ := Lib.hid (show w1.heap.size = w.heap.size + 2 by rw [← HW.out]; simp)
    obtain ⟨V, hV⟩ : ∃ V, w4.alloc (.cells #[.int .i64 r.k, .int .i64 r.o, .string r.s, .int .i64 r.v, .slice a4 r.es.length c4] TX (0, 0)) = V := ⟨_, rfl⟩
    have hbV : Below w4.heap.size w4 V := by rw [← hV]; exact below_allocW w4 _
    have H2 := Lib.hid ((hbV.block _ (Array.getElem?_eq_some_iff.1 HR4.out).1).trans HR4.out)
    have HB5 := Lib.hid (HB4.out.trans (hbV.mono HB4.out.size))
    have HKV := Lib.hid (KA.carry HKR.out hbV)
    have HV := Lib.hid hV
    have HH4 := Lib.hid (setRow_heap V (w.heap.size + 1) _ #[.int .i64 r.k, .int .i64 r.o, .string r.s, .int .i64 r.v, .slice a4 r.es.length c4] _ _ H2.out)
    have HB9 : Hid (Below w.heap.size w (V.setRow (w.heap.size + 1) #[.int .i64 r.k, .int .i64 r.o, .string r.s, .int .i64 r.v, .slice a4 r.es.length c4])) := Lib.hid (below_setRow HB5.out (by omega) _)
    have HK9 := Lib.hid ((KA.put HKV.out (g := w.heap.size + 1) (by have := HSZ.out; omega) #[.int .i64 r.k, .int .i64 r.o, .string r.s, .int .i64 r.v, .slice a4 r.es.length c4]).mono (ψ := fun b => w.heap.size ≤ b) (fun b _ h => by have := HSZ.out; omega))
    clear hf hbV hV
    go_wp2_with (rw [HV.out]; refine wpList_store_row rfl TX (.tmp 4) (.tmp 17) rfl (w.heap.size + 1) #[.int .i64 r.k, .int .i64 r.o, .string r.s, .int .i64 r.v, .slice a4 r.es.length c4] rfl rfl _ _ H2.out (by kernel_rfl) rfl (by simp [Value.oneCell']) ?_)
    try simp only [Exit.inBlock, Exit.then]
    exact bodyPost_ret (results_cell_row (P := Tryz.prog) Tryz.results51 _ _ (w.heap.size + 1) TX _ (0, 0) _ rfl HH4.out Tryz.underlying24 rfl (by kernel_rfl)) rfl ⟨a4, c4, by rw [HE.out]; rfl, by rw [HE.out]; exact HK9.out, HB9.out⟩
  | none =>
    have HE : Hid (rpE (sbF nm by_) (.mk k o s v es) = .mk k o s v (rpL (sbF nm by_) es)) := Lib.hid (rpE_no hf)
    simp only [Option.getD_none, Option.isSome_none, exV, zeroX, Ex.k, Ex.o, Ex.s, Ex.v, Ex.es, List.length_nil] at HKR ⊢
    obtain ⟨x0, x1, x2, x3, x4⟩ := HX4.out
    simp only [Ex.k, Ex.o, Ex.s, Ex.v, Ex.es, Nat.zero_add] at x0 x1 x2 x3 x4
    have HSZ := Lib.hid (show w1.heap.size = w.heap.size + 2 by rw [← HW.out]; simp)
    have hl4 : w.heap.size < w4.heap.size := HX4.out.lt
    obtain ⟨w6, hw6⟩ : ∃ X, (w4.alloc (.cells #[.int .i64 0, .int .i64 0, .string .empty, .int .i64 0, .slice a4 0 c4] TX (0, 0))).alloc (.cells #[.int .i64 k, .int .i64 o, .string s, .int .i64 v, .slice none 0 0] TX (0, 0)) = X := ⟨_, rfl⟩
    obtain ⟨_, t6, hb6⟩ := twoBlocks w4 (.cells #[.int .i64 0, .int .i64 0, .string .empty, .int .i64 0, .slice a4 0 c4] TX (0, 0)) (.cells #[.int .i64 k, .int .i64 o, .string s, .int .i64 v, .slice none 0 0] TX (0, 0))
    have hs6 : w6.heap.size = w4.heap.size + 2 := by rw [← hw6]; simp
    rw [hw6] at t6 hb6
    have HW6 := Lib.hid hw6
    have HS6 := Lib.hid hs6
    have HH6 := Lib.hid t6
    have HB6 := Lib.hid hb6
    clear hf hw6 hs6 t6 hb6 HKR
    go_wp2
    rw [HW6.out]
    go_loopw [30] (fun x wr => ∃ (j : Nat) (ps : List (Ex × Value)) (yv : Value), j ≤ es.length ∧ x = .int .i64 j ∧ Hid (wr.heap[w4.heap.size + 1]? = some (.cells #[.int .i64 k, .int .i64 o, .string s, .int .i64 v, yv] TX (0, 0))) ∧ Hid (OwnX (fun b => w4.heap.size + 1 < b) (w4.heap.size + 2) ps yv wr) ∧ Hid (ps.map (·.1) = (es.take j).map (rpE (sbF nm by_))) ∧ Hid (Below (w4.heap.size + 1) w6 wr)) (fun x _ => es.length - (intOf x).toNat)
    case atStart => exact ⟨0, [], .slice none 0 0, Nat.zero_le _, rfl, HH6, Lib.hid (OwnX.nil _ _ _), Lib.hid rfl, Lib.hid (Below.refl _ w6)⟩
    case round =>
      obtain ⟨j, ps, yv, hj, rfl, HY, HO, HI, HB⟩ := hrel
      have HBw := Lib.hid (HB6.out.trans (HB.out.mono (Nat.le_succ _)))
      have HKr := Lib.hid (HK4.out.carry HBw.out)
      have HCr := Lib.hid (SubC.carry HC4.out HBw.out)
      have HSr := Lib.hid (show w4.heap.size + 2 ≤ wr.heap.size by have := HB.out.size; have := HS6.out; omega)
      by_cases hlt : j < es.length
      · have k1 : (j : Int) < (es.length : Int) := by omega
        obtain ⟨sr, hcr⟩ := KA.at_ (show KA anyB wr es _ from HKr.out)
        obtain ⟨hKj, b, off, rfl, _, hbl, y0, y1, y2, y3, y4⟩ := hcr j hlt
        obtain ⟨a2, c2, _, hsr, _, _, _⟩ := KA.inv hKj
        obtain ⟨n2', hn2⟩ : ∃ n, (ga es j).es.length = n := ⟨_, rfl⟩
        rw [hn2] at hsr
        rw [hsr] at hKj y4
        obtain ⟨ya, yc, hyv, _, _⟩ := ownZ_slice HO.out.1
        obtain ⟨yn, hyn⟩ : ∃ n, ps.length = n := ⟨_, rfl⟩
        rw [hyn] at hyv
        subst hyv
        obtain ⟨wb, hwb⟩ : ∃ X, wr.alloc (.cells #[.int .i64 (ga es j).k, .int .i64 (ga es j).o, .string (ga es j).s, .int .i64 (ga es j).v, .slice a2 n2' c2] TX) = X := ⟨_, rfl⟩
        have hbb : Below wr.heap.size wr wb.drew := by rw [← hwb]; exact (below_allocW wr _).drew
        have hbx := World.alloc_heap_new wr (.cells #[.int .i64 (ga es j).k, .int .i64 (ga es j).o, .string (ga es j).s, .int .i64 (ga es j).v, .slice a2 n2' c2] TX)
        rw [hwb] at hbx
        have hyb := (hbb.block _ (Array.getElem?_eq_some_iff.1 HY.out).1).trans HY.out
        have HST : Hid (RpS (w4.heap.size + 1) wr.heap.size (.slice ya yn yc) (ga es j) (.slice a2 n2' c2) wb.drew) := Lib.hid (by
          have hbx : wb.drew.heap[wr.heap.size]? = _ := hbx
          refine ⟨?_, ?_, ?_, ?_, ?_, ?_⟩
          · simp [World.cell?, hyb]
          all_goals simp [World.cell?, hbx])
        have HBb := Lib.hid (HB.out.trans (hbb.mono (show w4.heap.size + 1 ≤ wr.heap.size by have := HSr.out; omega)))
        have HOb := Lib.hid (HO.out.below hbb)
        have HYb := Lib.hid hyb
        have HZb := Lib.hid (show wr.heap.size < wb.drew.heap.size from (Array.getElem?_eq_some_iff.1 hbx).1)
        have HIN := Lib.hid (HIH.out (ga es j) (ga_mem hlt) (.slice a2 n2' c2) wb.drew (KA.carry hKj hbb) (SubC.carry HCr.out hbb) (HP.out _ (ga_mem hlt)) (Nat.le_trans (szE_arg (ga_mem hlt)) HS.out))
        have HTM := Lib.hid (take_mapX (sbF nm by_) es j hlt)
        have HPL : Hid (ps.length ≤ 100) := Lib.hid (by have := congrArg List.length HI.out; simp at this; have := HLen.out; omega)
        have HWB := Lib.hid hwb
        clear hKj hcr hsr hn2 hbb hwb hbx hyb hyn
        go_wp2_with fail
        rw [HWB.out]
        refine wp_region_T (RpS (w4.heap.size + 1) wr.heap.size (.slice ya yn yc) (ga es j) (.slice a2 n2' c2)) 7 (by kernel_rfl) ?_
        change wpAnyT _ _ _ _ _ _ _ _ _ wb.drew
        generalize wb.drew = W1 at HST HBb HOb HYb HZb HIN ⊢
        refine wpAnyT_read (i := 0) (v := .pointer (some ⟨w4.heap.size + 1, 4, none⟩)) rfl (by kernel_rfl) (by kernel_rfl) (by kernel_rfl) (by kernel_rfl) (by rfl) (by kernel_rfl) (fun _ _ _ h => h) (by rfl) (fun _ _ => by rfl) HST.out ?_
        simp only [Act.put, List.setIfInBounds_toArray, List.set_cons_zero, List.set_cons_succ]
        refine wpAnyT_read (i := 1) (v := .slice ya yn yc) rfl (by kernel_rfl) (by kernel_rfl) (by kernel_rfl) (by kernel_rfl) (by rfl) (by kernel_rfl) (fun _ _ _ h => h) (by rfl) (by rintro V ⟨h0, h1, h2, h3, h4, h5⟩; go_simp) HST.out ?_
        simp only [Act.put, List.setIfInBounds_toArray, List.set_cons_zero, List.set_cons_succ]
        refine wpAnyT_read (i := 2) (v := .agg #[.int .i64 (ga es j).k, .int .i64 (ga es j).o, .string (ga es j).s, .int .i64 (ga es j).v, .slice a2 n2' c2]) rfl (by kernel_rfl) (by kernel_rfl) (by kernel_rfl) (by kernel_rfl) (by rfl) (by kernel_rfl) (fun _ _ _ h => h) (by rfl) (by rintro V ⟨h0, h1, h2, h3, h4, h5⟩; go_simp) HST.out ?_
        simp only [Act.put, List.setIfInBounds_toArray, List.set_cons_zero, List.set_cons_succ]
        refine wpAnyT_read (i := 3) (v := .func (.func 56) #[] #[.pointer (some ⟨bn, 0, none⟩), .pointer (some ⟨bb, 0, none⟩)]) rfl (by kernel_rfl) (by kernel_rfl) (by kernel_rfl) (by kernel_rfl) (by rfl) (by kernel_rfl) (fun _ _ _ h => h) (by rfl) (fun _ _ => by rfl) HST.out ?_
        simp only [Act.put, List.setIfInBounds_toArray, List.set_cons_zero, List.set_cons_succ]
        refine wpAnyT_next (i := 4) rfl (by kernel_rfl) ?_
        go_wp2_with fail
        refine HIN.out.mono ?_
        rintro x w7 ⟨a7, c7, rfl, hk7, b7⟩
        obtain ⟨r, hr⟩ : ∃ r, rpE (sbF nm by_) (ga es j) = r := ⟨_, rfl⟩
        rw [hr] at hk7 HTM ⊢
        have HST7 := Lib.hid (HST.out.keep b7)
        have HB7 := Lib.hid (HBb.out.trans (b7.mono (show w4.heap.size + 1 ≤ W1.heap.size by have := HSr.out; have := HZb.out; omega)))
        have HO7 := Lib.hid (HOb.out.below b7)
        have HY7 := Lib.hid ((b7.block _ (Array.getElem?_eq_some_iff.1 HYb.out).1).trans HYb.out)
        have HZ7 := Lib.hid (Nat.lt_of_lt_of_le HZb.out b7.size)
        have HOL := Lib.hid HOb.out.lt
        have HK7 := Lib.hid hk7
        have HS7 := Lib.hid b7.size
        simp only [exV]
        clear hk7 b7 hr HIN
        go_wp2_with fail
        refine ⟨fun _ => HST7.out, ?_⟩
        refine wpAnyT_next (i := 5) rfl (by kernel_rfl) ?_
        go_wp2_with fail
        obtain ⟨w8, hw8⟩ : ∃ X, w7.alloc (.cells #[.int .i64 r.k, .int .i64 r.o, .string r.s, .int .i64 r.v, .slice a7 r.es.length c7] TX) = X := ⟨_, rfl⟩
        have hb8 : Below w7.heap.size w7 w8 := by rw [← hw8]; exact below_allocW w7 _
        have h8y := World.alloc_heap_new w7 (.cells #[.int .i64 r.k, .int .i64 r.o, .string r.s, .int .i64 r.v, .slice a7 r.es.length c7] TX)
        rw [hw8] at h8y
        have HO8 := Lib.hid (HO7.out.below hb8)
        have HK8 := Lib.hid (KA.carry HK7.out hb8)
        have HST8 := Lib.hid (HST7.out.keep hb8)
        have HY8 := Lib.hid ((hb8.block _ (Array.getElem?_eq_some_iff.1 HY7.out).1).trans HY7.out)
        have HB8 := Lib.hid (HB7.out.trans (hb8.mono (show w4.heap.size + 1 ≤ w7.heap.size by have := HSr.out; have := HZ7.out; omega)))
        have HZ8 := Lib.hid (Nat.lt_of_lt_of_le HZ7.out hb8.size)
        obtain ⟨v', w9, hr9, ho9, hb9, hs9, hkeep9⟩ := appX w8 (w4.heap.size + 2) (.slice ya yn yc) ps r (.slice a7 r.es.length c7) w7.heap.size HO8.out (HK8.out.mono (fun b _ h => ⟨by have := HS7.out; have := HSr.out; have := HZb.out; omega, fun e => by have := (HOL.out b e).2; omega⟩)) h8y rfl (by have := HPL.out; omega) (by have := HSr.out; have := HZ8.out; omega)
        have HOL8 := Lib.hid HO8.out.lt
        have HST9 : Hid (RpS (w4.heap.size + 1) wr.heap.size (.slice ya yn yc) (ga es j) (.slice a2 n2' c2) w9) := Lib.hid (HST8.out.keepB (hkeep9 _ HST8.out.lt.1 (fun e => by have := (HO.out.lt _ e).1; omega)) (hkeep9 _ HST8.out.lt.2 (fun e => by have := (HO.out.lt _ e).2; omega)))
        have HY9 := Lib.hid ((hkeep9 _ HST8.out.lt.1 (fun e => by have := (HO.out.lt _ e).1; omega)).trans HY8.out)
        have HB9 := Lib.hid (HB8.out.trans (hb9.mono (Nat.le_succ _)))
        have HO9 := Lib.hid ho9
        obtain ⟨za, zc, hzv, _, _⟩ := ownZ_slice ho9.1
        obtain ⟨zn, hzn⟩ : ∃ n, (ps ++ [(r, Value.slice a7 r.es.length c7)]).length = n := ⟨_, rfl⟩
        rw [hzn] at hzv
        subst hzv
        rw [hw8]
        refine ⟨fun _ => HST8.out, ?_⟩
        clear ho9 hb9 hkeep9 h8y hb8 hzn
        refine wpAnyT_next (i := 6) rfl (by kernel_rfl) ?_
        go_wp2_with (at_builtin; refine append_by_run _ rfl _ _ 22 rfl _ _ rfl rfl _ _ hr9 ?_)
        refine And.intro (by first | exact HST9.out | exact fun _ => HST9.out) ?_
        clear hr9
        refine wpAnyT_next (i := 7) rfl (by kernel_rfl) ?_
        go_wp2_with fail
        refine And.intro (by first | trivial | exact fun h => (by simp at h) | exact fun h => (by cases h)) ?_
        have c4' := HST9.out.1
        have hfz := Lib.frozen_of_heap HY9.out
        refine wpAnyT_next (i := 8) rfl (by kernel_rfl) ?_
        go_wp2_with fail
        have HY10 : Hid ((w9.setCell ⟨w4.heap.size + 1, 4, none⟩ (.slice za zn zc)).heap[w4.heap.size + 1]? = some (.cells #[.int .i64 k, .int .i64 o, .string s, .int .i64 v, .slice za zn zc] TX (0, 0))) := Lib.hid (by
          have := heap_setCell_same w9 (w4.heap.size + 1) 4 _ TX (.slice za zn zc) HY9.out
          simpa using this)
        have HO10 := Lib.hid (HO9.out.setC (n := w4.heap.size + 1) (i := 4) (u := .slice za zn zc) (fun e => by have := (HO9.out.lt _ e).1; omega) (by omega))
        have HB10 : Hid (Below (w4.heap.size + 1) w6 (w9.setCell ⟨w4.heap.size + 1, 4, none⟩ (.slice za zn zc))) := Lib.hid (HB9.out.trans ((Below.refl _ w9).grown (setC_grown w9 _ _ _) (Nat.le_of_lt HST9.out.lt.1) (fun k e => by injection e with e; omega)))
        have HI10 : Hid ((ps ++ [(r, Value.slice a7 r.es.length c7)]).map (·.1) = (es.take (j + 1)).map (rpE (sbF nm by_))) := Lib.hid (by rw [HTM.out, List.map_append, HI.out]; rfl)
        refine And.intro (by first | trivial | exact fun h => (by simp at h) | exact fun h => (by cases h)) ?_
        refine wpAnyT_done (by kernel_rfl) ?_ _
        clear c4' hfz
        go_wp2
        go_roundw
        case rel => exact ⟨j + 1, _, _, by omega, by go_num, HY10, HO10, HI10, HB10⟩
        case measure => simp [intOf]; omega
      · have k1 : ¬ (j : Int) < (es.length : Int) := by omega
        have hje : j = es.length := by omega
        obtain ⟨ya, yc, hyv, _, _⟩ := ownZ_slice HO.out.1
        have hpl : ps.length = es.length := by have := congrArg List.length HI.out; simpa [hje] using this
        rw [hpl] at hyv
        subst hyv
        have HE2 : Hid (rpE (sbF nm by_) (.mk k o s v es) = .mk k o s v (ps.map (·.1))) := Lib.hid (by rw [HE.out, rpL_map, HI.out, hje, List.take_length])
        have HEL : Hid ((ps.map (·.1)).length = es.length) := Lib.hid (by rw [List.length_map, hpl])
        have H2 : Hid (wr.heap[w.heap.size + 1]? = some (.cells #[.int .i64 0, .int .i64 0, .string ⟨#[]⟩, .int .i64 0, .slice none 0 0] TX (0, 0))) := Lib.hid ((HBw.out.block _ (Array.getElem?_eq_some_iff.1 HR4.out).1).trans HR4.out)
        have HB5 := Lib.hid (HB4.out.trans (HBw.out.mono HB4.out.size))
        have hne : w.heap.size + 1 < w4.heap.size := (Array.getElem?_eq_some_iff.1 HR4.out).1
        have HKV := Lib.hid (HO.out.known.mono (ψ := fun b => w.heap.size + 2 ≤ b) (fun b _ h => by rcases h with h | h <;> omega))
        have z0 : wr.cell? ⟨w4.heap.size + 1, 0, none⟩ = some (.int .i64 k) := by simp [World.cell?, HY.out]
        have z1 : wr.cell? ⟨w4.heap.size + 1, 1, none⟩ = some (.int .i64 o) := by simp [World.cell?, HY.out]
        have z2 : wr.cell? ⟨w4.heap.size + 1, 2, none⟩ = some (.string s) := by simp [World.cell?, HY.out]
        have z3 : wr.cell? ⟨w4.heap.size + 1, 3, none⟩ = some (.int .i64 v) := by simp [World.cell?, HY.out]
        have z4 : wr.cell? ⟨w4.heap.size + 1, 4, none⟩ = some (.slice ya es.length yc) := by simp [World.cell?, HY.out]
        have HH4 := Lib.hid (setRow_heap wr (w.heap.size + 1) _ #[.int .i64 k, .int .i64 o, .string s, .int .i64 v, .slice ya es.length yc] _ _ H2.out)
        have HB9 : Hid (Below w.heap.size w (wr.setRow (w.heap.size + 1) #[.int .i64 k, .int .i64 o, .string s, .int .i64 v, .slice ya es.length yc])) := Lib.hid (below_setRow HB5.out (by omega) _)
        have HK9 := Lib.hid ((KA.put HKV.out (g := w.heap.size + 1) (by omega) #[.int .i64 k, .int .i64 o, .string s, .int .i64 v, .slice ya es.length yc]).mono (ψ := fun b => w.heap.size ≤ b) (fun b _ h => by omega))
        clear hje hpl hne
        go_wp2_with (refine wpList_store_row rfl TX (.tmp 4) (.tmp 43) rfl (w.heap.size + 1) #[.int .i64 k, .int .i64 o, .string s, .int .i64 v, .slice ya es.length yc] rfl rfl _ _ H2.out (by kernel_rfl) rfl (by simp [Value.oneCell']) ?_)
        try simp only [Exit.inBlock, Exit.then]
        exact bodyPost_ret (results_cell_row (P := Tryz.prog) Tryz.results51 _ _ (w.heap.size + 1) TX _ (0, 0) _ rfl HH4.out Tryz.underlying24 rfl (by kernel_rfl)) rfl ⟨ya, yc, by rw [HE2.out]; simp only [exV, Ex.k, Ex.o, Ex.s, Ex.v, Ex.es, HEL.out], by rw [HE2.out]; simp only [Ex.es, HEL.out]; exact HK9.out, HB9.out⟩

end Go.Proofs.YtfgaihajopfmfaaGreatDoor
