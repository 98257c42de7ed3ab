/-
  What the reference's Push of waiters returns.
-/
import Derived.Deep.RegionHeld3
import Derived.Test.YtonjempbphnimaaHeldTop
import Derived.Test.YtonjempbphnimaaWlRefChk
import Derived.Test.YtonjempbphnimaaWlApp
import Derived.Test.YtonjempbphnimaaWlPush
namespace Go.Proofs.Ytonjempbphnimaa
open Go.RowKit Go.Shelf

theorem plc_back {ts : List Wl} {p : Int} {k : Nat} (hk : k ≤ ts.length) (hs : ts.Pairwise PrioGe) (h1 : ∀ q, k ≤ q → q < ts.length → (gw ts q).2.2.2.1 < p) (h2 : 0 < k → ¬ (gw ts (k - 1)).2.2.2.1 < p) : plcW 2 ts p = k := by
  unfold plcW
  rw [if_neg (by decide)]
  refine len_takeWhileW hk (fun j hj => ?_) (fun hlt => ?_)
  · have hlast := h2 (by omega)
    by_cases e : j = k - 1
    · subst e
      simp
      omega
    · have hp : PrioGe (gw ts j) (gw ts (k - 1)) := by
        have := List.pairwise_iff_getElem.1 hs j (k - 1) (by omega) (by omega) (by omega)
        unfold gw
        rw [List.getElem?_eq_getElem (by omega), List.getElem?_eq_getElem (by omega)]
        exact this
      unfold PrioGe at hp
      simp
      omega
  · have := h1 k (Nat.le_refl _) hlt
    simp
    omega

set_option maxRecDepth 100000 in
set_option maxHeartbeats 8000000 in
theorem rwPush_any (v : Value) (kd : Int) (ts : List Wl) (a b c d f : Int) (w : World) (hK : KwC w v ts) :
    Calls Try.prog 14 #[.int .i64 kd, v, .agg #[.int .i64 a, .int .i64 b, .int .i64 c, .int .i64 d, .int .i64 f]] w (RetW (pshQ kd ts (a, b, c, d, f)) (pshE kd ts (a, b, c, d, f)) w) := by
  obtain ⟨ad, cap, rfl, hc1, hc2, hA⟩ := hK
  obtain ⟨w1, hw1⟩ : ∃ W, w.alloc (.cells #[.int .i64 a, .int .i64 b, .int .i64 c, .int .i64 d, .int .i64 f] TW) = W := ⟨_, rfl⟩
  have hb1 : Below w.heap.size w w1 := by rw [← hw1]; exact (Below.refl _ w).alloc (Nat.le_refl _) _
  have hx1 : At5 w1 w.heap.size 0 (a, b, c, d, f) := by rw [← hw1]; exact box5 w a b c d f
  have hA1 := hA.below hb1
  have hCK := rwCheck_any _ ad cap kd ts w1 hA1 (by omega)
  have HA1 := Lib.hid hA1
  have HX1 := Lib.hid hx1
  have HB1 := Lib.hid hb1
  have HW1 := Lib.hid hw1
  clear hA hA1 hx1 hb1 hw1
  by_cases hc : wchE kd ts = 0
  · have hl96 := (wchE_iff.1 hc).2.1
    have hkind := (wchE_iff.1 hc).1
    have hqu := (wchE_iff.1 hc).2.2.2
    rw [hc] at hCK
    have HCK := Lib.hid hCK
    clear hCK
    have hT := fun W => rValid_any a b c d f W
    cases ho : okW (a, b, c, d, f) with
    | false =>
      have he : pshE kd ts (a, b, c, d, f) = 2 := by unfold pshE; rw [if_neg (by simp [hc]), if_pos ho]
      have hr : pshQ kd ts (a, b, c, d, f) = [] := by unfold pshQ; rw [if_neg (by rw [he]; decide)]
      rw [he, hr]
      simp only [ho] at hT
      have HT := Lib.hid hT
      clear hc he hr ho hT hkind hqu
      go_enter Try.func14, Try.ntmps14
      go_wp2_with fail
      rw [HW1.out]
      refine HCK.out.mono ?_
      rintro e w2 ⟨rfl, b2⟩
      have HB2 := Lib.hid (HB1.out.trans (b2.mono HB1.out.size))
      obtain ⟨p0, p1, p2, p3, p4⟩ := HX1.out.below b2
      simp only [Nat.zero_add] at p0 p1 p2 p3 p4
      clear b2
      go_wp2_with fail
      refine (HT.out _).mono ?_
      rintro e w3 ⟨rfl, b3⟩
      have HB3 := Lib.hid ((HB2.out.trans (b3.mono HB2.out.size)).alloc (Nat.le_trans HB2.out.size b3.size) (.cells #[] TW))
      clear b3 p0 p1 p2 p3 p4
      go_wp2
      go_ret2
      exact ⟨_, rfl, FwC.nil _ _ _ _ (by omega), HB3.out⟩
    | true =>
      simp only [ho] at hT
      have HT := Lib.hid hT
      by_cases h96 : ts.length = 96
      · have he : pshE kd ts (a, b, c, d, f) = 4 := by unfold pshE; rw [if_neg (by simp [hc]), if_neg (by simp [ho]), if_pos h96]
        have hr : pshQ kd ts (a, b, c, d, f) = [] := by unfold pshQ; rw [if_neg (by rw [he]; decide)]
        rw [he, hr]
        have b96 : ((ts.length : Int) == 96) = true := by rw [h96]; rfl
        clear hc he hr ho hT h96 hkind hqu
        go_enter Try.func14, Try.ntmps14
        go_wp2_with fail
        rw [HW1.out]
        refine HCK.out.mono ?_
        rintro e w2 ⟨rfl, b2⟩
        have HB2 := Lib.hid (HB1.out.trans (b2.mono HB1.out.size))
        obtain ⟨p0, p1, p2, p3, p4⟩ := HX1.out.below b2
        simp only [Nat.zero_add] at p0 p1 p2 p3 p4
        clear b2
        go_wp2_with fail
        refine (HT.out _).mono ?_
        rintro e w3 ⟨rfl, b3⟩
        have HB3 := Lib.hid ((HB2.out.trans (b3.mono HB2.out.size)).alloc (Nat.le_trans HB2.out.size b3.size) (.cells #[] TW))
        clear b3 p0 p1 p2 p3 p4
        go_wp2
        go_ret2
        exact ⟨_, rfl, FwC.nil _ _ _ _ (by omega), HB3.out⟩
      · have he : pshE kd ts (a, b, c, d, f) = 0 := by unfold pshE; rw [if_neg (by simp [hc]), if_neg (by simp [ho]), if_neg h96]
        have hr : pshQ kd ts (a, b, c, d, f) = insW ts (plcW kd ts d) (a, b, c, d, f) := by unfold pshQ; rw [if_pos he]
        rw [he, hr]
        have b96 : ((ts.length : Int) == 96) = false := by rw [beq_eq_false_iff_ne]; omega
        clear hc he hr ho hT
        rcases hkind with rfl | rfl
        · clear hqu
          have HPL : Hid (plcW 1 ts d = ts.length) := Lib.hid (by unfold plcW; rw [if_pos rfl])
          go_enter Try.func14, Try.ntmps14
          go_wp2_with fail
          rw [HW1.out]
          refine HCK.out.mono ?_
          rintro e w2 ⟨rfl, b2⟩
          have HX2 := Lib.hid (HX1.out.below b2)
          have HB2 := Lib.hid (HB1.out.trans (b2.mono HB1.out.size))
          have HA2 := Lib.hid (HA1.out.below b2)
          obtain ⟨p0, p1, p2, p3, p4⟩ := HX2.out
          simp only [Nat.zero_add] at p0 p1 p2 p3 p4
          clear b2
          go_wp2_with fail
          refine (HT.out _).mono ?_
          rintro e w3 ⟨rfl, b3⟩
          have HX3 := Lib.hid (HX2.out.below b3)
          have HB3 := Lib.hid (HB2.out.trans (b3.mono HB2.out.size))
          have HA3 := Lib.hid (HA2.out.below b3)
          clear b3 p0 p1 p2 p3 p4
          go_wp2_with fail
          have HAc := HA3
          have HXc := HX3
          have HBc := HB3
          obtain ⟨ao, c2, hAR, hc21, hc22, hrun⟩ := restW _ ts.length ad cap ts w3.drew (show WlA (fun _ => True) w3.drew ad ts from HAc.out.keep (Nat.le_refl _) (fun _ _ _ => rfl)) hc1 (by omega)
          have HL0 : Hid (WlA (fun _ => True) w3.drew ad ts) := Lib.hid (show WlA (fun _ => True) w3.drew ad ts from HAc.out.keep (Nat.le_refl _) (fun _ _ _ => rfl))
          simp only [Nat.sub_self] at hrun
          have HR0 := Lib.hid hAR
          have HBW : Hid (Below w.heap.size w w3.drew) := Lib.hid HBc.out.drew
          have HXW : Hid (At5 w3.drew w.heap.size 0 (a, b, c, d, f)) := Lib.hid (HXc.out.keep rfl)
          have kc1 : (ts.length : Int) ≤ (cap : Int) := by omega
          have kc2 : ts.length ≤ cap := by omega
          have kc3 : (0 : Int) ≤ (ts.length : Int) := by omega
          clear hAR
          refine wp_region_held (S := fun w' => At5 w' w.heap.size 0 (a, b, c, d, f)) (by kernel_rfl) ?_
          obtain ⟨W0, hW0⟩ : ∃ W, w3.drew = W := ⟨_, rfl⟩
          change wpAnyH _ _ _ _ _ _ _ _ w3.drew
          rw [hW0] at HL0 HR0 HBW HXW ⊢
          have HB_W0 : Hid (Below W0.heap.size W0 W0) := Lib.hid (Below.refl _ _)
          have HSB : Hid (∀ V, Below W0.heap.size W0 V → At5 V w.heap.size 0 (a, b, c, d, f)) := Lib.hid (fun V hV => HXW.out.below hV)
          have HSZ := Lib.hid HBW.out.size
          clear hW0
          refine wpAnyH_read (i := 1) (v := .slice ad ts.length cap) rfl (by kernel_rfl) (by kernel_rfl) (by kernel_rfl) (fun _ _ _ h => h) (by rfl) (fun _ _ => rfl) (HSB.out _ HB_W0.out) ?_
          simp only [Act.put, List.setIfInBounds_toArray, List.set_cons_zero, List.set_cons_succ]
          refine wpAnyH_read (i := 2) (v := .int .i64 (ts.length : Int)) rfl (by kernel_rfl) (by kernel_rfl) (by kernel_rfl) (fun _ _ _ h => h) (by rfl) (fun _ _ => rfl) (HSB.out _ HB_W0.out) ?_
          simp only [Act.put, List.setIfInBounds_toArray, List.set_cons_zero, List.set_cons_succ]
          refine wpAnyH_read (i := 3) (v := .slice ad ts.length cap) rfl (by kernel_rfl) (by kernel_rfl) (by kernel_rfl) (fun _ _ _ h => h) (by rfl) ?_ (HSB.out _ HB_W0.out) ?_
          · rintro w' -
            go_simp
          simp only [Act.put, List.setIfInBounds_toArray, List.set_cons_zero, List.set_cons_succ]
          refine wpAnyH_read (i := 5) (v := .agg #[.int .i64 a, .int .i64 b, .int .i64 c, .int .i64 d, .int .i64 f]) rfl (by kernel_rfl) (by kernel_rfl) (by kernel_rfl) (fun _ _ _ h => h) (by rfl) ?_ (HSB.out _ HB_W0.out) ?_
          · rintro w' ⟨h0, h1, h2, h3, h4⟩
            simp only [Nat.zero_add] at h0 h1 h2 h3 h4
            go_simp
          simp only [Act.put, List.setIfInBounds_toArray, List.set_cons_zero, List.set_cons_succ]
          refine wpAnyH_all (rs := [0, 6]) (by kernel_rfl) (by simp) (fun j hj => ?_)
          rcases List.mem_cons.1 hj with rfl | hj
          · refine wpOp_of_list rfl ?_
            go_wp2_with fail
            obtain ⟨V1, hV⟩ : ∃ V, W0.alloc (.cells #[] TW) = V := ⟨_, rfl⟩
            have hb : Below W0.heap.size W0 V1 := by rw [← hV]; exact (Below.refl _ _).alloc (Nat.le_refl _) _
            have hm : V1.heap[W0.heap.size]? = some (.cells #[] TW (0, 0)) := by rw [← hV]; exact heap_alloc_new W0 _
            have HZ1 : Hid (V1.heap.size = W0.heap.size + 1) := Lib.hid (by rw [← hV]; simp)
            rw [hV]
            clear hV
            have HB_V1 : Hid (Below W0.heap.size W0 V1) := Lib.hid (HB_W0.out.trans (hb.mono HB_W0.out.size))
            have HR1 : Hid (OwnW W0.heap.size [] (.slice (some ⟨W0.heap.size, 0, none⟩) 0 0) V1) := Lib.hid (made_rowW hm HB_W0.out.size)
            clear hb hm
            refine ⟨HSB.out _ HB_V1.out, ?_⟩
            refine wpAnyH_all (rs := [4, 6]) (by kernel_rfl) (by simp) (fun j hj => ?_)
            rcases List.mem_cons.1 hj with rfl | hj
            · refine wpOp_of_list rfl ?_
              obtain ⟨v2, V2, hr, ho, hg, hb⟩ := append_restW V1 W0.heap.size (.slice (some ⟨W0.heap.size, 0, none⟩) 0 0) [] _ ad cap (ts.take ts.length) HR1.out ((HL0.out.below HB_V1.out).take ts.length) (by simp) (by rw [List.length_take]; omega) HB_V1.out.size
              rw [show (ts.take ts.length).length = ts.length by rw [List.length_take]; omega] at hr
              rw [List.nil_append] at ho
              have HB_V2 : Hid (Below W0.heap.size W0 V2) := Lib.hid (HB_V1.out.trans hb)
              have HR2 := Lib.hid ho
              clear ho hg hb
              go_wp2_with (at_builtin; refine append_by_run _ rfl _ _ 22 rfl _ _ rfl rfl _ _ hr ?_)
              clear hr
              refine ⟨HSB.out _ HB_V2.out, ?_⟩
              refine wpAnyH_next (i := 6) rfl (by kernel_rfl) ?_
              go_wp2_with fail
              obtain ⟨V3, hV⟩ : ∃ V, V2.alloc (.cells #[.int .i64 a, .int .i64 b, .int .i64 c, .int .i64 d, .int .i64 f] TW) = V := ⟨_, rfl⟩
              have hb : Below V2.heap.size V2 V3 := by rw [← hV]; exact (Below.refl _ _).alloc (Nat.le_refl _) _
              have hm : V3.heap[V2.heap.size]? = some (.cells (encW (a, b, c, d, f)).toArray TW (0, 0)) := by rw [← hV]; exact heap_alloc_new V2 _
              have HZ3 : Hid (V3.heap.size = V2.heap.size + 1) := Lib.hid (by rw [← hV]; simp)
              rw [hV]
              clear hV
              have HB_V3 : Hid (Below W0.heap.size W0 V3) := Lib.hid (HB_V2.out.trans (hb.mono HB_V2.out.size))
              have HR3 := Lib.hid (HR2.out.below hb)
              have HY3 := Lib.hid hm
              clear hb hm
              refine ⟨HSB.out _ HB_V3.out, ?_⟩
              refine wpAnyH_next (i := 7) rfl (by kernel_rfl) ?_
              obtain ⟨v4, V4, gn, hr, ho, hg, hb, _⟩ := append_oneW V3 W0.heap.size v2 (ts.take ts.length) (a, b, c, d, f) (V2.heap.size) HR3.out HY3.out (by rw [List.length_take]; omega) HB_V3.out.size
              have HB_V4 : Hid (Below W0.heap.size W0 V4) := Lib.hid (HB_V3.out.trans hb)
              have HR4 := Lib.hid ho
              clear ho hg hb
              go_wp2_with (at_builtin; refine append_by_run _ rfl _ _ 22 rfl _ _ rfl rfl _ _ hr ?_)
              clear hr
              refine ⟨HSB.out _ HB_V4.out, ?_⟩
              refine wpAnyH_next (i := 8) rfl (by kernel_rfl) ?_
              go_wp2_with fail
              refine ⟨HSB.out _ HB_V4.out, ?_⟩
              refine wpAnyH_done (by kernel_rfl) ?_ _
              obtain ⟨v9, V9, hr9, ho9, hg9, hb9⟩ := append_restW V4 W0.heap.size v4 (ts.take ts.length ++ [(a, b, c, d, f)]) _ ao c2 (ts.drop ts.length) HR4.out (HR0.out.below HB_V4.out) (by simp; omega) (by rw [List.length_drop]; omega) HB_V4.out.size
              rw [show (ts.drop ts.length).length = 0 by simp] at hr9
              have HF9 : Hid (FwC w.heap.size V9 v9 (insW ts (plcW 1 ts d) (a, b, c, d, f))) := Lib.hid (by
                have e : insW ts (plcW 1 ts d) (a, b, c, d, f) = ts.take ts.length ++ [(a, b, c, d, f)] ++ ts.drop ts.length := by unfold insW; rw [HPL.out]; simp
                rw [e]
                exact FwC.mono ho9.fresh HSZ.out)
              have HB9 : Hid (Below w.heap.size w V9) := Lib.hid (HBW.out.trans ((HB_V4.out.trans hb9).mono HSZ.out))
              clear ho9 hg9 hb9
              go_wp2_with (at_builtin; refine append_by_run _ rfl _ _ 22 rfl _ _ rfl rfl _ _ hr9 ?_)
              go_ret2
              exact ⟨_, rfl, HF9.out, HB9.out⟩
            · obtain rfl : j = 6 := by simpa using hj
              refine wpOp_of_list rfl ?_
              go_wp2_with fail
              obtain ⟨V21, hV⟩ : ∃ V, V1.alloc (.cells #[.int .i64 a, .int .i64 b, .int .i64 c, .int .i64 d, .int .i64 f] TW) = V := ⟨_, rfl⟩
              have hb : Below V1.heap.size V1 V21 := by rw [← hV]; exact (Below.refl _ _).alloc (Nat.le_refl _) _
              have hm : V21.heap[V1.heap.size]? = some (.cells (encW (a, b, c, d, f)).toArray TW (0, 0)) := by rw [← hV]; exact heap_alloc_new V1 _
              have HZ21 : Hid (V21.heap.size = V1.heap.size + 1) := Lib.hid (by rw [← hV]; simp)
              rw [hV]
              clear hV
              have HB_V21 : Hid (Below W0.heap.size W0 V21) := Lib.hid (HB_V1.out.trans (hb.mono HB_V1.out.size))
              have HR21 := Lib.hid (HR1.out.below hb)
              have HY21 := Lib.hid hm
              clear hb hm
              refine ⟨HSB.out _ HB_V21.out, ?_⟩
              refine wpAnyH_next (i := 4) rfl (by kernel_rfl) ?_
              obtain ⟨v22, V22, hr, ho, hg, hb⟩ := append_restW V21 W0.heap.size (.slice (some ⟨W0.heap.size, 0, none⟩) 0 0) [] _ ad cap (ts.take ts.length) HR21.out ((HL0.out.below HB_V21.out).take ts.length) (by simp) (by rw [List.length_take]; omega) HB_V21.out.size
              rw [show (ts.take ts.length).length = ts.length by rw [List.length_take]; omega] at hr
              rw [List.nil_append] at ho
              have HB_V22 : Hid (Below W0.heap.size W0 V22) := Lib.hid (HB_V21.out.trans hb)
              have HR22 := Lib.hid ho
              have HY22 : Hid (V22.heap[V1.heap.size]? = some (.cells (encW (a, b, c, d, f)).toArray TW (0, 0))) := Lib.hid ((hg.block _ (Array.getElem?_eq_some_iff.1 HY21.out).1 (by simp [Value.ownBlock]; have := HZ1.out; omega)).trans HY21.out)
              clear ho hg hb
              go_wp2_with (at_builtin; refine append_by_run _ rfl _ _ 22 rfl _ _ rfl rfl _ _ hr ?_)
              clear hr
              refine ⟨HSB.out _ HB_V22.out, ?_⟩
              refine wpAnyH_next (i := 7) rfl (by kernel_rfl) ?_
              obtain ⟨v23, V23, gn, hr, ho, hg, hb, _⟩ := append_oneW V22 W0.heap.size v22 (ts.take ts.length) (a, b, c, d, f) (V1.heap.size) HR22.out HY22.out (by rw [List.length_take]; omega) HB_V22.out.size
              have HB_V23 : Hid (Below W0.heap.size W0 V23) := Lib.hid (HB_V22.out.trans hb)
              have HR23 := Lib.hid ho
              clear ho hg hb
              go_wp2_with (at_builtin; refine append_by_run _ rfl _ _ 22 rfl _ _ rfl rfl _ _ hr ?_)
              clear hr
              refine ⟨HSB.out _ HB_V23.out, ?_⟩
              refine wpAnyH_next (i := 8) rfl (by kernel_rfl) ?_
              go_wp2_with fail
              refine ⟨HSB.out _ HB_V23.out, ?_⟩
              refine wpAnyH_done (by kernel_rfl) ?_ _
              obtain ⟨v9, V9, hr9, ho9, hg9, hb9⟩ := append_restW V23 W0.heap.size v23 (ts.take ts.length ++ [(a, b, c, d, f)]) _ ao c2 (ts.drop ts.length) HR23.out (HR0.out.below HB_V23.out) (by simp; omega) (by rw [List.length_drop]; omega) HB_V23.out.size
              rw [show (ts.drop ts.length).length = 0 by simp] at hr9
              have HF9 : Hid (FwC w.heap.size V9 v9 (insW ts (plcW 1 ts d) (a, b, c, d, f))) := Lib.hid (by
                have e : insW ts (plcW 1 ts d) (a, b, c, d, f) = ts.take ts.length ++ [(a, b, c, d, f)] ++ ts.drop ts.length := by unfold insW; rw [HPL.out]; simp
                rw [e]
                exact FwC.mono ho9.fresh HSZ.out)
              have HB9 : Hid (Below w.heap.size w V9) := Lib.hid (HBW.out.trans ((HB_V23.out.trans hb9).mono HSZ.out))
              clear ho9 hg9 hb9
              go_wp2_with (at_builtin; refine append_by_run _ rfl _ _ 22 rfl _ _ rfl rfl _ _ hr9 ?_)
              go_ret2
              exact ⟨_, rfl, HF9.out, HB9.out⟩
          · obtain rfl : j = 6 := by simpa using hj
            refine wpOp_of_list rfl ?_
            go_wp2_with fail
            obtain ⟨V41, hV⟩ : ∃ V, W0.alloc (.cells #[.int .i64 a, .int .i64 b, .int .i64 c, .int .i64 d, .int .i64 f] TW) = V := ⟨_, rfl⟩
            have hb : Below W0.heap.size W0 V41 := by rw [← hV]; exact (Below.refl _ _).alloc (Nat.le_refl _) _
            have hm : V41.heap[W0.heap.size]? = some (.cells (encW (a, b, c, d, f)).toArray TW (0, 0)) := by rw [← hV]; exact heap_alloc_new W0 _
            have HZ41 : Hid (V41.heap.size = W0.heap.size + 1) := Lib.hid (by rw [← hV]; simp)
            rw [hV]
            clear hV
            have HB_V41 : Hid (Below W0.heap.size W0 V41) := Lib.hid (HB_W0.out.trans (hb.mono HB_W0.out.size))
            have HY41 := Lib.hid hm
            clear hb hm
            refine ⟨HSB.out _ HB_V41.out, ?_⟩
            refine wpAnyH_next (i := 0) rfl (by kernel_rfl) ?_
            go_wp2_with fail
            obtain ⟨V42, hV⟩ : ∃ V, V41.alloc (.cells #[] TW) = V := ⟨_, rfl⟩
            have hb : Below V41.heap.size V41 V42 := by rw [← hV]; exact (Below.refl _ _).alloc (Nat.le_refl _) _
            have hm : V42.heap[V41.heap.size]? = some (.cells #[] TW (0, 0)) := by rw [← hV]; exact heap_alloc_new V41 _
            have HZ42 : Hid (V42.heap.size = V41.heap.size + 1) := Lib.hid (by rw [← hV]; simp)
            rw [hV]
            clear hV
            have HB_V42 : Hid (Below W0.heap.size W0 V42) := Lib.hid (HB_V41.out.trans (hb.mono HB_V41.out.size))
            have HY42 := Lib.hid ((hb.block _ (by have := HZ41.out; omega)).trans HY41.out)
            have HR42 : Hid (OwnW W0.heap.size [] (.slice (some ⟨V41.heap.size, 0, none⟩) 0 0) V42) := Lib.hid (made_rowW hm HB_V41.out.size)
            clear hb hm
            refine ⟨HSB.out _ HB_V42.out, ?_⟩
            refine wpAnyH_next (i := 4) rfl (by kernel_rfl) ?_
            obtain ⟨v43, V43, hr, ho, hg, hb⟩ := append_restW V42 W0.heap.size (.slice (some ⟨V41.heap.size, 0, none⟩) 0 0) [] _ ad cap (ts.take ts.length) HR42.out ((HL0.out.below HB_V42.out).take ts.length) (by simp) (by rw [List.length_take]; omega) HB_V42.out.size
            rw [show (ts.take ts.length).length = ts.length by rw [List.length_take]; omega] at hr
            rw [List.nil_append] at ho
            have HB_V43 : Hid (Below W0.heap.size W0 V43) := Lib.hid (HB_V42.out.trans hb)
            have HR43 := Lib.hid ho
            have HY43 : Hid (V43.heap[W0.heap.size]? = some (.cells (encW (a, b, c, d, f)).toArray TW (0, 0))) := Lib.hid ((hg.block _ (Array.getElem?_eq_some_iff.1 HY42.out).1 (by simp [Value.ownBlock]; have := HZ41.out; omega)).trans HY42.out)
            clear ho hg hb
            go_wp2_with (at_builtin; refine append_by_run _ rfl _ _ 22 rfl _ _ rfl rfl _ _ hr ?_)
            clear hr
            refine ⟨HSB.out _ HB_V43.out, ?_⟩
            refine wpAnyH_next (i := 7) rfl (by kernel_rfl) ?_
            obtain ⟨v44, V44, gn, hr, ho, hg, hb, _⟩ := append_oneW V43 W0.heap.size v43 (ts.take ts.length) (a, b, c, d, f) (W0.heap.size) HR43.out HY43.out (by rw [List.length_take]; omega) HB_V43.out.size
            have HB_V44 : Hid (Below W0.heap.size W0 V44) := Lib.hid (HB_V43.out.trans hb)
            have HR44 := Lib.hid ho
            clear ho hg hb
            go_wp2_with (at_builtin; refine append_by_run _ rfl _ _ 22 rfl _ _ rfl rfl _ _ hr ?_)
            clear hr
            refine ⟨HSB.out _ HB_V44.out, ?_⟩
            refine wpAnyH_next (i := 8) rfl (by kernel_rfl) ?_
            go_wp2_with fail
            refine ⟨HSB.out _ HB_V44.out, ?_⟩
            refine wpAnyH_done (by kernel_rfl) ?_ _
            obtain ⟨v9, V9, hr9, ho9, hg9, hb9⟩ := append_restW V44 W0.heap.size v44 (ts.take ts.length ++ [(a, b, c, d, f)]) _ ao c2 (ts.drop ts.length) HR44.out (HR0.out.below HB_V44.out) (by simp; omega) (by rw [List.length_drop]; omega) HB_V44.out.size
            rw [show (ts.drop ts.length).length = 0 by simp] at hr9
            have HF9 : Hid (FwC w.heap.size V9 v9 (insW ts (plcW 1 ts d) (a, b, c, d, f))) := Lib.hid (by
              have e : insW ts (plcW 1 ts d) (a, b, c, d, f) = ts.take ts.length ++ [(a, b, c, d, f)] ++ ts.drop ts.length := by unfold insW; rw [HPL.out]; simp
              rw [e]
              exact FwC.mono ho9.fresh HSZ.out)
            have HB9 : Hid (Below w.heap.size w V9) := Lib.hid (HBW.out.trans ((HB_V44.out.trans hb9).mono HSZ.out))
            clear ho9 hg9 hb9
            go_wp2_with (at_builtin; refine append_by_run _ rfl _ _ 22 rfl _ _ rfl rfl _ _ hr9 ?_)
            go_ret2
            exact ⟨_, rfl, HF9.out, HB9.out⟩
        · have HQU := Lib.hid (hqu rfl)
          clear hqu
          go_enter Try.func14, Try.ntmps14
          go_wp2_with fail
          rw [HW1.out]
          refine HCK.out.mono ?_
          rintro e w2 ⟨rfl, b2⟩
          have HX2 := Lib.hid (HX1.out.below b2)
          have HB2 := Lib.hid (HB1.out.trans (b2.mono HB1.out.size))
          have HA2 := Lib.hid (HA1.out.below b2)
          obtain ⟨p0, p1, p2, p3, p4⟩ := HX2.out
          simp only [Nat.zero_add] at p0 p1 p2 p3 p4
          clear b2
          go_wp2_with fail
          refine (HT.out _).mono ?_
          rintro e w3 ⟨rfl, b3⟩
          have HX3 := Lib.hid (HX2.out.below b3)
          have HB3 := Lib.hid (HB2.out.trans (b3.mono HB2.out.size))
          have HA3 := Lib.hid (HA2.out.below b3)
          clear b3 p0 p1 p2 p3 p4
          go_wp2
          go_loopw [9] (fun x wr => ∃ k : Nat, k ≤ ts.length ∧ x = .int .i64 k ∧ Hid (∀ q, k ≤ q → q < ts.length → (gw ts q).2.2.2.1 < d) ∧ Hid (Below w3.heap.size w3 wr)) (fun x _ => (intOf x).toNat)
          case atStart => exact ⟨ts.length, Nat.le_refl _, rfl, Lib.hid (fun q hq h => by omega), Lib.hid (Below.refl _ _)⟩
          case round =>
            obtain ⟨k, hk, rfl, HN, HBk⟩ := hrel
            have HXc := Lib.hid (HX3.out.below HBk.out)
            have HAc := Lib.hid (HA3.out.below HBk.out)
            have HBc := Lib.hid (HB3.out.trans (HBk.out.mono HB3.out.size))
            by_cases hk0 : k = 0
            · have HPL : Hid (plcW 2 ts d = k) := Lib.hid (plc_back hk HQU.out HN.out (fun h => by omega))
              have q0 : decide (0 < (k : Int)) = false := decide_eq_false (by omega)
              have q7 : ¬ (0 : Int) < (k : Int) := by omega
              have q1 : decide (0 < k) = false := decide_eq_false (by omega)
              clear hk0
              go_wp2_with fail
              go_quiet (fail)
              go_wp2_with fail
              obtain ⟨wc, hwc⟩ : ∃ W, wr.drewN nq = W := ⟨_, rfl⟩
              have HAc : Hid (WlA (fun _ => True) wc ad ts) := Lib.hid (by rw [← hwc]; exact HAc.out.keep (Nat.le_refl _) (fun _ _ _ => rfl))
              have HXc : Hid (At5 wc w.heap.size 0 (a, b, c, d, f)) := Lib.hid (by rw [← hwc]; exact HXc.out.keep rfl)
              have HBc : Hid (Below w.heap.size w wc) := Lib.hid (by rw [← hwc]; exact ⟨HBc.out.os, HBc.out.tape, HBc.out.output, HBc.out.size, HBc.out.block⟩)
              rw [hwc]
              clear hwc q0 q1 q7
              obtain ⟨ao, c2, hAR, hc21, hc22, hrun⟩ := restW _ k ad cap ts wc.drew (show WlA (fun _ => True) wc.drew ad ts from HAc.out.keep (Nat.le_refl _) (fun _ _ _ => rfl)) hc1 (by omega)
              have HL0 : Hid (WlA (fun _ => True) wc.drew ad ts) := Lib.hid (show WlA (fun _ => True) wc.drew ad ts from HAc.out.keep (Nat.le_refl _) (fun _ _ _ => rfl))
              have HR0 := Lib.hid hAR
              have HBW : Hid (Below w.heap.size w wc.drew) := Lib.hid HBc.out.drew
              have HXW : Hid (At5 wc.drew w.heap.size 0 (a, b, c, d, f)) := Lib.hid (HXc.out.keep rfl)
              have kc1 : (k : Int) ≤ (cap : Int) := by omega
              have kc2 : k ≤ cap := by omega
              have kc3 : (0 : Int) ≤ (k : Int) := by omega
              clear hAR
              refine wp_region_held (S := fun w' => At5 w' w.heap.size 0 (a, b, c, d, f)) (by kernel_rfl) ?_
              obtain ⟨W0, hW0⟩ : ∃ W, wc.drew = W := ⟨_, rfl⟩
              change wpAnyH _ _ _ _ _ _ _ _ wc.drew
              rw [hW0] at HL0 HR0 HBW HXW ⊢
              have HB_W0 : Hid (Below W0.heap.size W0 W0) := Lib.hid (Below.refl _ _)
              have HSB : Hid (∀ V, Below W0.heap.size W0 V → At5 V w.heap.size 0 (a, b, c, d, f)) := Lib.hid (fun V hV => HXW.out.below hV)
              have HSZ := Lib.hid HBW.out.size
              clear hW0
              refine wpAnyH_read (i := 1) (v := .slice ad ts.length cap) rfl (by kernel_rfl) (by kernel_rfl) (by kernel_rfl) (fun _ _ _ h => h) (by rfl) (fun _ _ => rfl) (HSB.out _ HB_W0.out) ?_
              simp only [Act.put, List.setIfInBounds_toArray, List.set_cons_zero, List.set_cons_succ]
              refine wpAnyH_read (i := 2) (v := .int .i64 (k : Int)) rfl (by kernel_rfl) (by kernel_rfl) (by kernel_rfl) (fun _ _ _ h => h) (by rfl) (fun _ _ => rfl) (HSB.out _ HB_W0.out) ?_
              simp only [Act.put, List.setIfInBounds_toArray, List.set_cons_zero, List.set_cons_succ]
              refine wpAnyH_read (i := 3) (v := .slice ad k cap) rfl (by kernel_rfl) (by kernel_rfl) (by kernel_rfl) (fun _ _ _ h => h) (by rfl) ?_ (HSB.out _ HB_W0.out) ?_
              · rintro w' -
                go_simp
              simp only [Act.put, List.setIfInBounds_toArray, List.set_cons_zero, List.set_cons_succ]
              refine wpAnyH_read (i := 5) (v := .agg #[.int .i64 a, .int .i64 b, .int .i64 c, .int .i64 d, .int .i64 f]) rfl (by kernel_rfl) (by kernel_rfl) (by kernel_rfl) (fun _ _ _ h => h) (by rfl) ?_ (HSB.out _ HB_W0.out) ?_
              · rintro w' ⟨h0, h1, h2, h3, h4⟩
                simp only [Nat.zero_add] at h0 h1 h2 h3 h4
                go_simp
              simp only [Act.put, List.setIfInBounds_toArray, List.set_cons_zero, List.set_cons_succ]
              refine wpAnyH_all (rs := [0, 6]) (by kernel_rfl) (by simp) (fun j hj => ?_)
              rcases List.mem_cons.1 hj with rfl | hj
              · refine wpOp_of_list rfl ?_
                go_wp2_with fail
                obtain ⟨V1, hV⟩ : ∃ V, W0.alloc (.cells #[] TW) = V := ⟨_, rfl⟩
                have hb : Below W0.heap.size W0 V1 := by rw [← hV]; exact (Below.refl _ _).alloc (Nat.le_refl _) _
                have hm : V1.heap[W0.heap.size]? = some (.cells #[] TW (0, 0)) := by rw [← hV]; exact heap_alloc_new W0 _
                have HZ1 : Hid (V1.heap.size = W0.heap.size + 1) := Lib.hid (by rw [← hV]; simp)
                rw [hV]
                clear hV
                have HB_V1 : Hid (Below W0.heap.size W0 V1) := Lib.hid (HB_W0.out.trans (hb.mono HB_W0.out.size))
                have HR1 : Hid (OwnW W0.heap.size [] (.slice (some ⟨W0.heap.size, 0, none⟩) 0 0) V1) := Lib.hid (made_rowW hm HB_W0.out.size)
                clear hb hm
                refine ⟨HSB.out _ HB_V1.out, ?_⟩
                refine wpAnyH_all (rs := [4, 6]) (by kernel_rfl) (by simp) (fun j hj => ?_)
                rcases List.mem_cons.1 hj with rfl | hj
                · refine wpOp_of_list rfl ?_
                  obtain ⟨v2, V2, hr, ho, hg, hb⟩ := append_restW V1 W0.heap.size (.slice (some ⟨W0.heap.size, 0, none⟩) 0 0) [] _ ad cap (ts.take k) HR1.out ((HL0.out.below HB_V1.out).take k) (by simp) (by rw [List.length_take]; omega) HB_V1.out.size
                  rw [show (ts.take k).length = k by rw [List.length_take]; omega] at hr
                  rw [List.nil_append] at ho
                  have HB_V2 : Hid (Below W0.heap.size W0 V2) := Lib.hid (HB_V1.out.trans hb)
                  have HR2 := Lib.hid ho
                  clear ho hg hb
                  go_wp2_with (at_builtin; refine append_by_run _ rfl _ _ 22 rfl _ _ rfl rfl _ _ hr ?_)
                  clear hr
                  refine ⟨HSB.out _ HB_V2.out, ?_⟩
                  refine wpAnyH_next (i := 6) rfl (by kernel_rfl) ?_
                  go_wp2_with fail
                  obtain ⟨V3, hV⟩ : ∃ V, V2.alloc (.cells #[.int .i64 a, .int .i64 b, .int .i64 c, .int .i64 d, .int .i64 f] TW) = V := ⟨_, rfl⟩
                  have hb : Below V2.heap.size V2 V3 := by rw [← hV]; exact (Below.refl _ _).alloc (Nat.le_refl _) _
                  have hm : V3.heap[V2.heap.size]? = some (.cells (encW (a, b, c, d, f)).toArray TW (0, 0)) := by rw [← hV]; exact heap_alloc_new V2 _
                  have HZ3 : Hid (V3.heap.size = V2.heap.size + 1) := Lib.hid (by rw [← hV]; simp)
                  rw [hV]
                  clear hV
                  have HB_V3 : Hid (Below W0.heap.size W0 V3) := Lib.hid (HB_V2.out.trans (hb.mono HB_V2.out.size))
                  have HR3 := Lib.hid (HR2.out.below hb)
                  have HY3 := Lib.hid hm
                  clear hb hm
                  refine ⟨HSB.out _ HB_V3.out, ?_⟩
                  refine wpAnyH_next (i := 7) rfl (by kernel_rfl) ?_
                  obtain ⟨v4, V4, gn, hr, ho, hg, hb, _⟩ := append_oneW V3 W0.heap.size v2 (ts.take k) (a, b, c, d, f) (V2.heap.size) HR3.out HY3.out (by rw [List.length_take]; omega) HB_V3.out.size
                  have HB_V4 : Hid (Below W0.heap.size W0 V4) := Lib.hid (HB_V3.out.trans hb)
                  have HR4 := Lib.hid ho
                  clear ho hg hb
                  go_wp2_with (at_builtin; refine append_by_run _ rfl _ _ 22 rfl _ _ rfl rfl _ _ hr ?_)
                  clear hr
                  refine ⟨HSB.out _ HB_V4.out, ?_⟩
                  refine wpAnyH_next (i := 8) rfl (by kernel_rfl) ?_
                  go_wp2_with fail
                  refine ⟨HSB.out _ HB_V4.out, ?_⟩
                  refine wpAnyH_done (by kernel_rfl) ?_ _
                  obtain ⟨v9, V9, hr9, ho9, hg9, hb9⟩ := append_restW V4 W0.heap.size v4 (ts.take k ++ [(a, b, c, d, f)]) _ ao c2 (ts.drop k) HR4.out (HR0.out.below HB_V4.out) (by simp; omega) (by rw [List.length_drop]; omega) HB_V4.out.size
                  rw [show (ts.drop k).length = ts.length - k by rw [List.length_drop]] at hr9
                  have HF9 : Hid (FwC w.heap.size V9 v9 (insW ts (plcW 2 ts d) (a, b, c, d, f))) := Lib.hid (by
                    have e : insW ts (plcW 2 ts d) (a, b, c, d, f) = ts.take k ++ [(a, b, c, d, f)] ++ ts.drop k := by unfold insW; rw [HPL.out]; simp
                    rw [e]
                    exact FwC.mono ho9.fresh HSZ.out)
                  have HB9 : Hid (Below w.heap.size w V9) := Lib.hid (HBW.out.trans ((HB_V4.out.trans hb9).mono HSZ.out))
                  clear ho9 hg9 hb9
                  go_wp2_with (at_builtin; refine append_by_run _ rfl _ _ 22 rfl _ _ rfl rfl _ _ hr9 ?_)
                  go_ret2
                  exact ⟨_, rfl, HF9.out, HB9.out⟩
                · obtain rfl : j = 6 := by simpa using hj
                  refine wpOp_of_list rfl ?_
                  go_wp2_with fail
                  obtain ⟨V21, hV⟩ : ∃ V, V1.alloc (.cells #[.int .i64 a, .int .i64 b, .int .i64 c, .int .i64 d, .int .i64 f] TW) = V := ⟨_, rfl⟩
                  have hb : Below V1.heap.size V1 V21 := by rw [← hV]; exact (Below.refl _ _).alloc (Nat.le_refl _) _
                  have hm : V21.heap[V1.heap.size]? = some (.cells (encW (a, b, c, d, f)).toArray TW (0, 0)) := by rw [← hV]; exact heap_alloc_new V1 _
                  have HZ21 : Hid (V21.heap.size = V1.heap.size + 1) := Lib.hid (by rw [← hV]; simp)
                  rw [hV]
                  clear hV
                  have HB_V21 : Hid (Below W0.heap.size W0 V21) := Lib.hid (HB_V1.out.trans (hb.mono HB_V1.out.size))
                  have HR21 := Lib.hid (HR1.out.below hb)
                  have HY21 := Lib.hid hm
                  clear hb hm
                  refine ⟨HSB.out _ HB_V21.out, ?_⟩
                  refine wpAnyH_next (i := 4) rfl (by kernel_rfl) ?_
                  obtain ⟨v22, V22, hr, ho, hg, hb⟩ := append_restW V21 W0.heap.size (.slice (some ⟨W0.heap.size, 0, none⟩) 0 0) [] _ ad cap (ts.take k) HR21.out ((HL0.out.below HB_V21.out).take k) (by simp) (by rw [List.length_take]; omega) HB_V21.out.size
                  rw [show (ts.take k).length = k by rw [List.length_take]; omega] at hr
                  rw [List.nil_append] at ho
                  have HB_V22 : Hid (Below W0.heap.size W0 V22) := Lib.hid (HB_V21.out.trans hb)
                  have HR22 := Lib.hid ho
                  have HY22 : Hid (V22.heap[V1.heap.size]? = some (.cells (encW (a, b, c, d, f)).toArray TW (0, 0))) := Lib.hid ((hg.block _ (Array.getElem?_eq_some_iff.1 HY21.out).1 (by simp [Value.ownBlock]; have := HZ1.out; omega)).trans HY21.out)
                  clear ho hg hb
                  go_wp2_with (at_builtin; refine append_by_run _ rfl _ _ 22 rfl _ _ rfl rfl _ _ hr ?_)
                  clear hr
                  refine ⟨HSB.out _ HB_V22.out, ?_⟩
                  refine wpAnyH_next (i := 7) rfl (by kernel_rfl) ?_
                  obtain ⟨v23, V23, gn, hr, ho, hg, hb, _⟩ := append_oneW V22 W0.heap.size v22 (ts.take k) (a, b, c, d, f) (V1.heap.size) HR22.out HY22.out (by rw [List.length_take]; omega) HB_V22.out.size
                  have HB_V23 : Hid (Below W0.heap.size W0 V23) := Lib.hid (HB_V22.out.trans hb)
                  have HR23 := Lib.hid ho
                  clear ho hg hb
                  go_wp2_with (at_builtin; refine append_by_run _ rfl _ _ 22 rfl _ _ rfl rfl _ _ hr ?_)
                  clear hr
                  refine ⟨HSB.out _ HB_V23.out, ?_⟩
                  refine wpAnyH_next (i := 8) rfl (by kernel_rfl) ?_
                  go_wp2_with fail
                  refine ⟨HSB.out _ HB_V23.out, ?_⟩
                  refine wpAnyH_done (by kernel_rfl) ?_ _
                  obtain ⟨v9, V9, hr9, ho9, hg9, hb9⟩ := append_restW V23 W0.heap.size v23 (ts.take k ++ [(a, b, c, d, f)]) _ ao c2 (ts.drop k) HR23.out (HR0.out.below HB_V23.out) (by simp; omega) (by rw [List.length_drop]; omega) HB_V23.out.size
                  rw [show (ts.drop k).length = ts.length - k by rw [List.length_drop]] at hr9
                  have HF9 : Hid (FwC w.heap.size V9 v9 (insW ts (plcW 2 ts d) (a, b, c, d, f))) := Lib.hid (by
                    have e : insW ts (plcW 2 ts d) (a, b, c, d, f) = ts.take k ++ [(a, b, c, d, f)] ++ ts.drop k := by unfold insW; rw [HPL.out]; simp
                    rw [e]
                    exact FwC.mono ho9.fresh HSZ.out)
                  have HB9 : Hid (Below w.heap.size w V9) := Lib.hid (HBW.out.trans ((HB_V23.out.trans hb9).mono HSZ.out))
                  clear ho9 hg9 hb9
                  go_wp2_with (at_builtin; refine append_by_run _ rfl _ _ 22 rfl _ _ rfl rfl _ _ hr9 ?_)
                  go_ret2
                  exact ⟨_, rfl, HF9.out, HB9.out⟩
              · obtain rfl : j = 6 := by simpa using hj
                refine wpOp_of_list rfl ?_
                go_wp2_with fail
                obtain ⟨V41, hV⟩ : ∃ V, W0.alloc (.cells #[.int .i64 a, .int .i64 b, .int .i64 c, .int .i64 d, .int .i64 f] TW) = V := ⟨_, rfl⟩
                have hb : Below W0.heap.size W0 V41 := by rw [← hV]; exact (Below.refl _ _).alloc (Nat.le_refl _) _
                have hm : V41.heap[W0.heap.size]? = some (.cells (encW (a, b, c, d, f)).toArray TW (0, 0)) := by rw [← hV]; exact heap_alloc_new W0 _
                have HZ41 : Hid (V41.heap.size = W0.heap.size + 1) := Lib.hid (by rw [← hV]; simp)
                rw [hV]
                clear hV
                have HB_V41 : Hid (Below W0.heap.size W0 V41) := Lib.hid (HB_W0.out.trans (hb.mono HB_W0.out.size))
                have HY41 := Lib.hid hm
                clear hb hm
                refine ⟨HSB.out _ HB_V41.out, ?_⟩
                refine wpAnyH_next (i := 0) rfl (by kernel_rfl) ?_
                go_wp2_with fail
                obtain ⟨V42, hV⟩ : ∃ V, V41.alloc (.cells #[] TW) = V := ⟨_, rfl⟩
                have hb : Below V41.heap.size V41 V42 := by rw [← hV]; exact (Below.refl _ _).alloc (Nat.le_refl _) _
                have hm : V42.heap[V41.heap.size]? = some (.cells #[] TW (0, 0)) := by rw [← hV]; exact heap_alloc_new V41 _
                have HZ42 : Hid (V42.heap.size = V41.heap.size + 1) := Lib.hid (by rw [← hV]; simp)
                rw [hV]
                clear hV
                have HB_V42 : Hid (Below W0.heap.size W0 V42) := Lib.hid (HB_V41.out.trans (hb.mono HB_V41.out.size))
                have HY42 := Lib.hid ((hb.block _ (by have := HZ41.out; omega)).trans HY41.out)
                have HR42 : Hid (OwnW W0.heap.size [] (.slice (some ⟨V41.heap.size, 0, none⟩) 0 0) V42) := Lib.hid (made_rowW hm HB_V41.out.size)
                clear hb hm
                refine ⟨HSB.out _ HB_V42.out, ?_⟩
                refine wpAnyH_next (i := 4) rfl (by kernel_rfl) ?_
                obtain ⟨v43, V43, hr, ho, hg, hb⟩ := append_restW V42 W0.heap.size (.slice (some ⟨V41.heap.size, 0, none⟩) 0 0) [] _ ad cap (ts.take k) HR42.out ((HL0.out.below HB_V42.out).take k) (by simp) (by rw [List.length_take]; omega) HB_V42.out.size
                rw [show (ts.take k).length = k by rw [List.length_take]; omega] at hr
                rw [List.nil_append] at ho
                have HB_V43 : Hid (Below W0.heap.size W0 V43) := Lib.hid (HB_V42.out.trans hb)
                have HR43 := Lib.hid ho
                have HY43 : Hid (V43.heap[W0.heap.size]? = some (.cells (encW (a, b, c, d, f)).toArray TW (0, 0))) := Lib.hid ((hg.block _ (Array.getElem?_eq_some_iff.1 HY42.out).1 (by simp [Value.ownBlock]; have := HZ41.out; omega)).trans HY42.out)
                clear ho hg hb
                go_wp2_with (at_builtin; refine append_by_run _ rfl _ _ 22 rfl _ _ rfl rfl _ _ hr ?_)
                clear hr
                refine ⟨HSB.out _ HB_V43.out, ?_⟩
                refine wpAnyH_next (i := 7) rfl (by kernel_rfl) ?_
                obtain ⟨v44, V44, gn, hr, ho, hg, hb, _⟩ := append_oneW V43 W0.heap.size v43 (ts.take k) (a, b, c, d, f) (W0.heap.size) HR43.out HY43.out (by rw [List.length_take]; omega) HB_V43.out.size
                have HB_V44 : Hid (Below W0.heap.size W0 V44) := Lib.hid (HB_V43.out.trans hb)
                have HR44 := Lib.hid ho
                clear ho hg hb
                go_wp2_with (at_builtin; refine append_by_run _ rfl _ _ 22 rfl _ _ rfl rfl _ _ hr ?_)
                clear hr
                refine ⟨HSB.out _ HB_V44.out, ?_⟩
                refine wpAnyH_next (i := 8) rfl (by kernel_rfl) ?_
                go_wp2_with fail
                refine ⟨HSB.out _ HB_V44.out, ?_⟩
                refine wpAnyH_done (by kernel_rfl) ?_ _
                obtain ⟨v9, V9, hr9, ho9, hg9, hb9⟩ := append_restW V44 W0.heap.size v44 (ts.take k ++ [(a, b, c, d, f)]) _ ao c2 (ts.drop k) HR44.out (HR0.out.below HB_V44.out) (by simp; omega) (by rw [List.length_drop]; omega) HB_V44.out.size
                rw [show (ts.drop k).length = ts.length - k by rw [List.length_drop]] at hr9
                have HF9 : Hid (FwC w.heap.size V9 v9 (insW ts (plcW 2 ts d) (a, b, c, d, f))) := Lib.hid (by
                  have e : insW ts (plcW 2 ts d) (a, b, c, d, f) = ts.take k ++ [(a, b, c, d, f)] ++ ts.drop k := by unfold insW; rw [HPL.out]; simp
                  rw [e]
                  exact FwC.mono ho9.fresh HSZ.out)
                have HB9 : Hid (Below w.heap.size w V9) := Lib.hid (HBW.out.trans ((HB_V44.out.trans hb9).mono HSZ.out))
                clear ho9 hg9 hb9
                go_wp2_with (at_builtin; refine append_by_run _ rfl _ _ 22 rfl _ _ rfl rfl _ _ hr9 ?_)
                go_ret2
                exact ⟨_, rfl, HF9.out, HB9.out⟩
            · obtain ⟨bk, off, e', _, _, _, _, _, y3, _⟩ := HAc.out (k - 1) (by omega)
              obtain ⟨y, hy⟩ : ∃ y, (gw ts (k - 1)).2.2.2.1 = y := ⟨_, rfl⟩
              rw [hy] at y3
              obtain ⟨_, _, _, x3, _⟩ := HXc.out
              simp only [Nat.zero_add] at x3
              have q0 : decide (0 < (k : Int)) = true := decide_eq_true (by omega)
              have q1 : decide (0 < k) = true := decide_eq_true (by omega)
              have q2 : (0 : Int) ≤ (k : Int) - 1 := by omega
              have q3 : ((k : Int) - 1).toNat = k - 1 := by omega
              have q4 : IntKind.i64.wrap ((k : Int) - 1) = (k : Int) - 1 := IntWalk.i64_in _ (by omega)
              have q5 : (k : Int) - 1 < (ts.length : Int) := by omega
              have q7 : (0 : Int) < (k : Int) := by omega
              by_cases hlt : y < d
              · have HN' : Hid (∀ q, k - 1 ≤ q → q < ts.length → (gw ts q).2.2.2.1 < d) := Lib.hid (fun q h1 h2 => by
                  by_cases e : q = k - 1
                  · rw [e, hy]; exact hlt
                  · exact HN.out q (by omega) h2)
                have m1 : decide (y < d) = true := decide_eq_true hlt
                subst e'
                clear hy
                go_wp2_with fail
                go_quiet (fail)
                go_wp2
                go_roundw
                case rel => exact ⟨k - 1, by omega, by go_num, HN', Lib.hid ⟨HBk.out.os, HBk.out.tape, HBk.out.output, HBk.out.size, HBk.out.block⟩⟩
                case measure => simp [intOf]; omega
              · have HPL : Hid (plcW 2 ts d = k) := Lib.hid (plc_back hk HQU.out HN.out (fun _ => by rw [hy]; exact hlt))
                have m1 : decide (y < d) = false := decide_eq_false hlt
                have HE' := Lib.hid e'
                subst e'
                clear hy
                go_wp2_with fail
                go_quiet (fail)
                go_wp2_with fail
                obtain ⟨wc, hwc⟩ : ∃ W, wr.drewN nq = W := ⟨_, rfl⟩
                have HAc : Hid (WlA (fun _ => True) wc (some ⟨bk, off, none⟩) ts) := Lib.hid (by rw [← hwc]; exact HAc.out.keep (Nat.le_refl _) (fun _ _ _ => rfl))
                have HXc : Hid (At5 wc w.heap.size 0 (a, b, c, d, f)) := Lib.hid (by rw [← hwc]; exact HXc.out.keep rfl)
                have HBc : Hid (Below w.heap.size w wc) := Lib.hid (by rw [← hwc]; exact ⟨HBc.out.os, HBc.out.tape, HBc.out.output, HBc.out.size, HBc.out.block⟩)
                rw [hwc]
                clear hwc hlt m1 q0 q1 q2 q3 q4 q5 q7 x3 y3
                obtain ⟨ao, c2, hAR, hc21, hc22, hrun⟩ := restW _ k (some ⟨bk, off, none⟩) cap ts wc.drew (show WlA (fun _ => True) wc.drew (some ⟨bk, off, none⟩) ts from HAc.out.keep (Nat.le_refl _) (fun _ _ _ => rfl)) hc1 (by omega)
                have HL0 : Hid (WlA (fun _ => True) wc.drew (some ⟨bk, off, none⟩) ts) := Lib.hid (show WlA (fun _ => True) wc.drew (some ⟨bk, off, none⟩) ts from HAc.out.keep (Nat.le_refl _) (fun _ _ _ => rfl))
                have HR0 := Lib.hid hAR
                have HBW : Hid (Below w.heap.size w wc.drew) := Lib.hid HBc.out.drew
                have HXW : Hid (At5 wc.drew w.heap.size 0 (a, b, c, d, f)) := Lib.hid (HXc.out.keep rfl)
                have kc1 : (k : Int) ≤ (cap : Int) := by omega
                have kc2 : k ≤ cap := by omega
                have kc3 : (0 : Int) ≤ (k : Int) := by omega
                clear hAR
                refine wp_region_held (S := fun w' => At5 w' w.heap.size 0 (a, b, c, d, f)) (by kernel_rfl) ?_
                obtain ⟨W0, hW0⟩ : ∃ W, wc.drew = W := ⟨_, rfl⟩
                change wpAnyH _ _ _ _ _ _ _ _ wc.drew
                rw [hW0] at HL0 HR0 HBW HXW ⊢
                have HB_W0 : Hid (Below W0.heap.size W0 W0) := Lib.hid (Below.refl _ _)
                have HSB : Hid (∀ V, Below W0.heap.size W0 V → At5 V w.heap.size 0 (a, b, c, d, f)) := Lib.hid (fun V hV => HXW.out.below hV)
                have HSZ := Lib.hid HBW.out.size
                clear hW0
                refine wpAnyH_read (i := 1) (v := .slice (some ⟨bk, off, none⟩) ts.length cap) rfl (by kernel_rfl) (by kernel_rfl) (by kernel_rfl) (fun _ _ _ h => h) (by rfl) (fun _ _ => rfl) (HSB.out _ HB_W0.out) ?_
                simp only [Act.put, List.setIfInBounds_toArray, List.set_cons_zero, List.set_cons_succ]
                refine wpAnyH_read (i := 2) (v := .int .i64 (k : Int)) rfl (by kernel_rfl) (by kernel_rfl) (by kernel_rfl) (fun _ _ _ h => h) (by rfl) (fun _ _ => rfl) (HSB.out _ HB_W0.out) ?_
                simp only [Act.put, List.setIfInBounds_toArray, List.set_cons_zero, List.set_cons_succ]
                refine wpAnyH_read (i := 3) (v := .slice (some ⟨bk, off, none⟩) k cap) rfl (by kernel_rfl) (by kernel_rfl) (by kernel_rfl) (fun _ _ _ h => h) (by rfl) ?_ (HSB.out _ HB_W0.out) ?_
                · rintro w' -
                  go_simp
                simp only [Act.put, List.setIfInBounds_toArray, List.set_cons_zero, List.set_cons_succ]
                refine wpAnyH_read (i := 5) (v := .agg #[.int .i64 a, .int .i64 b, .int .i64 c, .int .i64 d, .int .i64 f]) rfl (by kernel_rfl) (by kernel_rfl) (by kernel_rfl) (fun _ _ _ h => h) (by rfl) ?_ (HSB.out _ HB_W0.out) ?_
                · rintro w' ⟨h0, h1, h2, h3, h4⟩
                  simp only [Nat.zero_add] at h0 h1 h2 h3 h4
                  go_simp
                simp only [Act.put, List.setIfInBounds_toArray, List.set_cons_zero, List.set_cons_succ]
                refine wpAnyH_all (rs := [0, 6]) (by kernel_rfl) (by simp) (fun j hj => ?_)
                rcases List.mem_cons.1 hj with rfl | hj
                · refine wpOp_of_list rfl ?_
                  go_wp2_with fail
                  obtain ⟨V1, hV⟩ : ∃ V, W0.alloc (.cells #[] TW) = V := ⟨_, rfl⟩
                  have hb : Below W0.heap.size W0 V1 := by rw [← hV]; exact (Below.refl _ _).alloc (Nat.le_refl _) _
                  have hm : V1.heap[W0.heap.size]? = some (.cells #[] TW (0, 0)) := by rw [← hV]; exact heap_alloc_new W0 _
                  have HZ1 : Hid (V1.heap.size = W0.heap.size + 1) := Lib.hid (by rw [← hV]; simp)
                  rw [hV]
                  clear hV
                  have HB_V1 : Hid (Below W0.heap.size W0 V1) := Lib.hid (HB_W0.out.trans (hb.mono HB_W0.out.size))
                  have HR1 : Hid (OwnW W0.heap.size [] (.slice (some ⟨W0.heap.size, 0, none⟩) 0 0) V1) := Lib.hid (made_rowW hm HB_W0.out.size)
                  clear hb hm
                  refine ⟨HSB.out _ HB_V1.out, ?_⟩
                  refine wpAnyH_all (rs := [4, 6]) (by kernel_rfl) (by simp) (fun j hj => ?_)
                  rcases List.mem_cons.1 hj with rfl | hj
                  · refine wpOp_of_list rfl ?_
                    obtain ⟨v2, V2, hr, ho, hg, hb⟩ := append_restW V1 W0.heap.size (.slice (some ⟨W0.heap.size, 0, none⟩) 0 0) [] _ (some ⟨bk, off, none⟩) cap (ts.take k) HR1.out ((HL0.out.below HB_V1.out).take k) (by simp) (by rw [List.length_take]; omega) HB_V1.out.size
                    rw [show (ts.take k).length = k by rw [List.length_take]; omega] at hr
                    rw [List.nil_append] at ho
                    have HB_V2 : Hid (Below W0.heap.size W0 V2) := Lib.hid (HB_V1.out.trans hb)
                    have HR2 := Lib.hid ho
                    clear ho hg hb
                    go_wp2_with (at_builtin; refine append_by_run _ rfl _ _ 22 rfl _ _ rfl rfl _ _ hr ?_)
                    clear hr
                    refine ⟨HSB.out _ HB_V2.out, ?_⟩
                    refine wpAnyH_next (i := 6) rfl (by kernel_rfl) ?_
                    go_wp2_with fail
                    obtain ⟨V3, hV⟩ : ∃ V, V2.alloc (.cells #[.int .i64 a, .int .i64 b, .int .i64 c, .int .i64 d, .int .i64 f] TW) = V := ⟨_, rfl⟩
                    have hb : Below V2.heap.size V2 V3 := by rw [← hV]; exact (Below.refl _ _).alloc (Nat.le_refl _) _
                    have hm : V3.heap[V2.heap.size]? = some (.cells (encW (a, b, c, d, f)).toArray TW (0, 0)) := by rw [← hV]; exact heap_alloc_new V2 _
                    have HZ3 : Hid (V3.heap.size = V2.heap.size + 1) := Lib.hid (by rw [← hV]; simp)
                    rw [hV]
                    clear hV
                    have HB_V3 : Hid (Below W0.heap.size W0 V3) := Lib.hid (HB_V2.out.trans (hb.mono HB_V2.out.size))
                    have HR3 := Lib.hid (HR2.out.below hb)
                    have HY3 := Lib.hid hm
                    clear hb hm
                    refine ⟨HSB.out _ HB_V3.out, ?_⟩
                    refine wpAnyH_next (i := 7) rfl (by kernel_rfl) ?_
                    obtain ⟨v4, V4, gn, hr, ho, hg, hb, _⟩ := append_oneW V3 W0.heap.size v2 (ts.take k) (a, b, c, d, f) (V2.heap.size) HR3.out HY3.out (by rw [List.length_take]; omega) HB_V3.out.size
                    have HB_V4 : Hid (Below W0.heap.size W0 V4) := Lib.hid (HB_V3.out.trans hb)
                    have HR4 := Lib.hid ho
                    clear ho hg hb
                    go_wp2_with (at_builtin; refine append_by_run _ rfl _ _ 22 rfl _ _ rfl rfl _ _ hr ?_)
                    clear hr
                    refine ⟨HSB.out _ HB_V4.out, ?_⟩
                    refine wpAnyH_next (i := 8) rfl (by kernel_rfl) ?_
                    go_wp2_with fail
                    refine ⟨HSB.out _ HB_V4.out, ?_⟩
                    refine wpAnyH_done (by kernel_rfl) ?_ _
                    obtain ⟨v9, V9, hr9, ho9, hg9, hb9⟩ := append_restW V4 W0.heap.size v4 (ts.take k ++ [(a, b, c, d, f)]) _ ao c2 (ts.drop k) HR4.out (HR0.out.below HB_V4.out) (by simp; omega) (by rw [List.length_drop]; omega) HB_V4.out.size
                    rw [show (ts.drop k).length = ts.length - k by rw [List.length_drop]] at hr9
                    have HF9 : Hid (FwC w.heap.size V9 v9 (insW ts (plcW 2 ts d) (a, b, c, d, f))) := Lib.hid (by
                      have e : insW ts (plcW 2 ts d) (a, b, c, d, f) = ts.take k ++ [(a, b, c, d, f)] ++ ts.drop k := by unfold insW; rw [HPL.out]; simp
                      rw [e]
                      exact FwC.mono ho9.fresh HSZ.out)
                    have HB9 : Hid (Below w.heap.size w V9) := Lib.hid (HBW.out.trans ((HB_V4.out.trans hb9).mono HSZ.out))
                    clear ho9 hg9 hb9
                    go_wp2_with (at_builtin; refine append_by_run _ rfl _ _ 22 rfl _ _ rfl rfl _ _ hr9 ?_)
                    go_ret2
                    exact ⟨_, rfl, HF9.out, HB9.out⟩
                  · obtain rfl : j = 6 := by simpa using hj
                    refine wpOp_of_list rfl ?_
                    go_wp2_with fail
                    obtain ⟨V21, hV⟩ : ∃ V, V1.alloc (.cells #[.int .i64 a, .int .i64 b, .int .i64 c, .int .i64 d, .int .i64 f] TW) = V := ⟨_, rfl⟩
                    have hb : Below V1.heap.size V1 V21 := by rw [← hV]; exact (Below.refl _ _).alloc (Nat.le_refl _) _
                    have hm : V21.heap[V1.heap.size]? = some (.cells (encW (a, b, c, d, f)).toArray TW (0, 0)) := by rw [← hV]; exact heap_alloc_new V1 _
                    have HZ21 : Hid (V21.heap.size = V1.heap.size + 1) := Lib.hid (by rw [← hV]; simp)
                    rw [hV]
                    clear hV
                    have HB_V21 : Hid (Below W0.heap.size W0 V21) := Lib.hid (HB_V1.out.trans (hb.mono HB_V1.out.size))
                    have HR21 := Lib.hid (HR1.out.below hb)
                    have HY21 := Lib.hid hm
                    clear hb hm
                    refine ⟨HSB.out _ HB_V21.out, ?_⟩
                    refine wpAnyH_next (i := 4) rfl (by kernel_rfl) ?_
                    obtain ⟨v22, V22, hr, ho, hg, hb⟩ := append_restW V21 W0.heap.size (.slice (some ⟨W0.heap.size, 0, none⟩) 0 0) [] _ (some ⟨bk, off, none⟩) cap (ts.take k) HR21.out ((HL0.out.below HB_V21.out).take k) (by simp) (by rw [List.length_take]; omega) HB_V21.out.size
                    rw [show (ts.take k).length = k by rw [List.length_take]; omega] at hr
                    rw [List.nil_append] at ho
                    have HB_V22 : Hid (Below W0.heap.size W0 V22) := Lib.hid (HB_V21.out.trans hb)
                    have HR22 := Lib.hid ho
                    have HY22 : Hid (V22.heap[V1.heap.size]? = some (.cells (encW (a, b, c, d, f)).toArray TW (0, 0))) := Lib.hid ((hg.block _ (Array.getElem?_eq_some_iff.1 HY21.out).1 (by simp [Value.ownBlock]; have := HZ1.out; omega)).trans HY21.out)
                    clear ho hg hb
                    go_wp2_with (at_builtin; refine append_by_run _ rfl _ _ 22 rfl _ _ rfl rfl _ _ hr ?_)
                    clear hr
                    refine ⟨HSB.out _ HB_V22.out, ?_⟩
                    refine wpAnyH_next (i := 7) rfl (by kernel_rfl) ?_
                    obtain ⟨v23, V23, gn, hr, ho, hg, hb, _⟩ := append_oneW V22 W0.heap.size v22 (ts.take k) (a, b, c, d, f) (V1.heap.size) HR22.out HY22.out (by rw [List.length_take]; omega) HB_V22.out.size
                    have HB_V23 : Hid (Below W0.heap.size W0 V23) := Lib.hid (HB_V22.out.trans hb)
                    have HR23 := Lib.hid ho
                    clear ho hg hb
                    go_wp2_with (at_builtin; refine append_by_run _ rfl _ _ 22 rfl _ _ rfl rfl _ _ hr ?_)
                    clear hr
                    refine ⟨HSB.out _ HB_V23.out, ?_⟩
                    refine wpAnyH_next (i := 8) rfl (by kernel_rfl) ?_
                    go_wp2_with fail
                    refine ⟨HSB.out _ HB_V23.out, ?_⟩
                    refine wpAnyH_done (by kernel_rfl) ?_ _
                    obtain ⟨v9, V9, hr9, ho9, hg9, hb9⟩ := append_restW V23 W0.heap.size v23 (ts.take k ++ [(a, b, c, d, f)]) _ ao c2 (ts.drop k) HR23.out (HR0.out.below HB_V23.out) (by simp; omega) (by rw [List.length_drop]; omega) HB_V23.out.size
                    rw [show (ts.drop k).length = ts.length - k by rw [List.length_drop]] at hr9
                    have HF9 : Hid (FwC w.heap.size V9 v9 (insW ts (plcW 2 ts d) (a, b, c, d, f))) := Lib.hid (by
                      have e : insW ts (plcW 2 ts d) (a, b, c, d, f) = ts.take k ++ [(a, b, c, d, f)] ++ ts.drop k := by unfold insW; rw [HPL.out]; simp
                      rw [e]
                      exact FwC.mono ho9.fresh HSZ.out)
                    have HB9 : Hid (Below w.heap.size w V9) := Lib.hid (HBW.out.trans ((HB_V23.out.trans hb9).mono HSZ.out))
                    clear ho9 hg9 hb9
                    go_wp2_with (at_builtin; refine append_by_run _ rfl _ _ 22 rfl _ _ rfl rfl _ _ hr9 ?_)
                    go_ret2
                    exact ⟨_, rfl, HF9.out, HB9.out⟩
                · obtain rfl : j = 6 := by simpa using hj
                  refine wpOp_of_list rfl ?_
                  go_wp2_with fail
                  obtain ⟨V41, hV⟩ : ∃ V, W0.alloc (.cells #[.int .i64 a, .int .i64 b, .int .i64 c, .int .i64 d, .int .i64 f] TW) = V := ⟨_, rfl⟩
                  have hb : Below W0.heap.size W0 V41 := by rw [← hV]; exact (Below.refl _ _).alloc (Nat.le_refl _) _
                  have hm : V41.heap[W0.heap.size]? = some (.cells (encW (a, b, c, d, f)).toArray TW (0, 0)) := by rw [← hV]; exact heap_alloc_new W0 _
                  have HZ41 : Hid (V41.heap.size = W0.heap.size + 1) := Lib.hid (by rw [← hV]; simp)
                  rw [hV]
                  clear hV
                  have HB_V41 : Hid (Below W0.heap.size W0 V41) := Lib.hid (HB_W0.out.trans (hb.mono HB_W0.out.size))
                  have HY41 := Lib.hid hm
                  clear hb hm
                  refine ⟨HSB.out _ HB_V41.out, ?_⟩
                  refine wpAnyH_next (i := 0) rfl (by kernel_rfl) ?_
                  go_wp2_with fail
                  obtain ⟨V42, hV⟩ : ∃ V, V41.alloc (.cells #[] TW) = V := ⟨_, rfl⟩
                  have hb : Below V41.heap.size V41 V42 := by rw [← hV]; exact (Below.refl _ _).alloc (Nat.le_refl _) _
                  have hm : V42.heap[V41.heap.size]? = some (.cells #[] TW (0, 0)) := by rw [← hV]; exact heap_alloc_new V41 _
                  have HZ42 : Hid (V42.heap.size = V41.heap.size + 1) := Lib.hid (by rw [← hV]; simp)
                  rw [hV]
                  clear hV
                  have HB_V42 : Hid (Below W0.heap.size W0 V42) := Lib.hid (HB_V41.out.trans (hb.mono HB_V41.out.size))
                  have HY42 := Lib.hid ((hb.block _ (by have := HZ41.out; omega)).trans HY41.out)
                  have HR42 : Hid (OwnW W0.heap.size [] (.slice (some ⟨V41.heap.size, 0, none⟩) 0 0) V42) := Lib.hid (made_rowW hm HB_V41.out.size)
                  clear hb hm
                  refine ⟨HSB.out _ HB_V42.out, ?_⟩
                  refine wpAnyH_next (i := 4) rfl (by kernel_rfl) ?_
                  obtain ⟨v43, V43, hr, ho, hg, hb⟩ := append_restW V42 W0.heap.size (.slice (some ⟨V41.heap.size, 0, none⟩) 0 0) [] _ (some ⟨bk, off, none⟩) cap (ts.take k) HR42.out ((HL0.out.below HB_V42.out).take k) (by simp) (by rw [List.length_take]; omega) HB_V42.out.size
                  rw [show (ts.take k).length = k by rw [List.length_take]; omega] at hr
                  rw [List.nil_append] at ho
                  have HB_V43 : Hid (Below W0.heap.size W0 V43) := Lib.hid (HB_V42.out.trans hb)
                  have HR43 := Lib.hid ho
                  have HY43 : Hid (V43.heap[W0.heap.size]? = some (.cells (encW (a, b, c, d, f)).toArray TW (0, 0))) := Lib.hid ((hg.block _ (Array.getElem?_eq_some_iff.1 HY42.out).1 (by simp [Value.ownBlock]; have := HZ41.out; omega)).trans HY42.out)
                  clear ho hg hb
                  go_wp2_with (at_builtin; refine append_by_run _ rfl _ _ 22 rfl _ _ rfl rfl _ _ hr ?_)
                  clear hr
                  refine ⟨HSB.out _ HB_V43.out, ?_⟩
                  refine wpAnyH_next (i := 7) rfl (by kernel_rfl) ?_
                  obtain ⟨v44, V44, gn, hr, ho, hg, hb, _⟩ := append_oneW V43 W0.heap.size v43 (ts.take k) (a, b, c, d, f) (W0.heap.size) HR43.out HY43.out (by rw [List.length_take]; omega) HB_V43.out.size
                  have HB_V44 : Hid (Below W0.heap.size W0 V44) := Lib.hid (HB_V43.out.trans hb)
                  have HR44 := Lib.hid ho
                  clear ho hg hb
                  go_wp2_with (at_builtin; refine append_by_run _ rfl _ _ 22 rfl _ _ rfl rfl _ _ hr ?_)
                  clear hr
                  refine ⟨HSB.out _ HB_V44.out, ?_⟩
                  refine wpAnyH_next (i := 8) rfl (by kernel_rfl) ?_
                  go_wp2_with fail
                  refine ⟨HSB.out _ HB_V44.out, ?_⟩
                  refine wpAnyH_done (by kernel_rfl) ?_ _
                  obtain ⟨v9, V9, hr9, ho9, hg9, hb9⟩ := append_restW V44 W0.heap.size v44 (ts.take k ++ [(a, b, c, d, f)]) _ ao c2 (ts.drop k) HR44.out (HR0.out.below HB_V44.out) (by simp; omega) (by rw [List.length_drop]; omega) HB_V44.out.size
                  rw [show (ts.drop k).length = ts.length - k by rw [List.length_drop]] at hr9
                  have HF9 : Hid (FwC w.heap.size V9 v9 (insW ts (plcW 2 ts d) (a, b, c, d, f))) := Lib.hid (by
                    have e : insW ts (plcW 2 ts d) (a, b, c, d, f) = ts.take k ++ [(a, b, c, d, f)] ++ ts.drop k := by unfold insW; rw [HPL.out]; simp
                    rw [e]
                    exact FwC.mono ho9.fresh HSZ.out)
                  have HB9 : Hid (Below w.heap.size w V9) := Lib.hid (HBW.out.trans ((HB_V44.out.trans hb9).mono HSZ.out))
                  clear ho9 hg9 hb9
                  go_wp2_with (at_builtin; refine append_by_run _ rfl _ _ 22 rfl _ _ rfl rfl _ _ hr9 ?_)
                  go_ret2
                  exact ⟨_, rfl, HF9.out, HB9.out⟩
  · have he : pshE kd ts (a, b, c, d, f) = wchE kd ts := by unfold pshE; rw [if_pos hc]
    have hr : pshQ kd ts (a, b, c, d, f) = [] := by unfold pshQ; rw [if_neg (by rw [he]; exact hc)]
    rw [he, hr]
    obtain ⟨x, hx⟩ : ∃ x, wchE kd ts = x := ⟨_, rfl⟩
    rw [hx] at hc hCK ⊢
    have hxb : (x != 0) = true := by simpa using hc
    have HCK := Lib.hid hCK
    clear hc he hr hCK hx
    go_enter Try.func14, Try.ntmps14
    go_wp2_with fail
    rw [HW1.out]
    refine HCK.out.mono ?_
    rintro e w2 ⟨rfl, b2⟩
    have HB2 := Lib.hid ((HB1.out.trans (b2.mono HB1.out.size)).alloc (Nat.le_trans HB1.out.size b2.size) (.cells #[] TW))
    clear b2
    go_wp2
    go_ret2
    exact ⟨_, rfl, FwC.nil _ _ _ _ (by omega), HB2.out⟩

end Go.Proofs.Ytonjempbphnimaa
