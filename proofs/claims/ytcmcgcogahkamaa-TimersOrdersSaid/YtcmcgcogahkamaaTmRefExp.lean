/-
  What the reference's Expire of timers returns.
-/
import Derived.Laws.AppendOwnNone
import Derived.Test.YtcmcgcogahkamaaTmRefB
namespace Go.Proofs.Ytcmcgcogahkamaa
open Go.RowKit Go.Shelf

theorem made_row {V : World} {B x : Nat} (h : V.heap[x]? = some (.cells #[] TT (0, 0))) (hB : B ≤ x) : V.ownsRow B TT 3 (.slice (some ⟨x, 0, none⟩) 0 0) 0 [] := ⟨rfl, .inr ⟨x, 0, #[], rfl, hB, h, Nat.le_refl _, Nat.zero_le _, rfl, rfl⟩⟩
/-- Timers are appended to an empty row. -/
theorem append_new (W : World) (B x : Nat) (φ : Nat → Prop) (ad : Option Addr) (c : Nat) (zs : List Tm) (h : W.heap[x]? = some (.cells #[] TT (0, 0))) (hB : B ≤ x) (hA : TmA φ W ad zs) (hl : zs.length ≤ 1000) (hBW : B ≤ W.heap.size) :
    ∃ v' w', (Builtin.append_ #[22, 22] 22 #[.slice (some ⟨x, 0, none⟩) 0 0, .slice ad zs.length c]).run Try.prog W = .ok v' w' ∧ OwnT B zs v' w' ∧ W.grownBy w' (some x) ∧ Below B W w' := by
  obtain ⟨i3, ki, kz0, kz1, kz2⟩ := info_parts infoT
  have hr := made_row h hB
  cases ad with
  | none =>
    have hz : zs = [] := by
      cases zs with
      | nil => rfl
      | cons y ys =>
        obtain ⟨b, off, e, _⟩ := hA 0 (by simp)
        cases e
    subst hz
    have hrun : (Builtin.append_ #[22, 22] 22 #[.slice (some ⟨x, 0, none⟩) 0 0, .slice none 0 c]).run Try.prog W = .ok (.slice (some ⟨x, 0, none⟩) 0 0) W := by
      simp [Builtin.append_, run_underlying Try.underlying22, sizeOf, typeInfo, ki, Builtin.lenOf, Builtin.firstCells, storeCells]
    exact ⟨_, _, hrun, hr, ⟨rfl, rfl, rfl, Nat.le_refl _, fun _ _ _ => rfl⟩, Below.refl _ _⟩
  | some q =>
    have hc : ∀ j u, (tmV zs)[j]? = some u → W.cell? (q.add j) = some u := by
      intro j u hj
      have hlt : j < (tmV zs).length := (List.getElem?_eq_some_iff.1 hj).1
      rw [tmV_length] at hlt
      obtain ⟨b, off, e, _⟩ := hA 0 (by omega)
      cases e
      rw [Addr.add_lit]
      exact hA.cells j u hj
    obtain ⟨v', w', h1, h2, h3, h4⟩ := run_append_own (P := Try.prog) W B 22 22 TT i3 (.agg #[.int .i64 0, .int .i64 0, .int .i64 0]) 3 24 Try.underlying22 ki kz0 kz1 kz2 rfl (by decide) _ _ _ hr q zs.length c (tmV zs) (by rw [tmV_length]) hc (tmV_one _) (by unfold maxLen; omega) (by omega) hBW
    refine ⟨v', w', h1, ?_, h3, (Below.refl B W).grown h3 hBW (fun k e => by cases e; exact hB)⟩
    unfold OwnT
    simpa using h2
/-- What is known of other timers stays so when an empty block is appended to. -/
theorem ftc_keep {n : Nat} {V V' : World} {v : Value} {ts : List Tm} {x : Nat} (hF : FtC n V v ts) (hx : V.heap[x]? = some (.cells #[] TT (0, 0))) (hg : V.grownBy V' (some x)) : FtC n V' v ts := by
  obtain ⟨a, c, e, h1, h2, h3⟩ := hF
  refine ⟨a, c, e, h1, h2, fun j hj => ?_⟩
  obtain ⟨b, off, e1, e2, e3, e4, e5, e6⟩ := h3 j hj
  have hne : b ≠ x := by
    rintro rfl
    rw [Lib.cell_of_heap hx] at e4
    simp at e4
  have hb := hg.block b e3 (fun e => hne (by injection e))
  exact ⟨b, off, e1, e2, Nat.lt_of_lt_of_le e3 hg.size, (World.cell?_of_block (a := ⟨b, off + j * 3, none⟩) hb).trans e4, (World.cell?_of_block (a := ⟨b, off + j * 3 + 1, none⟩) hb).trans e5, (World.cell?_of_block (a := ⟨b, off + j * 3 + 2, none⟩) hb).trans e6⟩

set_option maxRecDepth 100000 in
set_option maxHeartbeats 4000000 in
/-- Expire of a queue. -/
theorem rexp_ok (ad : Option Addr) (cap : Nat) (ts : List Tm) (now : Int) (w : World) (hA : LowT w.heap.size w ad ts) (hl : ts.length ≤ 1000) (hcap : ts.length ≤ cap) (hcm : cap ≤ 9223372036854775807) (hc : chkE ts = 0) :
    Calls Try.prog 23 #[.slice ad ts.length cap, .int .i64 now] w (RetTT (ts.take (dueN ts now)) (ts.drop (dueN ts now)) w) := by
  have hCK := rCheck_any _ ad cap ts w hA hl
  rw [hc] at hCK
  have HCK := Lib.hid hCK
  have HA := Lib.hid hA
  clear hCK hA hc
  go_enter Try.func23, Try.ntmps23
  go_wp2_with fail
  refine HCK.out.mono ?_
  rintro e w2 ⟨rfl, b2⟩
  have HA2 := Lib.hid (HA.out.below b2)
  have HB2 := Lib.hid b2
  clear b2
  go_wp2
  go_loopw [6] (fun x wr => ∃ k : Nat, k ≤ ts.length ∧ x = .int .i64 k ∧ Hid (∀ q, q < k → (gt ts q).1 ≤ now) ∧ w2 = wr) (fun x _ => ts.length - (intOf x).toNat)
  case atStart => exact ⟨0, Nat.zero_le _, rfl, Lib.hid (fun q hq => by omega), rfl⟩
  case round =>
    obtain ⟨k, hk, rfl, HN, rfl⟩ := hrel
    by_cases hgo : k < ts.length ∧ (gt ts k).1 ≤ now
    · obtain ⟨hkt, hle⟩ := hgo
      have k1 : (k : Int) < (ts.length : Int) := by omega
      obtain ⟨bk, off, rfl, _, _, c0, _, _⟩ := HA2.out k hkt
      have HN' : Hid (∀ q, q < k + 1 → (gt ts q).1 ≤ now) := Lib.hid (fun q hq => by
        by_cases e : q = k
        · rw [e]; exact hle
        · exact HN.out q (by omega))
      obtain ⟨a, ha⟩ : ∃ a, (gt ts k).1 = a := ⟨_, rfl⟩
      rw [ha] at c0 hle
      clear ha
      go_wp2
      go_roundw
      case rel => exact ⟨k + 1, by omega, by go_num, HN', trivial⟩
      case measure => simp [intOf]; omega
    · have hkd : dueN ts now = k := dueN_end hk HN.out (fun hlt => by
        have : ¬ (gt ts k).1 ≤ now := fun h => hgo ⟨hlt, h⟩
        omega)
      have HKD := Lib.hid hkd
      obtain ⟨ao, c2, hAR, hc21, hc22, hrun⟩ := restT _ k ad cap ts w2.drew HA2.out hcap hk
      have HL0 : Hid (LowT w2.drew.heap.size w2.drew ad ts) := Lib.hid (TmA.mono (show TmA _ w2.drew ad ts from HA2.out) (fun b hb _ => hb))
      have HR0 : Hid (LowT w2.drew.heap.size w2.drew ao (ts.drop k)) := Lib.hid (hAR.mono (fun b hb _ => hb))
      obtain ⟨W0, hW0⟩ : ∃ W, w2.drew = W := ⟨_, rfl⟩
      have HB_W0 : Hid (Below W0.heap.size W0 W0) := Lib.hid (Below.refl _ _)
      have kc1 : (k : Int) ≤ (cap : Int) := by omega
      have kc2 : k ≤ cap := by omega
      have kc3 : (0 : Int) ≤ (k : Int) := by omega
      have HBW : Hid (Below w.heap.size w W0) := Lib.hid (by rw [← hW0]; exact HB2.out.drew)
      have HSZ := Lib.hid HBW.out.size
      rw [hW0] at HL0 HR0
      clear hAR hkd
      by_cases hlt : k < ts.length
      · have k1 : (k : Int) < (ts.length : Int) := by omega
        have hgt : ¬ (gt ts k).1 ≤ now := fun h => hgo ⟨hlt, h⟩
        obtain ⟨bk, off, rfl, _, _, c0, _, _⟩ := HA2.out k hlt
        obtain ⟨a, ha⟩ : ∃ a, (gt ts k).1 = a := ⟨_, rfl⟩
        rw [ha] at c0 hgt
        clear ha hgo
        go_wp2_with fail
        go_wp2
        refine wp_region_held (S := fun _ => True) (by kernel_rfl) ?_
        change wpAnyH _ _ _ _ _ _ _ _ w2.drew
        rw [hW0]
        clear hW0
        refine wpAnyH_read (i := 1) (v := .slice (some ⟨bk, off, none⟩) ts.length cap) rfl (by kernel_rfl) (by kernel_rfl) (by kernel_rfl) (fun _ _ _ h => h) (by rfl) (fun _ _ => rfl) trivial ?_
        simp only [Act.put, List.setIfInBounds_toArray, List.set_cons_zero, List.set_cons_succ]
        refine wpAnyH_read (i := 2) (v := .int .i64 (k : Int)) rfl (by kernel_rfl) (by kernel_rfl) (by kernel_rfl) (fun _ _ _ h => h) (by rfl) (fun _ _ => rfl) trivial ?_
        simp only [Act.put, List.setIfInBounds_toArray, List.set_cons_zero, List.set_cons_succ]
        refine wpAnyH_read (i := 3) (v := .slice (some ⟨bk, off, none⟩) k cap) rfl (by kernel_rfl) (by kernel_rfl) (by kernel_rfl) (fun _ _ _ h => h) (by rfl) ?_ trivial ?_
        · rintro w' -
          go_simp
        simp only [Act.put, List.setIfInBounds_toArray, List.set_cons_zero, List.set_cons_succ]
        refine wpAnyH_read (i := 6) (v := .slice (some ⟨bk, off, none⟩) ts.length cap) rfl (by kernel_rfl) (by kernel_rfl) (by kernel_rfl) (fun _ _ _ h => h) (by rfl) (fun _ _ => rfl) trivial ?_
        simp only [Act.put, List.setIfInBounds_toArray, List.set_cons_zero, List.set_cons_succ]
        refine wpAnyH_read (i := 7) (v := .int .i64 (k : Int)) rfl (by kernel_rfl) (by kernel_rfl) (by kernel_rfl) (fun _ _ _ h => h) (by rfl) (fun _ _ => rfl) trivial ?_
        simp only [Act.put, List.setIfInBounds_toArray, List.set_cons_zero, List.set_cons_succ]
        refine wpAnyH_read (i := 8) (v := .slice ao (ts.length - k) c2) rfl (by kernel_rfl) (by kernel_rfl) (by kernel_rfl) (fun _ _ _ h => h) (by rfl) ?_ trivial ?_
        · rintro w' -
          go_simp
        simp only [Act.put, List.setIfInBounds_toArray, List.set_cons_zero, List.set_cons_succ]
        refine wpAnyH_all (rs := [0, 5]) (by kernel_rfl) (by simp) (fun j hj => ?_)
        rcases List.mem_cons.1 hj with rfl | hj
        · refine wpOp_of_list rfl ?_
          go_wp2_with fail
          obtain ⟨V1, hV1⟩ : ∃ V, W0.alloc (.cells #[] TT) = V := ⟨_, rfl⟩
          have hm1 : V1.heap[W0.heap.size]? = some (.cells #[] TT) := by rw [← hV1]; exact World.alloc_heap_new W0 _
          have hs1 : V1.heap.size = W0.heap.size + 1 := by rw [← hV1]; simp
          have hb1 : Below W0.heap.size W0 V1 := by rw [← hV1]; exact (Below.refl _ _).alloc (Nat.le_refl _) _
          rw [hV1]
          clear hV1
          have HB_V1 : Hid (Below W0.heap.size W0 V1) := Lib.hid (HB_W0.out.trans (hb1.mono HB_W0.out.size))
          have HS1 : Hid (W0.heap.size < V1.heap.size) := Lib.hid (by omega)
          have HX1 : Hid (W0.heap.size ≤ W0.heap.size) := Lib.hid HB_W0.out.size
          have HMx_1 := Lib.hid hm1
          clear hm1 hs1 hb1
          try refine And.intro trivial ?_
          refine wpAnyH_all (rs := [4, 5]) (by kernel_rfl) (by simp) (fun j hj => ?_)
          rcases List.mem_cons.1 hj with rfl | hj
          · refine wpOp_of_list rfl ?_
            obtain ⟨v2, V2, hr2, ho2, hg2, hb2⟩ := append_new V1 W0.heap.size W0.heap.size _ (some ⟨bk, off, none⟩) cap (ts.take k) HMx_1.out HX1.out (((HL0.out.below HB_V1.out).take k)) (by rw [List.length_take]; omega) HB_V1.out.size
            rw [show (ts.take k).length = k by rw [List.length_take]; omega] at hr2
            have HB_V2 : Hid (Below W0.heap.size W0 V2) := Lib.hid (HB_V1.out.trans hb2)
            have HFu_2 : Hid (FtC W0.heap.size V2 v2 (ts.take k)) := Lib.hid ho2.fresh
            clear ho2 hg2 hb2
            go_wp2_with (at_builtin; refine append_by_run _ rfl _ _ 22 rfl _ _ rfl rfl _ _ hr2 ?_)
            clear hr2
            try refine And.intro trivial ?_
            refine wpAnyH_next (i := 5) rfl (by kernel_rfl) ?_
            go_wp2_with fail
            obtain ⟨V3, hV3⟩ : ∃ V, V2.alloc (.cells #[] TT) = V := ⟨_, rfl⟩
            have hm3 : V3.heap[V2.heap.size]? = some (.cells #[] TT) := by rw [← hV3]; exact World.alloc_heap_new V2 _
            have hs3 : V3.heap.size = V2.heap.size + 1 := by rw [← hV3]; simp
            have hb3 : Below V2.heap.size V2 V3 := by rw [← hV3]; exact (Below.refl _ _).alloc (Nat.le_refl _) _
            rw [hV3]
            clear hV3
            have HB_V3 : Hid (Below W0.heap.size W0 V3) := Lib.hid (HB_V2.out.trans (hb3.mono HB_V2.out.size))
            have HS3 : Hid (V2.heap.size < V3.heap.size) := Lib.hid (by omega)
            have HX3 : Hid (W0.heap.size ≤ V2.heap.size) := Lib.hid HB_V2.out.size
            have HFu_3 : Hid (FtC W0.heap.size V3 v2 (ts.take k)) := Lib.hid (HFu_2.out.below hb3)
            have HMy_3 := Lib.hid hm3
            clear hm3 hs3 hb3
            try refine And.intro trivial ?_
            refine wpAnyH_next (i := 9) rfl (by kernel_rfl) ?_
            obtain ⟨v4, V4, hr4, ho4, hg4, hb4⟩ := append_new V3 W0.heap.size V2.heap.size _ ao c2 (ts.drop k) HMy_3.out HX3.out ((HR0.out.below HB_V3.out)) (by rw [List.length_drop]; omega) HB_V3.out.size
            rw [show (ts.drop k).length = ts.length - k by rw [List.length_drop]] at hr4
            have HB_V4 : Hid (Below W0.heap.size W0 V4) := Lib.hid (HB_V3.out.trans hb4)
            have HFu_4 : Hid (FtC W0.heap.size V4 v2 (ts.take k)) := Lib.hid (ftc_keep HFu_3.out HMy_3.out hg4)
            have HFv_4 : Hid (FtC W0.heap.size V4 v4 (ts.drop k)) := Lib.hid ho4.fresh
            clear ho4 hg4 hb4
            go_wp2_with (at_builtin; refine append_by_run _ rfl _ _ 22 rfl _ _ rfl rfl _ _ hr4 ?_)
            clear hr4
            try refine And.intro trivial ?_
            refine wpAnyH_next (i := 10) rfl (by kernel_rfl) ?_
            go_wp2_with fail
            try refine And.intro trivial ?_
            refine wpAnyH_next (i := 11) rfl (by kernel_rfl) ?_
            go_wp2_with fail
            try refine And.intro trivial ?_
            refine wpAnyH_done (by kernel_rfl) ?_ _
            go_wp2
            go_ret2
            exact ⟨_, _, rfl, by rw [HKD.out]; exact FtC.mono HFu_4.out HSZ.out, by rw [HKD.out]; exact FtC.mono HFv_4.out HSZ.out, HBW.out.trans (HB_V4.out.mono HSZ.out)⟩
          · obtain rfl : j = 5 := by simpa using hj
            refine wpOp_of_list rfl ?_
            go_wp2_with fail
            obtain ⟨V21, hV21⟩ : ∃ V, V1.alloc (.cells #[] TT) = V := ⟨_, rfl⟩
            have hm21 : V21.heap[V1.heap.size]? = some (.cells #[] TT) := by rw [← hV21]; exact World.alloc_heap_new V1 _
            have hs21 : V21.heap.size = V1.heap.size + 1 := by rw [← hV21]; simp
            have hb21 : Below V1.heap.size V1 V21 := by rw [← hV21]; exact (Below.refl _ _).alloc (Nat.le_refl _) _
            rw [hV21]
            clear hV21
            have HB_V21 : Hid (Below W0.heap.size W0 V21) := Lib.hid (HB_V1.out.trans (hb21.mono HB_V1.out.size))
            have HS21 : Hid (V1.heap.size < V21.heap.size) := Lib.hid (by omega)
            have HX21 : Hid (W0.heap.size ≤ V1.heap.size) := Lib.hid HB_V1.out.size
            have HMx_21 : Hid (V21.heap[W0.heap.size]? = some (.cells #[] TT)) := Lib.hid ((hb21.block _ (Array.getElem?_eq_some_iff.1 HMx_1.out).1).trans HMx_1.out)
            have HMy_21 := Lib.hid hm21
            clear hm21 hs21 hb21
            try refine And.intro trivial ?_
            refine wpAnyH_next (i := 4) rfl (by kernel_rfl) ?_
            obtain ⟨v22, V22, hr22, ho22, hg22, hb22⟩ := append_new V21 W0.heap.size W0.heap.size _ (some ⟨bk, off, none⟩) cap (ts.take k) HMx_21.out HX1.out (((HL0.out.below HB_V21.out).take k)) (by rw [List.length_take]; omega) HB_V21.out.size
            rw [show (ts.take k).length = k by rw [List.length_take]; omega] at hr22
            have HB_V22 : Hid (Below W0.heap.size W0 V22) := Lib.hid (HB_V21.out.trans hb22)
            have HMy_22 : Hid (V22.heap[V1.heap.size]? = some (.cells #[] TT)) := Lib.hid ((hg22.block _ (Array.getElem?_eq_some_iff.1 HMy_21.out).1 (fun e => by have := And.intro HS1.out HS21.out; injection e with e; omega)).trans HMy_21.out)
            have HFu_22 : Hid (FtC W0.heap.size V22 v22 (ts.take k)) := Lib.hid ho22.fresh
            clear ho22 hg22 hb22
            go_wp2_with (at_builtin; refine append_by_run _ rfl _ _ 22 rfl _ _ rfl rfl _ _ hr22 ?_)
            clear hr22
            try refine And.intro trivial ?_
            refine wpAnyH_next (i := 9) rfl (by kernel_rfl) ?_
            obtain ⟨v23, V23, hr23, ho23, hg23, hb23⟩ := append_new V22 W0.heap.size V1.heap.size _ ao c2 (ts.drop k) HMy_22.out HX21.out ((HR0.out.below HB_V22.out)) (by rw [List.length_drop]; omega) HB_V22.out.size
            rw [show (ts.drop k).length = ts.length - k by rw [List.length_drop]] at hr23
            have HB_V23 : Hid (Below W0.heap.size W0 V23) := Lib.hid (HB_V22.out.trans hb23)
            have HFu_23 : Hid (FtC W0.heap.size V23 v22 (ts.take k)) := Lib.hid (ftc_keep HFu_22.out HMy_22.out hg23)
            have HFv_23 : Hid (FtC W0.heap.size V23 v23 (ts.drop k)) := Lib.hid ho23.fresh
            clear ho23 hg23 hb23
            go_wp2_with (at_builtin; refine append_by_run _ rfl _ _ 22 rfl _ _ rfl rfl _ _ hr23 ?_)
            clear hr23
            try refine And.intro trivial ?_
            refine wpAnyH_next (i := 10) rfl (by kernel_rfl) ?_
            go_wp2_with fail
            try refine And.intro trivial ?_
            refine wpAnyH_next (i := 11) rfl (by kernel_rfl) ?_
            go_wp2_with fail
            try refine And.intro trivial ?_
            refine wpAnyH_done (by kernel_rfl) ?_ _
            go_wp2
            go_ret2
            exact ⟨_, _, rfl, by rw [HKD.out]; exact FtC.mono HFu_23.out HSZ.out, by rw [HKD.out]; exact FtC.mono HFv_23.out HSZ.out, HBW.out.trans (HB_V23.out.mono HSZ.out)⟩
        · obtain rfl : j = 5 := by simpa using hj
          refine wpOp_of_list rfl ?_
          go_wp2_with fail
          obtain ⟨V41, hV41⟩ : ∃ V, W0.alloc (.cells #[] TT) = V := ⟨_, rfl⟩
          have hm41 : V41.heap[W0.heap.size]? = some (.cells #[] TT) := by rw [← hV41]; exact World.alloc_heap_new W0 _
          have hs41 : V41.heap.size = W0.heap.size + 1 := by rw [← hV41]; simp
          have hb41 : Below W0.heap.size W0 V41 := by rw [← hV41]; exact (Below.refl _ _).alloc (Nat.le_refl _) _
          rw [hV41]
          clear hV41
          have HB_V41 : Hid (Below W0.heap.size W0 V41) := Lib.hid (HB_W0.out.trans (hb41.mono HB_W0.out.size))
          have HS41 : Hid (W0.heap.size < V41.heap.size) := Lib.hid (by omega)
          have HX41 : Hid (W0.heap.size ≤ W0.heap.size) := Lib.hid HB_W0.out.size
          have HMy_41 := Lib.hid hm41
          clear hm41 hs41 hb41
          try refine And.intro trivial ?_
          refine wpAnyH_next (i := 0) rfl (by kernel_rfl) ?_
          go_wp2_with fail
          obtain ⟨V42, hV42⟩ : ∃ V, V41.alloc (.cells #[] TT) = V := ⟨_, rfl⟩
          have hm42 : V42.heap[V41.heap.size]? = some (.cells #[] TT) := by rw [← hV42]; exact World.alloc_heap_new V41 _
          have hs42 : V42.heap.size = V41.heap.size + 1 := by rw [← hV42]; simp
          have hb42 : Below V41.heap.size V41 V42 := by rw [← hV42]; exact (Below.refl _ _).alloc (Nat.le_refl _) _
          rw [hV42]
          clear hV42
          have HB_V42 : Hid (Below W0.heap.size W0 V42) := Lib.hid (HB_V41.out.trans (hb42.mono HB_V41.out.size))
          have HS42 : Hid (V41.heap.size < V42.heap.size) := Lib.hid (by omega)
          have HX42 : Hid (W0.heap.size ≤ V41.heap.size) := Lib.hid HB_V41.out.size
          have HMy_42 : Hid (V42.heap[W0.heap.size]? = some (.cells #[] TT)) := Lib.hid ((hb42.block _ (Array.getElem?_eq_some_iff.1 HMy_41.out).1).trans HMy_41.out)
          have HMx_42 := Lib.hid hm42
          clear hm42 hs42 hb42
          try refine And.intro trivial ?_
          refine wpAnyH_next (i := 4) rfl (by kernel_rfl) ?_
          obtain ⟨v43, V43, hr43, ho43, hg43, hb43⟩ := append_new V42 W0.heap.size V41.heap.size _ (some ⟨bk, off, none⟩) cap (ts.take k) HMx_42.out HX42.out (((HL0.out.below HB_V42.out).take k)) (by rw [List.length_take]; omega) HB_V42.out.size
          rw [show (ts.take k).length = k by rw [List.length_take]; omega] at hr43
          have HB_V43 : Hid (Below W0.heap.size W0 V43) := Lib.hid (HB_V42.out.trans hb43)
          have HMy_43 : Hid (V43.heap[W0.heap.size]? = some (.cells #[] TT)) := Lib.hid ((hg43.block _ (Array.getElem?_eq_some_iff.1 HMy_42.out).1 (fun e => by have := And.intro HS41.out HS42.out; injection e with e; omega)).trans HMy_42.out)
          have HFu_43 : Hid (FtC W0.heap.size V43 v43 (ts.take k)) := Lib.hid ho43.fresh
          clear ho43 hg43 hb43
          go_wp2_with (at_builtin; refine append_by_run _ rfl _ _ 22 rfl _ _ rfl rfl _ _ hr43 ?_)
          clear hr43
          try refine And.intro trivial ?_
          refine wpAnyH_next (i := 9) rfl (by kernel_rfl) ?_
          obtain ⟨v44, V44, hr44, ho44, hg44, hb44⟩ := append_new V43 W0.heap.size W0.heap.size _ ao c2 (ts.drop k) HMy_43.out HX41.out ((HR0.out.below HB_V43.out)) (by rw [List.length_drop]; omega) HB_V43.out.size
          rw [show (ts.drop k).length = ts.length - k by rw [List.length_drop]] at hr44
          have HB_V44 : Hid (Below W0.heap.size W0 V44) := Lib.hid (HB_V43.out.trans hb44)
          have HFu_44 : Hid (FtC W0.heap.size V44 v43 (ts.take k)) := Lib.hid (ftc_keep HFu_43.out HMy_43.out hg44)
          have HFv_44 : Hid (FtC W0.heap.size V44 v44 (ts.drop k)) := Lib.hid ho44.fresh
          clear ho44 hg44 hb44
          go_wp2_with (at_builtin; refine append_by_run _ rfl _ _ 22 rfl _ _ rfl rfl _ _ hr44 ?_)
          clear hr44
          try refine And.intro trivial ?_
          refine wpAnyH_next (i := 10) rfl (by kernel_rfl) ?_
          go_wp2_with fail
          try refine And.intro trivial ?_
          refine wpAnyH_next (i := 11) rfl (by kernel_rfl) ?_
          go_wp2_with fail
          try refine And.intro trivial ?_
          refine wpAnyH_done (by kernel_rfl) ?_ _
          go_wp2
          go_ret2
          exact ⟨_, _, rfl, by rw [HKD.out]; exact FtC.mono HFu_44.out HSZ.out, by rw [HKD.out]; exact FtC.mono HFv_44.out HSZ.out, HBW.out.trans (HB_V44.out.mono HSZ.out)⟩
      · have k1 : ¬ (k : Int) < (ts.length : Int) := by omega
        clear hgo
        go_wp2_with fail
        go_wp2
        refine wp_region_held (S := fun _ => True) (by kernel_rfl) ?_
        change wpAnyH _ _ _ _ _ _ _ _ w2.drew
        rw [hW0]
        clear hW0
        refine wpAnyH_read (i := 1) (v := .slice ad ts.length cap) rfl (by kernel_rfl) (by kernel_rfl) (by kernel_rfl) (fun _ _ _ h => h) (by rfl) (fun _ _ => rfl) trivial ?_
        simp only [Act.put, List.setIfInBounds_toArray, List.set_cons_zero, List.set_cons_succ]
        refine wpAnyH_read (i := 2) (v := .int .i64 (k : Int)) rfl (by kernel_rfl) (by kernel_rfl) (by kernel_rfl) (fun _ _ _ h => h) (by rfl) (fun _ _ => rfl) trivial ?_
        simp only [Act.put, List.setIfInBounds_toArray, List.set_cons_zero, List.set_cons_succ]
        refine wpAnyH_read (i := 3) (v := .slice ad k cap) rfl (by kernel_rfl) (by kernel_rfl) (by kernel_rfl) (fun _ _ _ h => h) (by rfl) ?_ trivial ?_
        · rintro w' -
          go_simp
        simp only [Act.put, List.setIfInBounds_toArray, List.set_cons_zero, List.set_cons_succ]
        refine wpAnyH_read (i := 6) (v := .slice ad ts.length cap) rfl (by kernel_rfl) (by kernel_rfl) (by kernel_rfl) (fun _ _ _ h => h) (by rfl) (fun _ _ => rfl) trivial ?_
        simp only [Act.put, List.setIfInBounds_toArray, List.set_cons_zero, List.set_cons_succ]
        refine wpAnyH_read (i := 7) (v := .int .i64 (k : Int)) rfl (by kernel_rfl) (by kernel_rfl) (by kernel_rfl) (fun _ _ _ h => h) (by rfl) (fun _ _ => rfl) trivial ?_
        simp only [Act.put, List.setIfInBounds_toArray, List.set_cons_zero, List.set_cons_succ]
        refine wpAnyH_read (i := 8) (v := .slice ao (ts.length - k) c2) rfl (by kernel_rfl) (by kernel_rfl) (by kernel_rfl) (fun _ _ _ h => h) (by rfl) ?_ trivial ?_
        · rintro w' -
          go_simp
        simp only [Act.put, List.setIfInBounds_toArray, List.set_cons_zero, List.set_cons_succ]
        refine wpAnyH_all (rs := [0, 5]) (by kernel_rfl) (by simp) (fun j hj => ?_)
        rcases List.mem_cons.1 hj with rfl | hj
        · refine wpOp_of_list rfl ?_
          go_wp2_with fail
          obtain ⟨V1, hV1⟩ : ∃ V, W0.alloc (.cells #[] TT) = V := ⟨_, rfl⟩
          have hm1 : V1.heap[W0.heap.size]? = some (.cells #[] TT) := by rw [← hV1]; exact World.alloc_heap_new W0 _
          have hs1 : V1.heap.size = W0.heap.size + 1 := by rw [← hV1]; simp
          have hb1 : Below W0.heap.size W0 V1 := by rw [← hV1]; exact (Below.refl _ _).alloc (Nat.le_refl _) _
          rw [hV1]
          clear hV1
          have HB_V1 : Hid (Below W0.heap.size W0 V1) := Lib.hid (HB_W0.out.trans (hb1.mono HB_W0.out.size))
          have HS1 : Hid (W0.heap.size < V1.heap.size) := Lib.hid (by omega)
          have HX1 : Hid (W0.heap.size ≤ W0.heap.size) := Lib.hid HB_W0.out.size
          have HMx_1 := Lib.hid hm1
          clear hm1 hs1 hb1
          try refine And.intro trivial ?_
          refine wpAnyH_all (rs := [4, 5]) (by kernel_rfl) (by simp) (fun j hj => ?_)
          rcases List.mem_cons.1 hj with rfl | hj
          · refine wpOp_of_list rfl ?_
            obtain ⟨v2, V2, hr2, ho2, hg2, hb2⟩ := append_new V1 W0.heap.size W0.heap.size _ ad cap (ts.take k) HMx_1.out HX1.out (((HL0.out.below HB_V1.out).take k)) (by rw [List.length_take]; omega) HB_V1.out.size
            rw [show (ts.take k).length = k by rw [List.length_take]; omega] at hr2
            have HB_V2 : Hid (Below W0.heap.size W0 V2) := Lib.hid (HB_V1.out.trans hb2)
            have HFu_2 : Hid (FtC W0.heap.size V2 v2 (ts.take k)) := Lib.hid ho2.fresh
            clear ho2 hg2 hb2
            go_wp2_with (at_builtin; refine append_by_run _ rfl _ _ 22 rfl _ _ rfl rfl _ _ hr2 ?_)
            clear hr2
            try refine And.intro trivial ?_
            refine wpAnyH_next (i := 5) rfl (by kernel_rfl) ?_
            go_wp2_with fail
            obtain ⟨V3, hV3⟩ : ∃ V, V2.alloc (.cells #[] TT) = V := ⟨_, rfl⟩
            have hm3 : V3.heap[V2.heap.size]? = some (.cells #[] TT) := by rw [← hV3]; exact World.alloc_heap_new V2 _
            have hs3 : V3.heap.size = V2.heap.size + 1 := by rw [← hV3]; simp
            have hb3 : Below V2.heap.size V2 V3 := by rw [← hV3]; exact (Below.refl _ _).alloc (Nat.le_refl _) _
            rw [hV3]
            clear hV3
            have HB_V3 : Hid (Below W0.heap.size W0 V3) := Lib.hid (HB_V2.out.trans (hb3.mono HB_V2.out.size))
            have HS3 : Hid (V2.heap.size < V3.heap.size) := Lib.hid (by omega)
            have HX3 : Hid (W0.heap.size ≤ V2.heap.size) := Lib.hid HB_V2.out.size
            have HFu_3 : Hid (FtC W0.heap.size V3 v2 (ts.take k)) := Lib.hid (HFu_2.out.below hb3)
            have HMy_3 := Lib.hid hm3
            clear hm3 hs3 hb3
            try refine And.intro trivial ?_
            refine wpAnyH_next (i := 9) rfl (by kernel_rfl) ?_
            obtain ⟨v4, V4, hr4, ho4, hg4, hb4⟩ := append_new V3 W0.heap.size V2.heap.size _ ao c2 (ts.drop k) HMy_3.out HX3.out ((HR0.out.below HB_V3.out)) (by rw [List.length_drop]; omega) HB_V3.out.size
            rw [show (ts.drop k).length = ts.length - k by rw [List.length_drop]] at hr4
            have HB_V4 : Hid (Below W0.heap.size W0 V4) := Lib.hid (HB_V3.out.trans hb4)
            have HFu_4 : Hid (FtC W0.heap.size V4 v2 (ts.take k)) := Lib.hid (ftc_keep HFu_3.out HMy_3.out hg4)
            have HFv_4 : Hid (FtC W0.heap.size V4 v4 (ts.drop k)) := Lib.hid ho4.fresh
            clear ho4 hg4 hb4
            go_wp2_with (at_builtin; refine append_by_run _ rfl _ _ 22 rfl _ _ rfl rfl _ _ hr4 ?_)
            clear hr4
            try refine And.intro trivial ?_
            refine wpAnyH_next (i := 10) rfl (by kernel_rfl) ?_
            go_wp2_with fail
            try refine And.intro trivial ?_
            refine wpAnyH_next (i := 11) rfl (by kernel_rfl) ?_
            go_wp2_with fail
            try refine And.intro trivial ?_
            refine wpAnyH_done (by kernel_rfl) ?_ _
            go_wp2
            go_ret2
            exact ⟨_, _, rfl, by rw [HKD.out]; exact FtC.mono HFu_4.out HSZ.out, by rw [HKD.out]; exact FtC.mono HFv_4.out HSZ.out, HBW.out.trans (HB_V4.out.mono HSZ.out)⟩
          · obtain rfl : j = 5 := by simpa using hj
            refine wpOp_of_list rfl ?_
            go_wp2_with fail
            obtain ⟨V21, hV21⟩ : ∃ V, V1.alloc (.cells #[] TT) = V := ⟨_, rfl⟩
            have hm21 : V21.heap[V1.heap.size]? = some (.cells #[] TT) := by rw [← hV21]; exact World.alloc_heap_new V1 _
            have hs21 : V21.heap.size = V1.heap.size + 1 := by rw [← hV21]; simp
            have hb21 : Below V1.heap.size V1 V21 := by rw [← hV21]; exact (Below.refl _ _).alloc (Nat.le_refl _) _
            rw [hV21]
            clear hV21
            have HB_V21 : Hid (Below W0.heap.size W0 V21) := Lib.hid (HB_V1.out.trans (hb21.mono HB_V1.out.size))
            have HS21 : Hid (V1.heap.size < V21.heap.size) := Lib.hid (by omega)
            have HX21 : Hid (W0.heap.size ≤ V1.heap.size) := Lib.hid HB_V1.out.size
            have HMx_21 : Hid (V21.heap[W0.heap.size]? = some (.cells #[] TT)) := Lib.hid ((hb21.block _ (Array.getElem?_eq_some_iff.1 HMx_1.out).1).trans HMx_1.out)
            have HMy_21 := Lib.hid hm21
            clear hm21 hs21 hb21
            try refine And.intro trivial ?_
            refine wpAnyH_next (i := 4) rfl (by kernel_rfl) ?_
            obtain ⟨v22, V22, hr22, ho22, hg22, hb22⟩ := append_new V21 W0.heap.size W0.heap.size _ ad cap (ts.take k) HMx_21.out HX1.out (((HL0.out.below HB_V21.out).take k)) (by rw [List.length_take]; omega) HB_V21.out.size
            rw [show (ts.take k).length = k by rw [List.length_take]; omega] at hr22
            have HB_V22 : Hid (Below W0.heap.size W0 V22) := Lib.hid (HB_V21.out.trans hb22)
            have HMy_22 : Hid (V22.heap[V1.heap.size]? = some (.cells #[] TT)) := Lib.hid ((hg22.block _ (Array.getElem?_eq_some_iff.1 HMy_21.out).1 (fun e => by have := And.intro HS1.out HS21.out; injection e with e; omega)).trans HMy_21.out)
            have HFu_22 : Hid (FtC W0.heap.size V22 v22 (ts.take k)) := Lib.hid ho22.fresh
            clear ho22 hg22 hb22
            go_wp2_with (at_builtin; refine append_by_run _ rfl _ _ 22 rfl _ _ rfl rfl _ _ hr22 ?_)
            clear hr22
            try refine And.intro trivial ?_
            refine wpAnyH_next (i := 9) rfl (by kernel_rfl) ?_
            obtain ⟨v23, V23, hr23, ho23, hg23, hb23⟩ := append_new V22 W0.heap.size V1.heap.size _ ao c2 (ts.drop k) HMy_22.out HX21.out ((HR0.out.below HB_V22.out)) (by rw [List.length_drop]; omega) HB_V22.out.size
            rw [show (ts.drop k).length = ts.length - k by rw [List.length_drop]] at hr23
            have HB_V23 : Hid (Below W0.heap.size W0 V23) := Lib.hid (HB_V22.out.trans hb23)
            have HFu_23 : Hid (FtC W0.heap.size V23 v22 (ts.take k)) := Lib.hid (ftc_keep HFu_22.out HMy_22.out hg23)
            have HFv_23 : Hid (FtC W0.heap.size V23 v23 (ts.drop k)) := Lib.hid ho23.fresh
            clear ho23 hg23 hb23
            go_wp2_with (at_builtin; refine append_by_run _ rfl _ _ 22 rfl _ _ rfl rfl _ _ hr23 ?_)
            clear hr23
            try refine And.intro trivial ?_
            refine wpAnyH_next (i := 10) rfl (by kernel_rfl) ?_
            go_wp2_with fail
            try refine And.intro trivial ?_
            refine wpAnyH_next (i := 11) rfl (by kernel_rfl) ?_
            go_wp2_with fail
            try refine And.intro trivial ?_
            refine wpAnyH_done (by kernel_rfl) ?_ _
            go_wp2
            go_ret2
            exact ⟨_, _, rfl, by rw [HKD.out]; exact FtC.mono HFu_23.out HSZ.out, by rw [HKD.out]; exact FtC.mono HFv_23.out HSZ.out, HBW.out.trans (HB_V23.out.mono HSZ.out)⟩
        · obtain rfl : j = 5 := by simpa using hj
          refine wpOp_of_list rfl ?_
          go_wp2_with fail
          obtain ⟨V41, hV41⟩ : ∃ V, W0.alloc (.cells #[] TT) = V := ⟨_, rfl⟩
          have hm41 : V41.heap[W0.heap.size]? = some (.cells #[] TT) := by rw [← hV41]; exact World.alloc_heap_new W0 _
          have hs41 : V41.heap.size = W0.heap.size + 1 := by rw [← hV41]; simp
          have hb41 : Below W0.heap.size W0 V41 := by rw [← hV41]; exact (Below.refl _ _).alloc (Nat.le_refl _) _
          rw [hV41]
          clear hV41
          have HB_V41 : Hid (Below W0.heap.size W0 V41) := Lib.hid (HB_W0.out.trans (hb41.mono HB_W0.out.size))
          have HS41 : Hid (W0.heap.size < V41.heap.size) := Lib.hid (by omega)
          have HX41 : Hid (W0.heap.size ≤ W0.heap.size) := Lib.hid HB_W0.out.size
          have HMy_41 := Lib.hid hm41
          clear hm41 hs41 hb41
          try refine And.intro trivial ?_
          refine wpAnyH_next (i := 0) rfl (by kernel_rfl) ?_
          go_wp2_with fail
          obtain ⟨V42, hV42⟩ : ∃ V, V41.alloc (.cells #[] TT) = V := ⟨_, rfl⟩
          have hm42 : V42.heap[V41.heap.size]? = some (.cells #[] TT) := by rw [← hV42]; exact World.alloc_heap_new V41 _
          have hs42 : V42.heap.size = V41.heap.size + 1 := by rw [← hV42]; simp
          have hb42 : Below V41.heap.size V41 V42 := by rw [← hV42]; exact (Below.refl _ _).alloc (Nat.le_refl _) _
          rw [hV42]
          clear hV42
          have HB_V42 : Hid (Below W0.heap.size W0 V42) := Lib.hid (HB_V41.out.trans (hb42.mono HB_V41.out.size))
          have HS42 : Hid (V41.heap.size < V42.heap.size) := Lib.hid (by omega)
          have HX42 : Hid (W0.heap.size ≤ V41.heap.size) := Lib.hid HB_V41.out.size
          have HMy_42 : Hid (V42.heap[W0.heap.size]? = some (.cells #[] TT)) := Lib.hid ((hb42.block _ (Array.getElem?_eq_some_iff.1 HMy_41.out).1).trans HMy_41.out)
          have HMx_42 := Lib.hid hm42
          clear hm42 hs42 hb42
          try refine And.intro trivial ?_
          refine wpAnyH_next (i := 4) rfl (by kernel_rfl) ?_
          obtain ⟨v43, V43, hr43, ho43, hg43, hb43⟩ := append_new V42 W0.heap.size V41.heap.size _ ad cap (ts.take k) HMx_42.out HX42.out (((HL0.out.below HB_V42.out).take k)) (by rw [List.length_take]; omega) HB_V42.out.size
          rw [show (ts.take k).length = k by rw [List.length_take]; omega] at hr43
          have HB_V43 : Hid (Below W0.heap.size W0 V43) := Lib.hid (HB_V42.out.trans hb43)
          have HMy_43 : Hid (V43.heap[W0.heap.size]? = some (.cells #[] TT)) := Lib.hid ((hg43.block _ (Array.getElem?_eq_some_iff.1 HMy_42.out).1 (fun e => by have := And.intro HS41.out HS42.out; injection e with e; omega)).trans HMy_42.out)
          have HFu_43 : Hid (FtC W0.heap.size V43 v43 (ts.take k)) := Lib.hid ho43.fresh
          clear ho43 hg43 hb43
          go_wp2_with (at_builtin; refine append_by_run _ rfl _ _ 22 rfl _ _ rfl rfl _ _ hr43 ?_)
          clear hr43
          try refine And.intro trivial ?_
          refine wpAnyH_next (i := 9) rfl (by kernel_rfl) ?_
          obtain ⟨v44, V44, hr44, ho44, hg44, hb44⟩ := append_new V43 W0.heap.size W0.heap.size _ ao c2 (ts.drop k) HMy_43.out HX41.out ((HR0.out.below HB_V43.out)) (by rw [List.length_drop]; omega) HB_V43.out.size
          rw [show (ts.drop k).length = ts.length - k by rw [List.length_drop]] at hr44
          have HB_V44 : Hid (Below W0.heap.size W0 V44) := Lib.hid (HB_V43.out.trans hb44)
          have HFu_44 : Hid (FtC W0.heap.size V44 v43 (ts.take k)) := Lib.hid (ftc_keep HFu_43.out HMy_43.out hg44)
          have HFv_44 : Hid (FtC W0.heap.size V44 v44 (ts.drop k)) := Lib.hid ho44.fresh
          clear ho44 hg44 hb44
          go_wp2_with (at_builtin; refine append_by_run _ rfl _ _ 22 rfl _ _ rfl rfl _ _ hr44 ?_)
          clear hr44
          try refine And.intro trivial ?_
          refine wpAnyH_next (i := 10) rfl (by kernel_rfl) ?_
          go_wp2_with fail
          try refine And.intro trivial ?_
          refine wpAnyH_next (i := 11) rfl (by kernel_rfl) ?_
          go_wp2_with fail
          try refine And.intro trivial ?_
          refine wpAnyH_done (by kernel_rfl) ?_ _
          go_wp2
          go_ret2
          exact ⟨_, _, rfl, by rw [HKD.out]; exact FtC.mono HFu_44.out HSZ.out, by rw [HKD.out]; exact FtC.mono HFv_44.out HSZ.out, HBW.out.trans (HB_V44.out.mono HSZ.out)⟩

set_option maxRecDepth 100000 in
set_option maxHeartbeats 2000000 in
/-- Expire. -/
theorem rExpire_any (v : Value) (ts : List Tm) (now : Int) (w : World) (hK : KtC w v ts) (hl : ts.length ≤ 1000) :
    Calls Try.prog 23 #[v, .int .i64 now] w (RetTT (dueL ts now) (rstL ts now) w) := by
  obtain ⟨ad, cap, rfl, hc1, hc2, hA⟩ := hK
  by_cases hc : chkE ts = 0
  · unfold dueL rstL
    rw [if_pos hc, if_pos hc]
    exact rexp_ok ad cap ts now w (hA.mono fun b hb _ => hb) hl hc1 hc2 hc
  · unfold dueL rstL
    rw [if_neg hc, if_neg hc]
    have hCK := rCheck_any _ ad cap ts w hA hl
    obtain ⟨x, hx⟩ : ∃ x, chkE ts = x := ⟨_, rfl⟩
    rw [hx] at hc hCK
    have hxb : (x != 0) = true := by simpa using hc
    have HCK := Lib.hid hCK
    clear hc hCK hx hA
    go_enter Try.func23, Try.ntmps23
    go_wp2_with fail
    refine HCK.out.mono ?_
    rintro e w2 ⟨rfl, b2⟩
    have HB2 := Lib.hid ((b2.alloc b2.size (.cells #[] TT)).alloc (by have := b2.size; simp; omega) (.cells #[] TT))
    clear b2
    go_wp2
    go_ret2
    exact ⟨_, _, rfl, FtC.nil _ _ _ _ (by omega), FtC.nil _ _ _ _ (by omega), HB2.out⟩

end Go.Proofs.Ytcmcgcogahkamaa
