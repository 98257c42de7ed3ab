/-
  What the reference's Add of timers returns.
-/
import Derived.Test.YtcmcgcogahkamaaTmRefExp
import Derived.Test.YtcmcgcogahkamaaTmAwake
namespace Go.Proofs.Ytcmcgcogahkamaa
open Go.RowKit Go.Shelf

/-- Timers are appended to a row. -/
theorem append_rest (W : World) (B : Nat) (v : Value) (o : List Tm) (φ : Nat → Prop) (ad : Option Addr) (c : Nat) (zs : List Tm) (hO : OwnT B o v W) (hA : TmA φ W ad zs) (hl : o.length ≤ 1000) (hz : zs.length ≤ 1000) (hBW : B ≤ W.heap.size) :
    ∃ v' w', (Builtin.append_ #[22, 22] 22 #[v, .slice ad zs.length c]).run Try.prog W = .ok v' w' ∧ OwnT B (o ++ zs) v' w' ∧ Below B W w' := by
  obtain ⟨i3, ki, kz0, kz1, kz2⟩ := info_parts infoT
  have hr : W.ownsRow B TT 3 v o.length (tmV o) := hO
  cases ad with
  | none =>
    have hz : zs = [] := by
      cases zs with
      | nil => rfl
      | cons y ys =>
        obtain ⟨b, off, e, _⟩ := hA 0 (by simp)
        cases e
    subst hz
    obtain ⟨a', c', rfl, hc', _⟩ := ownZ_slice hr
    have hrun : (Builtin.append_ #[22, 22] 22 #[.slice a' o.length c', .slice none 0 c]).run Try.prog W = .ok (.slice a' o.length c') W := by
      cases a' with
      | none =>
        rcases hr.2 with ⟨e, e2⟩ | ⟨g, cap, cur, e, _⟩
        · injection e with e3 e4 e5
          rw [e2, e5]
          simp [Builtin.append_, run_underlying Try.underlying22, sizeOf, typeInfo, ki, Builtin.lenOf, Builtin.firstCells]
        · injection e with e3
          cases e3
      | some q => simp [Builtin.append_, run_underlying Try.underlying22, sizeOf, typeInfo, ki, Builtin.lenOf, Builtin.firstCells, storeCells, hc']
    exact ⟨_, _, hrun, by rw [List.append_nil]; exact hO, Below.refl _ _⟩
  | some q =>
    have hc : ∀ j u, (tmV zs)[j]? = some u → W.cell? (q.add j) = some u := by
      intro j u hj
      have hlt : j < (tmV zs).length := (List.getElem?_eq_some_iff.1 hj).1
      rw [tmV_length] at hlt
      obtain ⟨b, off, e, _⟩ := hA 0 (by omega)
      cases e
      rw [Addr.add_lit]
      exact hA.cells j u hj
    obtain ⟨v', w', h1, h2, h3, h4⟩ := run_append_own (P := Try.prog) W B 22 22 TT i3 (.agg #[.int .i64 0, .int .i64 0, .int .i64 0]) 3 24 Try.underlying22 ki kz0 kz1 kz2 rfl (by decide) _ _ _ hr q zs.length c (tmV zs) (by rw [tmV_length]) hc (tmV_one _) (by unfold maxLen; omega) (by omega) hBW
    refine ⟨v', w', h1, ?_, (Below.refl B W).grown h3 hBW (fun k e => (World.ownsRow.lt hr k e).1)⟩
    unfold OwnT
    rw [tmV_append, List.length_append]
    exact h2
theorem append_one (W : World) (B : Nat) (v : Value) (o : List Tm) (a b c : Int) (y : Nat) (hO : OwnT B o v W) (hy : W.heap[y]? = some (.cells #[.int .i64 a, .int .i64 b, .int .i64 c] TT (0, 0))) (hl : o.length ≤ 1000) (hBW : B ≤ W.heap.size) :
    ∃ v' w', (Builtin.append_ #[22, 22] 22 #[v, .slice (some ⟨y, 0, none⟩) 1 1]).run Try.prog W = .ok v' w' ∧ OwnT B (o ++ [(a, b, c)]) v' w' ∧ Below B W w' := by
  have hA : TmA (fun b => y ≤ b) W (some ⟨y, 0, none⟩) [(a, b, c)] := by
    obtain ⟨a1, c1, e, h1, h2, h3⟩ := ktc_block (l := [(a, b, c)]) hy (by simp)
    injection e with e1
    subst e1
    exact h3
  exact append_rest W B v o _ (some ⟨y, 0, none⟩) 1 [(a, b, c)] hO hA hl (by simp) hBW

set_option maxRecDepth 100000 in
set_option maxHeartbeats 4000000 in
/-- Add. -/
theorem rAdd_any (v : Value) (ts : List Tm) (a b c : Int) (w : World) (hK : KtC w v ts) (hl : ts.length ≤ 900) :
    Calls Try.prog 14 #[v, tmA (a, b, c)] w (RetT (addQ ts (a, b, c)) (addE ts (a, b, c)) w) := by
  obtain ⟨ad, cap, rfl, hc1, hc2, hA⟩ := hK
  obtain ⟨w1, hw1⟩ : ∃ W, w.alloc (.cells #[.int .i64 a, .int .i64 b, .int .i64 c] TT) = W := ⟨_, rfl⟩
  have hb1 : Below w.heap.size w w1 := by rw [← hw1]; exact (Below.refl _ w).alloc (Nat.le_refl _) _
  have hx1 : w1.cell? ⟨w.heap.size, 0, none⟩ = some (.int .i64 a) ∧ w1.cell? ⟨w.heap.size, 1, none⟩ = some (.int .i64 b) ∧ w1.cell? ⟨w.heap.size, 2, none⟩ = some (.int .i64 c) := by rw [← hw1]; exact box3 w a b c
  have hA1 := hA.below hb1
  have hCK := rCheck_any _ ad cap ts w1 hA1 (by omega)
  have HA1 := Lib.hid hA1
  have HX1 := Lib.hid hx1
  have HB1 := Lib.hid hb1
  have HW1 := Lib.hid hw1
  unfold tmA encT
  dsimp only
  clear hA hA1 hx1 hb1 hw1
  by_cases hc : chkE ts = 0
  · rw [hc] at hCK
    have HCK := Lib.hid hCK
    clear hCK
    have hT := fun W => rOne_any a b c W
    by_cases ho : oneE (a, b, c) = 0
    · have hq := chkE_iff.1 hc
      have he : addE ts (a, b, c) = 0 := by unfold addE; rw [if_neg (by simp [hc]), ho]
      have hr : addQ ts (a, b, c) = insL (woL ts b c) (a, b, c) := by unfold addQ; rw [if_pos he]
      rw [he, hr]
      simp only [ho] at hT
      have HT := Lib.hid hT
      have HWQ := Lib.hid (woL_queue (k := b) (i := c) hq).2.1
      have HWN : Hid (∀ s ∈ woL ts b c, KeyNe s (a, b, c)) := Lib.hid (woL_ne (t := (a, b, c)))
      have HLEN := Lib.hid (woL_length ts b c)
      clear hc hq he hr ho hT
      go_enter Try.func14, Try.ntmps14
      go_wp2_with fail
      rw [HW1.out]
      refine HCK.out.mono ?_
      rintro e w2 ⟨rfl, b2⟩
      have HX2 := Lib.hid (keep3 HX1.out b2)
      have HB2 := Lib.hid (HB1.out.trans (b2.mono HB1.out.size))
      have HA2 := Lib.hid (HA1.out.below b2)
      obtain ⟨p0, p1, p2⟩ := HX2.out
      clear b2
      go_wp2_with fail
      refine (HT.out _).mono ?_
      rintro e w3 ⟨rfl, b3⟩
      have HX3 := Lib.hid (keep3 HX2.out b3)
      have HB3 := Lib.hid (HB2.out.trans (b3.mono HB2.out.size))
      have HA3 := Lib.hid (HA2.out.below b3)
      clear b3 p0 p1 p2
      obtain ⟨p0, p1, p2⟩ := HX3.out
      have HWO := Lib.hid (rWithout_any _ ad cap ts b c w3 HA3.out (by omega))
      go_wp2_with fail
      refine HWO.out.mono ?_
      rintro e w4 ⟨v4, rfl, ho4, b4⟩
      have HX4 := Lib.hid (keep3 HX3.out b4)
      have HB4 := Lib.hid (HB3.out.trans (b4.mono HB3.out.size))
      obtain ⟨o, hoo⟩ : ∃ o, woL ts b c = o := ⟨_, rfl⟩
      rw [hoo] at HWQ HWN HLEN ho4
      have HWL := Lib.hid hoo
      have hol : o.length ≤ 900 := by have := HLEN.out; omega
      obtain ⟨ad4, cap4, rfl, hcc1, hcc2, hA4⟩ := ho4.fresh
      have HA4 := Lib.hid hA4
      clear b4 p0 p1 p2 ho4 hoo hA4
      go_wp2
      go_loopw [7] (fun x wr => ∃ k : Nat, k ≤ o.length ∧ x = .int .i64 k ∧ Hid (∀ q, q < k → lesB (gt o q) (a, b, c) = true) ∧ Hid (Below w4.heap.size w4 wr)) (fun x _ => o.length - (intOf x).toNat)
      case atStart => exact ⟨0, Nat.zero_le _, rfl, Lib.hid (fun q hq => by omega), Lib.hid (Below.refl _ _)⟩
      case round =>
        obtain ⟨k, hk, rfl, HN, HBk⟩ := hrel
        have HXk := Lib.hid (keep3 HX4.out HBk.out)
        have HAk := Lib.hid (HA4.out.below HBk.out)
        have HBw := Lib.hid (HB4.out.trans (HBk.out.mono HB4.out.size))
        by_cases hkt : k < o.length
        · obtain ⟨bk, off, e', _, hbk, c0, c1, c2⟩ := HAk.out k hkt
          obtain ⟨⟨x, y, z⟩, ht⟩ : ∃ t, gt o k = t := ⟨_, rfl⟩
          rw [ht] at c0 c1 c2
          simp only [] at c0 c1 c2
          have k1 : (k : Int) < (o.length : Int) := by omega
          have k0 : (0 : Int) ≤ (k : Int) := by omega
          have q0 : decide ((k : Int) < (o.length : Int)) = true := decide_eq_true (by omega)
          have q1 : decide (k < o.length) = true := decide_eq_true hkt
          have hLS := fun W => rLess_any x y z a b c W
          obtain ⟨p0, p1, p2⟩ := HXk.out
          have HE' := Lib.hid e'
          subst e'
          go_wp2_with fail
          refine wp_region_still_tail 10 (by kernel_rfl) (by kernel_rfl) ?_
          obtain ⟨wd, hwd⟩ : ∃ W, wr.drew = W := ⟨_, rfl⟩
          change wpStill _ _ wr.drew (fun a' => wpList _ _ _ _ a' wr.drew) _ _
          have r0 : wd.cell? ⟨bk, off + k * 3, none⟩ = some (.int .i64 x) := by rw [← hwd]; exact c0
          have r1 : wd.cell? ⟨bk, off + k * 3 + 1, none⟩ = some (.int .i64 y) := by rw [← hwd]; exact c1
          have r2 : wd.cell? ⟨bk, off + k * 3 + 2, none⟩ = some (.int .i64 z) := by rw [← hwd]; exact c2
          have s0 : wd.cell? ⟨w.heap.size, 0, none⟩ = some (.int .i64 a) := by rw [← hwd]; exact p0
          have s1 : wd.cell? ⟨w.heap.size, 1, none⟩ = some (.int .i64 b) := by rw [← hwd]; exact p1
          have s2 : wd.cell? ⟨w.heap.size, 2, none⟩ = some (.int .i64 c) := by rw [← hwd]; exact p2
          have HBd : Hid (Below w4.heap.size w4 wd) := Lib.hid (by rw [← hwd]; exact HBk.out.drew)
          rw [hwd]
          clear hwd p0 p1 p2 c0 c1 c2
          simp only [List.take_succ_cons, List.take_zero, List.drop_succ_cons, List.drop_zero]
          repeat still_step
          refine wpStill_nil ?_
          cases hle : lesB (x, y, z) (a, b, c) with
          | true =>
            have HN' : Hid (∀ q, q < k + 1 → lesB (gt o q) (a, b, c) = true) := Lib.hid (fun q hq => by
              by_cases e : q = k
              · rw [e, ht]; exact hle
              · exact HN.out q (by omega))
            simp only [hle] at hLS
            have HLS := Lib.hid hLS
            clear hle ht hLS
            go_wp2_with fail
            refine (HLS.out _).mono ?_
            rintro e w5 ⟨rfl, b5⟩
            have HB5 := Lib.hid (HBd.out.trans (b5.mono HBd.out.size))
            clear b5
            go_wp2
            go_roundw
            case rel => exact ⟨k + 1, by omega, by go_num, HN', HB5⟩
            case measure => simp [intOf]; omega
          | false =>
            have HPL : Hid (plc o (a, b, c) = k) := Lib.hid (len_takeWhile hk HN.out (fun _ => by rw [ht]; exact hle))
            simp only [hle] at hLS
            have HLS := Lib.hid hLS
            clear hle ht hLS
            go_wp2_with fail
            refine (HLS.out _).mono ?_
            rintro e w5 ⟨rfl, b5⟩
            have HB5 := Lib.hid (HBd.out.trans (b5.mono HBd.out.size))
            clear b5 r0 r1 r2 s0 s1 s2
            go_wp2
            have HL0 : Hid (LowT w5.drew.heap.size w5.drew (some ⟨bk, off, none⟩) o) := Lib.hid (TmA.mono (show TmA _ w5.drew (some ⟨bk, off, none⟩) o from HA4.out.below HB5.out.drew) (fun b hb _ => hb))
            obtain ⟨ao, c2, hAR, hc21, hc22, hrun⟩ := restT _ k (some ⟨bk, off, none⟩) cap4 o w5.drew HL0.out hcc1 hk
            have HR0 : Hid (LowT w5.drew.heap.size w5.drew ao (o.drop k)) := Lib.hid hAR
            have HBW : Hid (Below w.heap.size w w5.drew) := Lib.hid (HB4.out.trans (HB5.out.mono HB4.out.size)).drew
            have HXW : Hid (w5.drew.cell? ⟨w.heap.size, 0, none⟩ = some (.int .i64 a) ∧ w5.drew.cell? ⟨w.heap.size, 1, none⟩ = some (.int .i64 b) ∧ w5.drew.cell? ⟨w.heap.size, 2, none⟩ = some (.int .i64 c)) := Lib.hid (keep3 HX4.out HB5.out.drew)
            have kc1 : (k : Int) ≤ (cap4 : Int) := by omega
            have kc2 : k ≤ cap4 := by omega
            have kc3 : (0 : Int) ≤ (k : Int) := by omega
            clear hAR
            refine wp_region_held (S := fun w' => w'.cell? ⟨w.heap.size, 0, none⟩ = some (.int .i64 a) ∧ w'.cell? ⟨w.heap.size, 1, none⟩ = some (.int .i64 b) ∧ w'.cell? ⟨w.heap.size, 2, none⟩ = some (.int .i64 c)) (by kernel_rfl) ?_
            obtain ⟨W0, hW0⟩ : ∃ W, w5.drew = W := ⟨_, rfl⟩
            change wpAnyH _ _ _ _ _ _ _ _ w5.drew
            rw [hW0] at HL0 HR0 HBW HXW ⊢
            have HB_W0 : Hid (Below W0.heap.size W0 W0) := Lib.hid (Below.refl _ _)
            have HSB : Hid (∀ V, Below W0.heap.size W0 V → V.cell? ⟨w.heap.size, 0, none⟩ = some (.int .i64 a) ∧ V.cell? ⟨w.heap.size, 1, none⟩ = some (.int .i64 b) ∧ V.cell? ⟨w.heap.size, 2, none⟩ = some (.int .i64 c)) := Lib.hid (fun V hV => keep3 HXW.out hV)
            have HSZ := Lib.hid HBW.out.size
            clear hW0
            refine wpAnyH_read (i := 1) (v := .slice (some ⟨bk, off, none⟩) o.length cap4) rfl (by kernel_rfl) (by kernel_rfl) (by kernel_rfl) (fun _ _ _ h => h) (by rfl) (fun _ _ => rfl) (HSB.out _ HB_W0.out) ?_
            simp only [Act.put, List.setIfInBounds_toArray, List.set_cons_zero, List.set_cons_succ]
            refine wpAnyH_read (i := 2) (v := .int .i64 (k : Int)) rfl (by kernel_rfl) (by kernel_rfl) (by kernel_rfl) (fun _ _ _ h => h) (by rfl) (fun _ _ => rfl) (HSB.out _ HB_W0.out) ?_
            simp only [Act.put, List.setIfInBounds_toArray, List.set_cons_zero, List.set_cons_succ]
            refine wpAnyH_read (i := 3) (v := .slice (some ⟨bk, off, none⟩) k cap4) rfl (by kernel_rfl) (by kernel_rfl) (by kernel_rfl) (fun _ _ _ h => h) (by rfl) ?_ (HSB.out _ HB_W0.out) ?_
            · rintro w' -
              go_simp
            simp only [Act.put, List.setIfInBounds_toArray, List.set_cons_zero, List.set_cons_succ]
            refine wpAnyH_read (i := 5) (v := .agg #[.int .i64 a, .int .i64 b, .int .i64 c]) rfl (by kernel_rfl) (by kernel_rfl) (by kernel_rfl) (fun _ _ _ h => h) (by rfl) ?_ (HSB.out _ HB_W0.out) ?_
            · rintro w' ⟨h1, h2, h3⟩
              go_simp
            simp only [Act.put, List.setIfInBounds_toArray, List.set_cons_zero, List.set_cons_succ]
            refine wpAnyH_all (rs := [0, 6]) (by kernel_rfl) (by simp) (fun j hj => ?_)
            rcases List.mem_cons.1 hj with rfl | hj
            · refine wpOp_of_list rfl ?_
              go_wp2_with fail
              obtain ⟨V1, hV1⟩ : ∃ V, W0.alloc (.cells #[] TT) = V := ⟨_, rfl⟩
              have hm1 : V1.heap[W0.heap.size]? = some (.cells #[] TT) := by rw [← hV1]; exact World.alloc_heap_new W0 _
              have hs1 : V1.heap.size = W0.heap.size + 1 := by rw [← hV1]; simp
              have hb1 : Below W0.heap.size W0 V1 := by rw [← hV1]; exact (Below.refl _ _).alloc (Nat.le_refl _) _
              rw [hV1]
              clear hV1
              have HB_V1 : Hid (Below W0.heap.size W0 V1) := Lib.hid (HB_W0.out.trans (hb1.mono HB_W0.out.size))
              have HS1 : Hid (W0.heap.size < V1.heap.size) := Lib.hid (by omega)
              have HX1 : Hid (W0.heap.size ≤ W0.heap.size) := Lib.hid HB_W0.out.size
              have HMx_1 := Lib.hid hm1
              clear hm1 hs1 hb1
              refine ⟨HSB.out _ HB_V1.out, ?_⟩
              refine wpAnyH_all (rs := [4, 6]) (by kernel_rfl) (by simp) (fun j hj => ?_)
              rcases List.mem_cons.1 hj with rfl | hj
              · refine wpOp_of_list rfl ?_
                obtain ⟨v2, V2, hr2, ho2, hg2, hb2⟩ := append_new V1 W0.heap.size W0.heap.size _ (some ⟨bk, off, none⟩) cap4 (o.take k) HMx_1.out HX1.out (((HL0.out.below HB_V1.out).take k)) (by rw [List.length_take]; omega) HB_V1.out.size
                rw [show (o.take k).length = k by rw [List.length_take]; omega] at hr2
                have HB_V2 : Hid (Below W0.heap.size W0 V2) := Lib.hid (HB_V1.out.trans hb2)
                have HFu_2 : Hid (FtC W0.heap.size V2 v2 (o.take k)) := Lib.hid ho2.fresh
                have HOu_2 := Lib.hid ho2
                clear ho2 hg2 hb2
                go_wp2_with (at_builtin; refine append_by_run _ rfl _ _ 22 rfl _ _ rfl rfl _ _ hr2 ?_)
                clear hr2
                refine ⟨HSB.out _ HB_V2.out, ?_⟩
                refine wpAnyH_next (i := 6) rfl (by kernel_rfl) ?_
                go_wp2_with fail
                obtain ⟨V3, hV3⟩ : ∃ V, V2.alloc (.cells #[.int .i64 a, .int .i64 b, .int .i64 c] TT) = V := ⟨_, rfl⟩
                have hm3 : V3.heap[V2.heap.size]? = some (.cells #[.int .i64 a, .int .i64 b, .int .i64 c] TT) := by rw [← hV3]; exact World.alloc_heap_new V2 _
                have hs3 : V3.heap.size = V2.heap.size + 1 := by rw [← hV3]; simp
                have hb3 : Below V2.heap.size V2 V3 := by rw [← hV3]; exact (Below.refl _ _).alloc (Nat.le_refl _) _
                rw [hV3]
                clear hV3
                have HB_V3 : Hid (Below W0.heap.size W0 V3) := Lib.hid (HB_V2.out.trans (hb3.mono HB_V2.out.size))
                have HS3 : Hid (V2.heap.size < V3.heap.size) := Lib.hid (by omega)
                have HX3 : Hid (W0.heap.size ≤ V2.heap.size) := Lib.hid HB_V2.out.size
                have HFu_3 : Hid (FtC W0.heap.size V3 v2 (o.take k)) := Lib.hid (HFu_2.out.below hb3)
                have HMy_3 := Lib.hid hm3
                have HBm3 := Lib.hid hb3
                clear hm3 hs3 hb3
                have HOu_3 : Hid (OwnT W0.heap.size (o.take k) v2 V3) := Lib.hid (HOu_2.out.below (by have := HBm3.out; exact this))
                refine ⟨HSB.out _ HB_V3.out, ?_⟩
                refine wpAnyH_next (i := 7) rfl (by kernel_rfl) ?_
                obtain ⟨v4, V4, hr4, ho4, hb4⟩ := append_one V3 W0.heap.size v2 (o.take k) a b c V2.heap.size HOu_3.out HMy_3.out (by rw [List.length_take]; omega) HB_V3.out.size
                have HB_V4 : Hid (Below W0.heap.size W0 V4) := Lib.hid (HB_V3.out.trans hb4)
                have HO4 := Lib.hid ho4
                clear ho4 hb4
                go_wp2_with (at_builtin; refine append_by_run _ rfl _ _ 22 rfl _ _ rfl rfl _ _ hr4 ?_)
                clear hr4
                refine ⟨HSB.out _ HB_V4.out, ?_⟩
                refine wpAnyH_next (i := 8) rfl (by kernel_rfl) ?_
                go_wp2_with fail
                refine ⟨HSB.out _ HB_V4.out, ?_⟩
                refine wpAnyH_done (by kernel_rfl) ?_ _
                obtain ⟨v9, V9, hr9, ho9, hb9⟩ := append_rest V4 W0.heap.size v4 (o.take k ++ [(a, b, c)]) _ ao c2 (o.drop k) HO4.out (HR0.out.below HB_V4.out) (by simp; omega) (by rw [List.length_drop]; omega) HB_V4.out.size
                rw [show (o.drop k).length = o.length - k by rw [List.length_drop]] at hr9
                have HF9 : Hid (FtC w.heap.size V9 v9 (insL o (a, b, c))) := Lib.hid (by
                  have e : insL o (a, b, c) = o.take k ++ [(a, b, c)] ++ o.drop k := by unfold insL; rw [HPL.out]; simp
                  rw [e]
                  exact FtC.mono ho9.fresh HSZ.out)
                have HB9 : Hid (Below w.heap.size w V9) := Lib.hid (HBW.out.trans ((HB_V4.out.trans hb9).mono HSZ.out))
                clear ho9 hb9
                go_wp2_with (at_builtin; refine append_by_run _ rfl _ _ 22 rfl _ _ rfl rfl _ _ hr9 ?_)
                go_ret2
                exact ⟨_, rfl, by rw [HWL.out]; exact HF9.out, HB9.out⟩
              · obtain rfl : j = 6 := by simpa using hj
                refine wpOp_of_list rfl ?_
                go_wp2_with fail
                obtain ⟨V21, hV21⟩ : ∃ V, V1.alloc (.cells #[.int .i64 a, .int .i64 b, .int .i64 c] TT) = V := ⟨_, rfl⟩
                have hm21 : V21.heap[V1.heap.size]? = some (.cells #[.int .i64 a, .int .i64 b, .int .i64 c] TT) := by rw [← hV21]; exact World.alloc_heap_new V1 _
                have hs21 : V21.heap.size = V1.heap.size + 1 := by rw [← hV21]; simp
                have hb21 : Below V1.heap.size V1 V21 := by rw [← hV21]; exact (Below.refl _ _).alloc (Nat.le_refl _) _
                rw [hV21]
                clear hV21
                have HB_V21 : Hid (Below W0.heap.size W0 V21) := Lib.hid (HB_V1.out.trans (hb21.mono HB_V1.out.size))
                have HS21 : Hid (V1.heap.size < V21.heap.size) := Lib.hid (by omega)
                have HX21 : Hid (W0.heap.size ≤ V1.heap.size) := Lib.hid HB_V1.out.size
                have HMx_21 : Hid (V21.heap[W0.heap.size]? = some (.cells #[] TT)) := Lib.hid ((hb21.block _ (Array.getElem?_eq_some_iff.1 HMx_1.out).1).trans HMx_1.out)
                have HMy_21 := Lib.hid hm21
                clear hm21 hs21 hb21
                refine ⟨HSB.out _ HB_V21.out, ?_⟩
                refine wpAnyH_next (i := 4) rfl (by kernel_rfl) ?_
                obtain ⟨v22, V22, hr22, ho22, hg22, hb22⟩ := append_new V21 W0.heap.size W0.heap.size _ (some ⟨bk, off, none⟩) cap4 (o.take k) HMx_21.out HX1.out (((HL0.out.below HB_V21.out).take k)) (by rw [List.length_take]; omega) HB_V21.out.size
                rw [show (o.take k).length = k by rw [List.length_take]; omega] at hr22
                have HB_V22 : Hid (Below W0.heap.size W0 V22) := Lib.hid (HB_V21.out.trans hb22)
                have HMy_22 : Hid (V22.heap[V1.heap.size]? = some (.cells #[.int .i64 a, .int .i64 b, .int .i64 c] TT)) := Lib.hid ((hg22.block _ (Array.getElem?_eq_some_iff.1 HMy_21.out).1 (fun e => by have := And.intro HS1.out HS21.out; injection e with e; omega)).trans HMy_21.out)
                have HFu_22 : Hid (FtC W0.heap.size V22 v22 (o.take k)) := Lib.hid ho22.fresh
                have HOu_22 := Lib.hid ho22
                clear ho22 hg22 hb22
                go_wp2_with (at_builtin; refine append_by_run _ rfl _ _ 22 rfl _ _ rfl rfl _ _ hr22 ?_)
                clear hr22
                refine ⟨HSB.out _ HB_V22.out, ?_⟩
                refine wpAnyH_next (i := 7) rfl (by kernel_rfl) ?_
                obtain ⟨v23, V23, hr23, ho23, hb23⟩ := append_one V22 W0.heap.size v22 (o.take k) a b c V1.heap.size HOu_22.out HMy_22.out (by rw [List.length_take]; omega) HB_V22.out.size
                have HB_V23 : Hid (Below W0.heap.size W0 V23) := Lib.hid (HB_V22.out.trans hb23)
                have HO23 := Lib.hid ho23
                clear ho23 hb23
                go_wp2_with (at_builtin; refine append_by_run _ rfl _ _ 22 rfl _ _ rfl rfl _ _ hr23 ?_)
                clear hr23
                refine ⟨HSB.out _ HB_V23.out, ?_⟩
                refine wpAnyH_next (i := 8) rfl (by kernel_rfl) ?_
                go_wp2_with fail
                refine ⟨HSB.out _ HB_V23.out, ?_⟩
                refine wpAnyH_done (by kernel_rfl) ?_ _
                obtain ⟨v9, V9, hr9, ho9, hb9⟩ := append_rest V23 W0.heap.size v23 (o.take k ++ [(a, b, c)]) _ ao c2 (o.drop k) HO23.out (HR0.out.below HB_V23.out) (by simp; omega) (by rw [List.length_drop]; omega) HB_V23.out.size
                rw [show (o.drop k).length = o.length - k by rw [List.length_drop]] at hr9
                have HF9 : Hid (FtC w.heap.size V9 v9 (insL o (a, b, c))) := Lib.hid (by
                  have e : insL o (a, b, c) = o.take k ++ [(a, b, c)] ++ o.drop k := by unfold insL; rw [HPL.out]; simp
                  rw [e]
                  exact FtC.mono ho9.fresh HSZ.out)
                have HB9 : Hid (Below w.heap.size w V9) := Lib.hid (HBW.out.trans ((HB_V23.out.trans hb9).mono HSZ.out))
                clear ho9 hb9
                go_wp2_with (at_builtin; refine append_by_run _ rfl _ _ 22 rfl _ _ rfl rfl _ _ hr9 ?_)
                go_ret2
                exact ⟨_, rfl, by rw [HWL.out]; exact HF9.out, HB9.out⟩
            · obtain rfl : j = 6 := by simpa using hj
              refine wpOp_of_list rfl ?_
              go_wp2_with fail
              obtain ⟨V41, hV41⟩ : ∃ V, W0.alloc (.cells #[.int .i64 a, .int .i64 b, .int .i64 c] TT) = V := ⟨_, rfl⟩
              have hm41 : V41.heap[W0.heap.size]? = some (.cells #[.int .i64 a, .int .i64 b, .int .i64 c] TT) := by rw [← hV41]; exact World.alloc_heap_new W0 _
              have hs41 : V41.heap.size = W0.heap.size + 1 := by rw [← hV41]; simp
              have hb41 : Below W0.heap.size W0 V41 := by rw [← hV41]; exact (Below.refl _ _).alloc (Nat.le_refl _) _
              rw [hV41]
              clear hV41
              have HB_V41 : Hid (Below W0.heap.size W0 V41) := Lib.hid (HB_W0.out.trans (hb41.mono HB_W0.out.size))
              have HS41 : Hid (W0.heap.size < V41.heap.size) := Lib.hid (by omega)
              have HX41 : Hid (W0.heap.size ≤ W0.heap.size) := Lib.hid HB_W0.out.size
              have HMy_41 := Lib.hid hm41
              clear hm41 hs41 hb41
              refine ⟨HSB.out _ HB_V41.out, ?_⟩
              refine wpAnyH_next (i := 0) rfl (by kernel_rfl) ?_
              go_wp2_with fail
              obtain ⟨V42, hV42⟩ : ∃ V, V41.alloc (.cells #[] TT) = V := ⟨_, rfl⟩
              have hm42 : V42.heap[V41.heap.size]? = some (.cells #[] TT) := by rw [← hV42]; exact World.alloc_heap_new V41 _
              have hs42 : V42.heap.size = V41.heap.size + 1 := by rw [← hV42]; simp
              have hb42 : Below V41.heap.size V41 V42 := by rw [← hV42]; exact (Below.refl _ _).alloc (Nat.le_refl _) _
              rw [hV42]
              clear hV42
              have HB_V42 : Hid (Below W0.heap.size W0 V42) := Lib.hid (HB_V41.out.trans (hb42.mono HB_V41.out.size))
              have HS42 : Hid (V41.heap.size < V42.heap.size) := Lib.hid (by omega)
              have HX42 : Hid (W0.heap.size ≤ V41.heap.size) := Lib.hid HB_V41.out.size
              have HMy_42 : Hid (V42.heap[W0.heap.size]? = some (.cells #[.int .i64 a, .int .i64 b, .int .i64 c] TT)) := Lib.hid ((hb42.block _ (Array.getElem?_eq_some_iff.1 HMy_41.out).1).trans HMy_41.out)
              have HMx_42 := Lib.hid hm42
              clear hm42 hs42 hb42
              refine ⟨HSB.out _ HB_V42.out, ?_⟩
              refine wpAnyH_next (i := 4) rfl (by kernel_rfl) ?_
              obtain ⟨v43, V43, hr43, ho43, hg43, hb43⟩ := append_new V42 W0.heap.size V41.heap.size _ (some ⟨bk, off, none⟩) cap4 (o.take k) HMx_42.out HX42.out (((HL0.out.below HB_V42.out).take k)) (by rw [List.length_take]; omega) HB_V42.out.size
              rw [show (o.take k).length = k by rw [List.length_take]; omega] at hr43
              have HB_V43 : Hid (Below W0.heap.size W0 V43) := Lib.hid (HB_V42.out.trans hb43)
              have HMy_43 : Hid (V43.heap[W0.heap.size]? = some (.cells #[.int .i64 a, .int .i64 b, .int .i64 c] TT)) := Lib.hid ((hg43.block _ (Array.getElem?_eq_some_iff.1 HMy_42.out).1 (fun e => by have := And.intro HS41.out HS42.out; injection e with e; omega)).trans HMy_42.out)
              have HFu_43 : Hid (FtC W0.heap.size V43 v43 (o.take k)) := Lib.hid ho43.fresh
              have HOu_43 := Lib.hid ho43
              clear ho43 hg43 hb43
              go_wp2_with (at_builtin; refine append_by_run _ rfl _ _ 22 rfl _ _ rfl rfl _ _ hr43 ?_)
              clear hr43
              refine ⟨HSB.out _ HB_V43.out, ?_⟩
              refine wpAnyH_next (i := 7) rfl (by kernel_rfl) ?_
              obtain ⟨v44, V44, hr44, ho44, hb44⟩ := append_one V43 W0.heap.size v43 (o.take k) a b c W0.heap.size HOu_43.out HMy_43.out (by rw [List.length_take]; omega) HB_V43.out.size
              have HB_V44 : Hid (Below W0.heap.size W0 V44) := Lib.hid (HB_V43.out.trans hb44)
              have HO44 := Lib.hid ho44
              clear ho44 hb44
              go_wp2_with (at_builtin; refine append_by_run _ rfl _ _ 22 rfl _ _ rfl rfl _ _ hr44 ?_)
              clear hr44
              refine ⟨HSB.out _ HB_V44.out, ?_⟩
              refine wpAnyH_next (i := 8) rfl (by kernel_rfl) ?_
              go_wp2_with fail
              refine ⟨HSB.out _ HB_V44.out, ?_⟩
              refine wpAnyH_done (by kernel_rfl) ?_ _
              obtain ⟨v9, V9, hr9, ho9, hb9⟩ := append_rest V44 W0.heap.size v44 (o.take k ++ [(a, b, c)]) _ ao c2 (o.drop k) HO44.out (HR0.out.below HB_V44.out) (by simp; omega) (by rw [List.length_drop]; omega) HB_V44.out.size
              rw [show (o.drop k).length = o.length - k by rw [List.length_drop]] at hr9
              have HF9 : Hid (FtC w.heap.size V9 v9 (insL o (a, b, c))) := Lib.hid (by
                have e : insL o (a, b, c) = o.take k ++ [(a, b, c)] ++ o.drop k := by unfold insL; rw [HPL.out]; simp
                rw [e]
                exact FtC.mono ho9.fresh HSZ.out)
              have HB9 : Hid (Below w.heap.size w V9) := Lib.hid (HBW.out.trans ((HB_V44.out.trans hb9).mono HSZ.out))
              clear ho9 hb9
              go_wp2_with (at_builtin; refine append_by_run _ rfl _ _ 22 rfl _ _ rfl rfl _ _ hr9 ?_)
              go_ret2
              exact ⟨_, rfl, by rw [HWL.out]; exact HF9.out, HB9.out⟩
        · have HPL : Hid (plc o (a, b, c) = k) := Lib.hid (len_takeWhile hk HN.out (fun h => absurd h hkt))
          have q0 : decide ((k : Int) < (o.length : Int)) = false := decide_eq_false (by omega)
          have q1 : decide (k < o.length) = false := decide_eq_false hkt
          go_wp2_with fail
          go_quiet (fail)
          have HB5 : Hid (Below w4.heap.size w4 (wr.drewN nq)) := Lib.hid ⟨HBk.out.os, HBk.out.tape, HBk.out.output, HBk.out.size, HBk.out.block⟩
          go_wp2
          have HL0 : Hid (LowT (wr.drewN nq).drew.heap.size (wr.drewN nq).drew ad4 o) := Lib.hid (TmA.mono (show TmA _ (wr.drewN nq).drew ad4 o from HA4.out.below HB5.out.drew) (fun b hb _ => hb))
          obtain ⟨ao, c2, hAR, hc21, hc22, hrun⟩ := restT _ k ad4 cap4 o (wr.drewN nq).drew HL0.out hcc1 hk
          have HR0 : Hid (LowT (wr.drewN nq).drew.heap.size (wr.drewN nq).drew ao (o.drop k)) := Lib.hid hAR
          have HBW : Hid (Below w.heap.size w (wr.drewN nq).drew) := Lib.hid (HB4.out.trans (HB5.out.mono HB4.out.size)).drew
          have HXW : Hid ((wr.drewN nq).drew.cell? ⟨w.heap.size, 0, none⟩ = some (.int .i64 a) ∧ (wr.drewN nq).drew.cell? ⟨w.heap.size, 1, none⟩ = some (.int .i64 b) ∧ (wr.drewN nq).drew.cell? ⟨w.heap.size, 2, none⟩ = some (.int .i64 c)) := Lib.hid (keep3 HX4.out HB5.out.drew)
          have kc1 : (k : Int) ≤ (cap4 : Int) := by omega
          have kc2 : k ≤ cap4 := by omega
          have kc3 : (0 : Int) ≤ (k : Int) := by omega
          clear hAR
          refine wp_region_held (S := fun w' => w'.cell? ⟨w.heap.size, 0, none⟩ = some (.int .i64 a) ∧ w'.cell? ⟨w.heap.size, 1, none⟩ = some (.int .i64 b) ∧ w'.cell? ⟨w.heap.size, 2, none⟩ = some (.int .i64 c)) (by kernel_rfl) ?_
          obtain ⟨W0, hW0⟩ : ∃ W, (wr.drewN nq).drew = W := ⟨_, rfl⟩
          change wpAnyH _ _ _ _ _ _ _ _ (wr.drewN nq).drew
          rw [hW0] at HL0 HR0 HBW HXW ⊢
          have HB_W0 : Hid (Below W0.heap.size W0 W0) := Lib.hid (Below.refl _ _)
          have HSB : Hid (∀ V, Below W0.heap.size W0 V → V.cell? ⟨w.heap.size, 0, none⟩ = some (.int .i64 a) ∧ V.cell? ⟨w.heap.size, 1, none⟩ = some (.int .i64 b) ∧ V.cell? ⟨w.heap.size, 2, none⟩ = some (.int .i64 c)) := Lib.hid (fun V hV => keep3 HXW.out hV)
          have HSZ := Lib.hid HBW.out.size
          clear hW0
          refine wpAnyH_read (i := 1) (v := .slice ad4 o.length cap4) rfl (by kernel_rfl) (by kernel_rfl) (by kernel_rfl) (fun _ _ _ h => h) (by rfl) (fun _ _ => rfl) (HSB.out _ HB_W0.out) ?_
          simp only [Act.put, List.setIfInBounds_toArray, List.set_cons_zero, List.set_cons_succ]
          refine wpAnyH_read (i := 2) (v := .int .i64 (k : Int)) rfl (by kernel_rfl) (by kernel_rfl) (by kernel_rfl) (fun _ _ _ h => h) (by rfl) (fun _ _ => rfl) (HSB.out _ HB_W0.out) ?_
          simp only [Act.put, List.setIfInBounds_toArray, List.set_cons_zero, List.set_cons_succ]
          refine wpAnyH_read (i := 3) (v := .slice ad4 k cap4) rfl (by kernel_rfl) (by kernel_rfl) (by kernel_rfl) (fun _ _ _ h => h) (by rfl) ?_ (HSB.out _ HB_W0.out) ?_
          · rintro w' -
            go_simp
          simp only [Act.put, List.setIfInBounds_toArray, List.set_cons_zero, List.set_cons_succ]
          refine wpAnyH_read (i := 5) (v := .agg #[.int .i64 a, .int .i64 b, .int .i64 c]) rfl (by kernel_rfl) (by kernel_rfl) (by kernel_rfl) (fun _ _ _ h => h) (by rfl) ?_ (HSB.out _ HB_W0.out) ?_
          · rintro w' ⟨h1, h2, h3⟩
            go_simp
          simp only [Act.put, List.setIfInBounds_toArray, List.set_cons_zero, List.set_cons_succ]
          refine wpAnyH_all (rs := [0, 6]) (by kernel_rfl) (by simp) (fun j hj => ?_)
          rcases List.mem_cons.1 hj with rfl | hj
          · refine wpOp_of_list rfl ?_
            go_wp2_with fail
            obtain ⟨V1, hV1⟩ : ∃ V, W0.alloc (.cells #[] TT) = V := ⟨_, rfl⟩
            have hm1 : V1.heap[W0.heap.size]? = some (.cells #[] TT) := by rw [← hV1]; exact World.alloc_heap_new W0 _
            have hs1 : V1.heap.size = W0.heap.size + 1 := by rw [← hV1]; simp
            have hb1 : Below W0.heap.size W0 V1 := by rw [← hV1]; exact (Below.refl _ _).alloc (Nat.le_refl _) _
            rw [hV1]
            clear hV1
            have HB_V1 : Hid (Below W0.heap.size W0 V1) := Lib.hid (HB_W0.out.trans (hb1.mono HB_W0.out.size))
            have HS1 : Hid (W0.heap.size < V1.heap.size) := Lib.hid (by omega)
            have HX1 : Hid (W0.heap.size ≤ W0.heap.size) := Lib.hid HB_W0.out.size
            have HMx_1 := Lib.hid hm1
            clear hm1 hs1 hb1
            refine ⟨HSB.out _ HB_V1.out, ?_⟩
            refine wpAnyH_all (rs := [4, 6]) (by kernel_rfl) (by simp) (fun j hj => ?_)
            rcases List.mem_cons.1 hj with rfl | hj
            · refine wpOp_of_list rfl ?_
              obtain ⟨v2, V2, hr2, ho2, hg2, hb2⟩ := append_new V1 W0.heap.size W0.heap.size _ ad4 cap4 (o.take k) HMx_1.out HX1.out (((HL0.out.below HB_V1.out).take k)) (by rw [List.length_take]; omega) HB_V1.out.size
              rw [show (o.take k).length = k by rw [List.length_take]; omega] at hr2
              have HB_V2 : Hid (Below W0.heap.size W0 V2) := Lib.hid (HB_V1.out.trans hb2)
              have HFu_2 : Hid (FtC W0.heap.size V2 v2 (o.take k)) := Lib.hid ho2.fresh
              have HOu_2 := Lib.hid ho2
              clear ho2 hg2 hb2
              go_wp2_with (at_builtin; refine append_by_run _ rfl _ _ 22 rfl _ _ rfl rfl _ _ hr2 ?_)
              clear hr2
              refine ⟨HSB.out _ HB_V2.out, ?_⟩
              refine wpAnyH_next (i := 6) rfl (by kernel_rfl) ?_
              go_wp2_with fail
              obtain ⟨V3, hV3⟩ : ∃ V, V2.alloc (.cells #[.int .i64 a, .int .i64 b, .int .i64 c] TT) = V := ⟨_, rfl⟩
              have hm3 : V3.heap[V2.heap.size]? = some (.cells #[.int .i64 a, .int .i64 b, .int .i64 c] TT) := by rw [← hV3]; exact World.alloc_heap_new V2 _
              have hs3 : V3.heap.size = V2.heap.size + 1 := by rw [← hV3]; simp
              have hb3 : Below V2.heap.size V2 V3 := by rw [← hV3]; exact (Below.refl _ _).alloc (Nat.le_refl _) _
              rw [hV3]
              clear hV3
              have HB_V3 : Hid (Below W0.heap.size W0 V3) := Lib.hid (HB_V2.out.trans (hb3.mono HB_V2.out.size))
              have HS3 : Hid (V2.heap.size < V3.heap.size) := Lib.hid (by omega)
              have HX3 : Hid (W0.heap.size ≤ V2.heap.size) := Lib.hid HB_V2.out.size
              have HFu_3 : Hid (FtC W0.heap.size V3 v2 (o.take k)) := Lib.hid (HFu_2.out.below hb3)
              have HMy_3 := Lib.hid hm3
              have HBm3 := Lib.hid hb3
              clear hm3 hs3 hb3
              have HOu_3 : Hid (OwnT W0.heap.size (o.take k) v2 V3) := Lib.hid (HOu_2.out.below (by have := HBm3.out; exact this))
              refine ⟨HSB.out _ HB_V3.out, ?_⟩
              refine wpAnyH_next (i := 7) rfl (by kernel_rfl) ?_
              obtain ⟨v4, V4, hr4, ho4, hb4⟩ := append_one V3 W0.heap.size v2 (o.take k) a b c V2.heap.size HOu_3.out HMy_3.out (by rw [List.length_take]; omega) HB_V3.out.size
              have HB_V4 : Hid (Below W0.heap.size W0 V4) := Lib.hid (HB_V3.out.trans hb4)
              have HO4 := Lib.hid ho4
              clear ho4 hb4
              go_wp2_with (at_builtin; refine append_by_run _ rfl _ _ 22 rfl _ _ rfl rfl _ _ hr4 ?_)
              clear hr4
              refine ⟨HSB.out _ HB_V4.out, ?_⟩
              refine wpAnyH_next (i := 8) rfl (by kernel_rfl) ?_
              go_wp2_with fail
              refine ⟨HSB.out _ HB_V4.out, ?_⟩
              refine wpAnyH_done (by kernel_rfl) ?_ _
              obtain ⟨v9, V9, hr9, ho9, hb9⟩ := append_rest V4 W0.heap.size v4 (o.take k ++ [(a, b, c)]) _ ao c2 (o.drop k) HO4.out (HR0.out.below HB_V4.out) (by simp; omega) (by rw [List.length_drop]; omega) HB_V4.out.size
              rw [show (o.drop k).length = o.length - k by rw [List.length_drop]] at hr9
              have HF9 : Hid (FtC w.heap.size V9 v9 (insL o (a, b, c))) := Lib.hid (by
                have e : insL o (a, b, c) = o.take k ++ [(a, b, c)] ++ o.drop k := by unfold insL; rw [HPL.out]; simp
                rw [e]
                exact FtC.mono ho9.fresh HSZ.out)
              have HB9 : Hid (Below w.heap.size w V9) := Lib.hid (HBW.out.trans ((HB_V4.out.trans hb9).mono HSZ.out))
              clear ho9 hb9
              go_wp2_with (at_builtin; refine append_by_run _ rfl _ _ 22 rfl _ _ rfl rfl _ _ hr9 ?_)
              go_ret2
              exact ⟨_, rfl, by rw [HWL.out]; exact HF9.out, HB9.out⟩
            · obtain rfl : j = 6 := by simpa using hj
              refine wpOp_of_list rfl ?_
              go_wp2_with fail
              obtain ⟨V21, hV21⟩ : ∃ V, V1.alloc (.cells #[.int .i64 a, .int .i64 b, .int .i64 c] TT) = V := ⟨_, rfl⟩
              have hm21 : V21.heap[V1.heap.size]? = some (.cells #[.int .i64 a, .int .i64 b, .int .i64 c] TT) := by rw [← hV21]; exact World.alloc_heap_new V1 _
              have hs21 : V21.heap.size = V1.heap.size + 1 := by rw [← hV21]; simp
              have hb21 : Below V1.heap.size V1 V21 := by rw [← hV21]; exact (Below.refl _ _).alloc (Nat.le_refl _) _
              rw [hV21]
              clear hV21
              have HB_V21 : Hid (Below W0.heap.size W0 V21) := Lib.hid (HB_V1.out.trans (hb21.mono HB_V1.out.size))
              have HS21 : Hid (V1.heap.size < V21.heap.size) := Lib.hid (by omega)
              have HX21 : Hid (W0.heap.size ≤ V1.heap.size) := Lib.hid HB_V1.out.size
              have HMx_21 : Hid (V21.heap[W0.heap.size]? = some (.cells #[] TT)) := Lib.hid ((hb21.block _ (Array.getElem?_eq_some_iff.1 HMx_1.out).1).trans HMx_1.out)
              have HMy_21 := Lib.hid hm21
              clear hm21 hs21 hb21
              refine ⟨HSB.out _ HB_V21.out, ?_⟩
              refine wpAnyH_next (i := 4) rfl (by kernel_rfl) ?_
              obtain ⟨v22, V22, hr22, ho22, hg22, hb22⟩ := append_new V21 W0.heap.size W0.heap.size _ ad4 cap4 (o.take k) HMx_21.out HX1.out (((HL0.out.below HB_V21.out).take k)) (by rw [List.length_take]; omega) HB_V21.out.size
              rw [show (o.take k).length = k by rw [List.length_take]; omega] at hr22
              have HB_V22 : Hid (Below W0.heap.size W0 V22) := Lib.hid (HB_V21.out.trans hb22)
              have HMy_22 : Hid (V22.heap[V1.heap.size]? = some (.cells #[.int .i64 a, .int .i64 b, .int .i64 c] TT)) := Lib.hid ((hg22.block _ (Array.getElem?_eq_some_iff.1 HMy_21.out).1 (fun e => by have := And.intro HS1.out HS21.out; injection e with e; omega)).trans HMy_21.out)
              have HFu_22 : Hid (FtC W0.heap.size V22 v22 (o.take k)) := Lib.hid ho22.fresh
              have HOu_22 := Lib.hid ho22
              clear ho22 hg22 hb22
              go_wp2_with (at_builtin; refine append_by_run _ rfl _ _ 22 rfl _ _ rfl rfl _ _ hr22 ?_)
              clear hr22
              refine ⟨HSB.out _ HB_V22.out, ?_⟩
              refine wpAnyH_next (i := 7) rfl (by kernel_rfl) ?_
              obtain ⟨v23, V23, hr23, ho23, hb23⟩ := append_one V22 W0.heap.size v22 (o.take k) a b c V1.heap.size HOu_22.out HMy_22.out (by rw [List.length_take]; omega) HB_V22.out.size
              have HB_V23 : Hid (Below W0.heap.size W0 V23) := Lib.hid (HB_V22.out.trans hb23)
              have HO23 := Lib.hid ho23
              clear ho23 hb23
              go_wp2_with (at_builtin; refine append_by_run _ rfl _ _ 22 rfl _ _ rfl rfl _ _ hr23 ?_)
              clear hr23
              refine ⟨HSB.out _ HB_V23.out, ?_⟩
              refine wpAnyH_next (i := 8) rfl (by kernel_rfl) ?_
              go_wp2_with fail
              refine ⟨HSB.out _ HB_V23.out, ?_⟩
              refine wpAnyH_done (by kernel_rfl) ?_ _
              obtain ⟨v9, V9, hr9, ho9, hb9⟩ := append_rest V23 W0.heap.size v23 (o.take k ++ [(a, b, c)]) _ ao c2 (o.drop k) HO23.out (HR0.out.below HB_V23.out) (by simp; omega) (by rw [List.length_drop]; omega) HB_V23.out.size
              rw [show (o.drop k).length = o.length - k by rw [List.length_drop]] at hr9
              have HF9 : Hid (FtC w.heap.size V9 v9 (insL o (a, b, c))) := Lib.hid (by
                have e : insL o (a, b, c) = o.take k ++ [(a, b, c)] ++ o.drop k := by unfold insL; rw [HPL.out]; simp
                rw [e]
                exact FtC.mono ho9.fresh HSZ.out)
              have HB9 : Hid (Below w.heap.size w V9) := Lib.hid (HBW.out.trans ((HB_V23.out.trans hb9).mono HSZ.out))
              clear ho9 hb9
              go_wp2_with (at_builtin; refine append_by_run _ rfl _ _ 22 rfl _ _ rfl rfl _ _ hr9 ?_)
              go_ret2
              exact ⟨_, rfl, by rw [HWL.out]; exact HF9.out, HB9.out⟩
          · obtain rfl : j = 6 := by simpa using hj
            refine wpOp_of_list rfl ?_
            go_wp2_with fail
            obtain ⟨V41, hV41⟩ : ∃ V, W0.alloc (.cells #[.int .i64 a, .int .i64 b, .int .i64 c] TT) = V := ⟨_, rfl⟩
            have hm41 : V41.heap[W0.heap.size]? = some (.cells #[.int .i64 a, .int .i64 b, .int .i64 c] TT) := by rw [← hV41]; exact World.alloc_heap_new W0 _
            have hs41 : V41.heap.size = W0.heap.size + 1 := by rw [← hV41]; simp
            have hb41 : Below W0.heap.size W0 V41 := by rw [← hV41]; exact (Below.refl _ _).alloc (Nat.le_refl _) _
            rw [hV41]
            clear hV41
            have HB_V41 : Hid (Below W0.heap.size W0 V41) := Lib.hid (HB_W0.out.trans (hb41.mono HB_W0.out.size))
            have HS41 : Hid (W0.heap.size < V41.heap.size) := Lib.hid (by omega)
            have HX41 : Hid (W0.heap.size ≤ W0.heap.size) := Lib.hid HB_W0.out.size
            have HMy_41 := Lib.hid hm41
            clear hm41 hs41 hb41
            refine ⟨HSB.out _ HB_V41.out, ?_⟩
            refine wpAnyH_next (i := 0) rfl (by kernel_rfl) ?_
            go_wp2_with fail
            obtain ⟨V42, hV42⟩ : ∃ V, V41.alloc (.cells #[] TT) = V := ⟨_, rfl⟩
            have hm42 : V42.heap[V41.heap.size]? = some (.cells #[] TT) := by rw [← hV42]; exact World.alloc_heap_new V41 _
            have hs42 : V42.heap.size = V41.heap.size + 1 := by rw [← hV42]; simp
            have hb42 : Below V41.heap.size V41 V42 := by rw [← hV42]; exact (Below.refl _ _).alloc (Nat.le_refl _) _
            rw [hV42]
            clear hV42
            have HB_V42 : Hid (Below W0.heap.size W0 V42) := Lib.hid (HB_V41.out.trans (hb42.mono HB_V41.out.size))
            have HS42 : Hid (V41.heap.size < V42.heap.size) := Lib.hid (by omega)
            have HX42 : Hid (W0.heap.size ≤ V41.heap.size) := Lib.hid HB_V41.out.size
            have HMy_42 : Hid (V42.heap[W0.heap.size]? = some (.cells #[.int .i64 a, .int .i64 b, .int .i64 c] TT)) := Lib.hid ((hb42.block _ (Array.getElem?_eq_some_iff.1 HMy_41.out).1).trans HMy_41.out)
            have HMx_42 := Lib.hid hm42
            clear hm42 hs42 hb42
            refine ⟨HSB.out _ HB_V42.out, ?_⟩
            refine wpAnyH_next (i := 4) rfl (by kernel_rfl) ?_
            obtain ⟨v43, V43, hr43, ho43, hg43, hb43⟩ := append_new V42 W0.heap.size V41.heap.size _ ad4 cap4 (o.take k) HMx_42.out HX42.out (((HL0.out.below HB_V42.out).take k)) (by rw [List.length_take]; omega) HB_V42.out.size
            rw [show (o.take k).length = k by rw [List.length_take]; omega] at hr43
            have HB_V43 : Hid (Below W0.heap.size W0 V43) := Lib.hid (HB_V42.out.trans hb43)
            have HMy_43 : Hid (V43.heap[W0.heap.size]? = some (.cells #[.int .i64 a, .int .i64 b, .int .i64 c] TT)) := Lib.hid ((hg43.block _ (Array.getElem?_eq_some_iff.1 HMy_42.out).1 (fun e => by have := And.intro HS41.out HS42.out; injection e with e; omega)).trans HMy_42.out)
            have HFu_43 : Hid (FtC W0.heap.size V43 v43 (o.take k)) := Lib.hid ho43.fresh
            have HOu_43 := Lib.hid ho43
            clear ho43 hg43 hb43
            go_wp2_with (at_builtin; refine append_by_run _ rfl _ _ 22 rfl _ _ rfl rfl _ _ hr43 ?_)
            clear hr43
            refine ⟨HSB.out _ HB_V43.out, ?_⟩
            refine wpAnyH_next (i := 7) rfl (by kernel_rfl) ?_
            obtain ⟨v44, V44, hr44, ho44, hb44⟩ := append_one V43 W0.heap.size v43 (o.take k) a b c W0.heap.size HOu_43.out HMy_43.out (by rw [List.length_take]; omega) HB_V43.out.size
            have HB_V44 : Hid (Below W0.heap.size W0 V44) := Lib.hid (HB_V43.out.trans hb44)
            have HO44 := Lib.hid ho44
            clear ho44 hb44
            go_wp2_with (at_builtin; refine append_by_run _ rfl _ _ 22 rfl _ _ rfl rfl _ _ hr44 ?_)
            clear hr44
            refine ⟨HSB.out _ HB_V44.out, ?_⟩
            refine wpAnyH_next (i := 8) rfl (by kernel_rfl) ?_
            go_wp2_with fail
            refine ⟨HSB.out _ HB_V44.out, ?_⟩
            refine wpAnyH_done (by kernel_rfl) ?_ _
            obtain ⟨v9, V9, hr9, ho9, hb9⟩ := append_rest V44 W0.heap.size v44 (o.take k ++ [(a, b, c)]) _ ao c2 (o.drop k) HO44.out (HR0.out.below HB_V44.out) (by simp; omega) (by rw [List.length_drop]; omega) HB_V44.out.size
            rw [show (o.drop k).length = o.length - k by rw [List.length_drop]] at hr9
            have HF9 : Hid (FtC w.heap.size V9 v9 (insL o (a, b, c))) := Lib.hid (by
              have e : insL o (a, b, c) = o.take k ++ [(a, b, c)] ++ o.drop k := by unfold insL; rw [HPL.out]; simp
              rw [e]
              exact FtC.mono ho9.fresh HSZ.out)
            have HB9 : Hid (Below w.heap.size w V9) := Lib.hid (HBW.out.trans ((HB_V44.out.trans hb9).mono HSZ.out))
            clear ho9 hb9
            go_wp2_with (at_builtin; refine append_by_run _ rfl _ _ 22 rfl _ _ rfl rfl _ _ hr9 ?_)
            go_ret2
            exact ⟨_, rfl, by rw [HWL.out]; exact HF9.out, HB9.out⟩
    · have he : addE ts (a, b, c) = oneE (a, b, c) := by unfold addE; rw [if_neg (by simp [hc])]
      have hr : addQ ts (a, b, c) = [] := by unfold addQ; rw [if_neg (by rw [he]; exact ho)]
      rw [he, hr]
      obtain ⟨x, hx⟩ : ∃ x, oneE (a, b, c) = x := ⟨_, rfl⟩
      rw [hx] at ho ⊢
      simp only [hx] at hT
      have hxb : (x != 0) = true := by simpa using ho
      have HT := Lib.hid hT
      clear hc he hr ho hT hx
      go_enter Try.func14, Try.ntmps14
      go_wp2_with fail
      rw [HW1.out]
      refine HCK.out.mono ?_
      rintro e w2 ⟨rfl, b2⟩
      have HX2 := Lib.hid (keep3 HX1.out b2)
      have HB2 := Lib.hid (HB1.out.trans (b2.mono HB1.out.size))
      obtain ⟨p0, p1, p2⟩ := HX2.out
      clear b2
      go_wp2_with fail
      refine (HT.out _).mono ?_
      rintro e w3 ⟨rfl, b3⟩
      have HB3 := Lib.hid (((HB2.out.trans (b3.mono HB2.out.size))).alloc (Nat.le_trans HB2.out.size b3.size) (.cells #[] TT))
      clear b3 p0 p1 p2
      go_wp2
      go_ret2
      exact ⟨_, rfl, FtC.nil _ _ _ _ (by omega), HB3.out⟩
  · have he : addE ts (a, b, c) = 1 := by unfold addE; rw [if_pos hc]
    have hr : addQ ts (a, b, c) = [] := by unfold addQ; rw [if_neg (by rw [he]; decide)]
    rw [he, hr]
    obtain ⟨x, hx⟩ : ∃ x, chkE ts = x := ⟨_, rfl⟩
    rw [hx] at hc hCK
    have hxb : (x != 0) = true := by simpa using hc
    have HCK := Lib.hid hCK
    clear hc he hr hCK hx
    go_enter Try.func14, Try.ntmps14
    go_wp2_with fail
    rw [HW1.out]
    refine HCK.out.mono ?_
    rintro e w2 ⟨rfl, b2⟩
    have HB2 := Lib.hid ((HB1.out.trans (b2.mono HB1.out.size)).alloc (Nat.le_trans HB1.out.size b2.size) (.cells #[] TT))
    clear b2
    go_wp2
    go_ret2
    exact ⟨_, rfl, FtC.nil _ _ _ _ (by omega), HB2.out⟩

end Go.Proofs.Ytcmcgcogahkamaa
