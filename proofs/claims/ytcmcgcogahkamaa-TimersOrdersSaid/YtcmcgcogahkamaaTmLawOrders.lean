/-
  The walk of TimersOrders.
-/
import Derived.Test.YtcmcgcogahkamaaTmKeyEq
import Derived.Test.YtcmcgcogahkamaaTmRev
import Derived.Test.YtcmcgcogahkamaaTmPred
import Derived.Test.YtcmcgcogahkamaaHeldTop
import Derived.Test.YtcmcgcogahkamaaTmOpen
import Derived.Test.YtcmcgcogahkamaaTmMath
namespace Go.Proofs.Ytcmcgcogahkamaa
open Go.RowKit Go.Shelf

theorem pair_next {l : List Tm} {k : Nat} {a b c : Int} (hk : k < l.length) (ht : gt l k = (a, b, c)) (h : (l.take k).Pairwise KeyNe) (hn : hasK (l.take k) b c = false) : (l.take (k + 1)).Pairwise KeyNe := by
  rw [List.take_succ_eq_append_getElem hk]
  refine List.pairwise_append.2 ⟨h, List.pairwise_singleton _ _, fun s hs u hu => ?_⟩
  obtain rfl : u = l[k] := by simpa using hu
  have e : l[k] = (a, b, c) := by rw [← ht]; unfold gt; rw [List.getElem?_eq_getElem hk]; rfl
  rw [e]
  intro he
  have : hasK (l.take k) b c = true := hasK_iff.2 ⟨s, hs, he⟩
  rw [hn] at this
  cases this
theorem wf_b {a : Int} (h : (Lit.int .u8 a).wf = true) : ∃ m : Nat, a = (m : Int) ∧ m ≤ 255 := by
  simp [Lit.wf] at h
  have e1 : IntKind.u8.min = 0 := by decide
  have e2 : IntKind.u8.max = 255 := by decide
  exact ⟨a.toNat, by omega, by omega⟩
theorem own_some {B : Nat} {ts : List Tm} {v : Value} {w : World} (h : OwnT B ts v w) (h0 : 0 < ts.length) : ∃ g cap, v = .slice (some ⟨g, 0, none⟩) ts.length cap ∧ B ≤ g ∧ ts.length ≤ cap ∧ cap ≤ 9223372036854775807 := by
  rcases h.2 with ⟨_, h2⟩ | ⟨g, cap, cur, rfl, hb, _, h1, h2, _⟩
  · omega
  · exact ⟨g, cap, rfl, hb, h1, by unfold maxLen at h2; omega⟩
theorem turned_perm (l : List Tm) (m : Nat) : ((l.drop m ++ l.take m).reverse).Perm l := (List.reverse_perm _).trans (List.perm_append_comm.trans (by rw [List.take_append_drop]))

set_option maxRecDepth 100000 in
set_option maxHeartbeats 4000000 in
theorem timersOrders_walk (v : Value) (ts : List Tm) (N : Nat) (w : World) (hK : KtC w v ts) (hN : N ≤ 255) :
    Calls Try.prog 6 #[v, .int .u8 (N : Int)] w fun e w' => e = .returned (.bool true) ∧ Below w.heap.size w w' := by
  have HB0 : Hid (Below w.heap.size w w) := Lib.hid (Below.refl _ w)
  obtain ⟨ad, cap, rfl, hcap, hcapm, hA⟩ := hK
  have HA := Lib.hid hA
  have K1 : Hid (KtC w (.slice ad ts.length cap) ts) := Lib.hid ⟨ad, cap, rfl, hcap, hcapm, hA⟩
  clear hA
  by_cases hz : ts.length = 0
  · have hzi : (ts.length : Int) = 0 := by omega
    go_enter Try.func6, Try.ntmps6
    have hC1 := awake_any w
    have HC1 := Lib.hid hC1
    clear hC1
    go_wp2_with fail
    refine HC1.out.mono ?_
    rintro e w1 ⟨rfl, b1⟩
    have HB1 := Lib.hid (HB0.out.trans (b1.mono HB0.out.size))
    clear b1
    go_wp2
    go_ret
    exact ⟨rfl, HB1.out⟩
  · have hzi : ((ts.length : Int) == 0) = false := beq_eq_false_iff_ne.2 (by omega)
    by_cases hg : 30 < ts.length
    · have hgi : (30 : Int) < (ts.length : Int) := by omega
      go_enter Try.func6, Try.ntmps6
      have hC1 := awake_any w
      have HC1 := Lib.hid hC1
      clear hC1
      go_wp2_with fail
      refine HC1.out.mono ?_
      rintro e w1 ⟨rfl, b1⟩
      have HB1 := Lib.hid (HB0.out.trans (b1.mono HB0.out.size))
      clear b1
      go_wp2
      go_ret
      exact ⟨rfl, HB1.out⟩
    · have hgi : ¬ ((30 : Int) < (ts.length : Int)) := by omega
      have hl : ts.length ≤ 30 := by omega
      cases hB : addsB ts
      · have HBf := Lib.hid hB
        clear hB
        go_enter Try.func6, Try.ntmps6
        have hC1 := added_any _ ts w K1.out (by omega)
        rw [HBf.out] at hC1
        have HC1 := Lib.hid hC1
        clear hC1
        go_wp2_with fail
        refine HC1.out.mono ?_
        rintro e w1 ⟨v1, rfl, f1, b1⟩
        have HB1 := Lib.hid (HB0.out.trans (b1.mono HB0.out.size))
        have Kl_1 := Lib.hid (KtC.below K1.out b1)
        clear b1 f1
        have hC2 := awake_any w1
        have HC2 := Lib.hid hC2
        clear hC2
        go_wp2_with fail
        refine HC2.out.mono ?_
        rintro e w2 ⟨rfl, b2⟩
        have HB2 := Lib.hid (HB1.out.trans (b2.mono HB1.out.size))
        clear b2
        go_wp2
        go_ret
        exact ⟨rfl, HB2.out⟩
      · have hos := fun (m : List Tm) (h : ts.Pairwise KeyNe) (hp : m.Perm ts) => orders_same hB h hp
        have HBt := Lib.hid hB
        obtain ⟨Q, hQ⟩ : ∃ Q, addsL ts = Q := ⟨_, rfl⟩
        rw [hQ] at hos
        have HQ := Lib.hid hQ
        have HOS := Lib.hid hos
        clear hB hos hQ
        go_enter Try.func6, Try.ntmps6
        have hC1 := added_any _ ts w K1.out (by omega)
        rw [HBt.out, HQ.out] at hC1
        have HC1 := Lib.hid hC1
        clear hC1
        go_wp2_with fail
        refine HC1.out.mono ?_
        rintro e w1 ⟨v1, rfl, f1, b1⟩
        have HB1 := Lib.hid (HB0.out.trans (b1.mono HB0.out.size))
        have Kl_1 := Lib.hid (KtC.below K1.out b1)
        have Kq_1 : Hid (KtC w1 v1 (Q)) := Lib.hid (FtC.known f1)
        clear b1 f1
        obtain ⟨aq, cq, rfl, hcq, hdq, -⟩ := Kq_1.out
        have HBS := HB1
        have KQ := Kq_1
        go_wp2
        go_loopw [32] (fun x wr => ∃ (k : Nat), k ≤ ts.length ∧ x = .int .i64 k ∧ Hid ((ts.take k).Pairwise KeyNe) ∧ Hid (Below w.heap.size w wr) ∧ Hid (KtC wr (.slice aq Q.length cq) Q)) (fun x _ => ts.length - (intOf x).toNat)
        case atStart => exact ⟨0, Nat.zero_le _, rfl, Lib.hid (by rw [List.take_zero]; exact List.Pairwise.nil), HBS, KQ⟩
        case round =>
          obtain ⟨k, hk, rfl, HI, HB, HKQ⟩ := hrel
          by_cases hkt : k < ts.length
          · have k1 : (k : Int) < (ts.length : Int) := by omega
            have k0 : (0 : Int) ≤ (k : Int) := by omega
            have hAr := HA.out.below HB.out
            have hpn := fun {a b c : Int} h1 h2 => pair_next (a := a) (b := b) (c := c) hkt h1 HI.out h2
            obtain ⟨bk, off, rfl, _, hbk, c0, c1, c2⟩ := hAr k hkt
            obtain ⟨⟨a, b, c⟩, ht⟩ : ∃ t, gt ts k = t := ⟨_, rfl⟩
            have HPN := Lib.hid (hpn ht)
            rw [ht] at c0 c1 c2
            simp only [] at c0 c1 c2
            obtain ⟨W2, hW2⟩ : ∃ W, wr.alloc (.cells #[.int .i64 a, .int .i64 b, .int .i64 c] TT) = W := ⟨_, rfl⟩
            have hb2 : Below wr.heap.size wr W2 := by rw [← hW2]; exact (Below.refl _ wr).alloc (Nat.le_refl _) _
            have hx2 : W2.cell? ⟨wr.heap.size, 0, none⟩ = some (.int .i64 a) ∧ W2.cell? ⟨wr.heap.size, 1, none⟩ = some (.int .i64 b) ∧ W2.cell? ⟨wr.heap.size, 2, none⟩ = some (.int .i64 c) := by rw [← hW2]; exact box3 wr a b c
            have HAo := Lib.hid ((hAr.below hb2).take k)
            have HW2 := Lib.hid hW2
            have KQ0 := Lib.hid (KtC.below HKQ.out hb2)
            have HB2 := Lib.hid (HB.out.trans (hb2.mono HB.out.size))
            have HP := Lib.hid (orders1_pred wr.heap.size a b c W2 hx2)
            have kc1 : (k : Int) ≤ (cap : Int) := by omega
            have kc2 : k ≤ cap := by omega
            clear hAr hbk ht hpn hb2 hx2 hW2
            cases hH : hasK (ts.take k) b c
            · have HH := Lib.hid hH
              clear hH
              have hC21 := tContainsF_any _ 31 #[] #[.pointer (some ⟨wr.heap.size, 0, none⟩)] (some ⟨bk, off, none⟩) cap (ts.take k) (fun t => keyB t b c) W2 (enters_of Try.func31 (by kernel_rfl) rfl) HAo.out (by rw [List.length_take]; omega) HP.out
              rw [show (ts.take k).length = k by rw [List.length_take]; omega, show ((ts.take k).any fun t => keyB t b c) = hasK (ts.take k) b c from rfl, HH.out] at hC21
              have HC21 := Lib.hid hC21
              clear hC21
              go_wp2_with fail
              rw [HW2.out]
              refine HC21.out.mono ?_
              rintro e w21 ⟨rfl, b21⟩
              have HB21 := Lib.hid (HB2.out.trans (b21.mono HB2.out.size))
              have Kq_21 := Lib.hid (KtC.below KQ0.out b21)
              clear b21
              go_wp2
              go_roundw
              case rel => exact ⟨k + 1, by omega, by go_num, Lib.hid (HPN.out HH.out), HB21, Kq_21⟩
              case measure => simp [intOf]; omega
            · have HH := Lib.hid hH
              clear hH
              have hC21 := tContainsF_any _ 31 #[] #[.pointer (some ⟨wr.heap.size, 0, none⟩)] (some ⟨bk, off, none⟩) cap (ts.take k) (fun t => keyB t b c) W2 (enters_of Try.func31 (by kernel_rfl) rfl) HAo.out (by rw [List.length_take]; omega) HP.out
              rw [show (ts.take k).length = k by rw [List.length_take]; omega, show ((ts.take k).any fun t => keyB t b c) = hasK (ts.take k) b c from rfl, HH.out] at hC21
              have HC21 := Lib.hid hC21
              clear hC21
              go_wp2_with fail
              rw [HW2.out]
              refine HC21.out.mono ?_
              rintro e w21 ⟨rfl, b21⟩
              have HB21 := Lib.hid (HB2.out.trans (b21.mono HB2.out.size))
              have Kq_21 := Lib.hid (KtC.below KQ0.out b21)
              clear b21
              have hC22 := awake_any w21
              have HC22 := Lib.hid hC22
              clear hC22
              go_wp2_with fail
              refine HC22.out.mono ?_
              rintro e w22 ⟨rfl, b22⟩
              have HB22 := Lib.hid (HB21.out.trans (b22.mono HB21.out.size))
              clear b22
              go_wp2
              go_ret
              exact ⟨rfl, HB22.out⟩
          · obtain rfl : k = ts.length := by omega
            have hpw : ts.Pairwise KeyNe := by have := HI.out; rwa [List.take_length] at this
            obtain ⟨M, hM⟩ : ∃ M, N % ts.length = M := ⟨_, rfl⟩
            have hMl : M < ts.length := by rw [← hM]; exact Nat.mod_lt _ (by omega)
            have hm : (N : Int).tmod (ts.length : Int) = (M : Int) := by rw [← hM, Int.ofNat_tmod]
            obtain ⟨o1, o2, o3⟩ := HOS.out _ hpw (turned_perm ts M)
            obtain ⟨Z, hZ⟩ : ∃ Z, ts.drop M ++ ts.take M = Z := ⟨_, rfl⟩
            rw [hZ] at o1 o2
            have hZl : Z.length = ts.length := by rw [← hZ, List.length_append, List.length_drop, List.length_take]; omega
            have HZ := Lib.hid hZ
            have O1 := Lib.hid o1
            have O2 := Lib.hid o2.symm
            have O3 := Lib.hid o3
            have HZL := Lib.hid hZl
            have N0 : (0 : Int) ≤ (N : Int) := by omega
            have N1 : (N : Int) ≤ 255 := by omega
            have m0 : (0 : Int) ≤ (M : Int) := by omega
            have m1 : (M : Int) < (ts.length : Int) := by omega
            have m2 : (M : Int) ≤ (cap : Int) := by omega
            have m3 : M ≤ cap := by omega
            obtain ⟨W0, hW0⟩ : ∃ W, wr.drew = W := ⟨_, rfl⟩
            have hd : Below wr.heap.size wr W0 := by rw [← hW0]; exact (Below.refl _ _).drew
            have hA0 := (HA.out.below HB.out).below hd
            obtain ⟨ao, co, hAo, hc1, hc2, hrun⟩ := restT _ M ad cap ts W0 hA0 hcap (by omega)
            have KR : Hid (KtC W0 (.slice ao (ts.length - M) co) (ts.drop M)) := Lib.hid ⟨ao, co, by rw [List.length_drop], by rw [List.length_drop]; exact hc1, by omega, hAo.mono (fun _ _ _ => trivial)⟩
            have KT : Hid (KtC W0 (.slice ad M cap) (ts.take M)) := Lib.hid ⟨ad, cap, by rw [List.length_take, Nat.min_eq_left (by omega)], by rw [List.length_take]; omega, hcapm, (hA0.take M).mono (fun _ _ _ => trivial)⟩
            have KQ0 := Lib.hid (KtC.below HKQ.out hd)
            have HB0' := Lib.hid (HB.out.trans (hd.mono HB.out.size))
            have HW0 := Lib.hid hW0
            have HRUN := Lib.hid hrun
            clear hpw hM o1 o2 o3 hZ hZl hd hA0 hAo hW0 hrun
            go_wp2
            refine wp_region_held (S := fun _ => True) (by kernel_rfl) ?_
            change wpAnyH _ _ _ _ _ _ _ _ wr.drew
            rw [HW0.out]
            refine wpAnyH_read (i := 0) (v := .slice ad ts.length cap) rfl (by kernel_rfl) (by kernel_rfl) (by kernel_rfl) (fun _ _ _ h => h) (by rfl) (fun _ _ => rfl) trivial ?_
            simp only [Act.put, List.setIfInBounds_toArray, List.set_cons_zero, List.set_cons_succ]
            refine wpAnyH_read (i := 1) (v := .int .i64 (M : Int)) rfl (by kernel_rfl) (by kernel_rfl) (by kernel_rfl) (fun _ _ _ h => h) (by rfl) (fun _ _ => rfl) trivial ?_
            simp only [Act.put, List.setIfInBounds_toArray, List.set_cons_zero, List.set_cons_succ]
            refine wpAnyH_read (i := 2) (v := .slice ao (ts.length - M) co) rfl (by kernel_rfl) (by kernel_rfl) (by kernel_rfl) (fun _ _ _ h => h) (by rfl) ?_ trivial ?_
            · rintro V -
              have hv := HRUN.out V
              go_simp
            simp only [Act.put, List.setIfInBounds_toArray, List.set_cons_zero, List.set_cons_succ]
            refine wpAnyH_read (i := 3) (v := .slice ad ts.length cap) rfl (by kernel_rfl) (by kernel_rfl) (by kernel_rfl) (fun _ _ _ h => h) (by rfl) (fun _ _ => rfl) trivial ?_
            simp only [Act.put, List.setIfInBounds_toArray, List.set_cons_zero, List.set_cons_succ]
            refine wpAnyH_read (i := 4) (v := .int .i64 (M : Int)) rfl (by kernel_rfl) (by kernel_rfl) (by kernel_rfl) (fun _ _ _ h => h) (by rfl) (fun _ _ => rfl) trivial ?_
            simp only [Act.put, List.setIfInBounds_toArray, List.set_cons_zero, List.set_cons_succ]
            refine wpAnyH_read (i := 5) (v := .slice ad M cap) rfl (by kernel_rfl) (by kernel_rfl) (by kernel_rfl) (fun _ _ _ h => h) (by rfl) ?_ trivial ?_
            · rintro V -
              go_simp
            simp only [Act.put, List.setIfInBounds_toArray, List.set_cons_zero, List.set_cons_succ]
            refine wpAnyH_next (i := 6) rfl (by kernel_rfl) ?_
            obtain ⟨W3, hW3⟩ : ∃ W, W0.alloc (.cells #[.slice ao (ts.length - M) co, .slice ad M cap] 22) = W := ⟨_, rfl⟩
            have hb3 : Below W0.heap.size W0 W3 := by rw [← hW3]; exact (Below.refl _ _).alloc (Nat.le_refl _) _
            obtain ⟨p0, p1⟩ : W3.cell? ⟨W0.heap.size, 0, none⟩ = some (.slice ao (ts.length - M) co) ∧ W3.cell? ⟨W0.heap.size, 1, none⟩ = some (.slice ad M cap) := by rw [← hW3]; exact box2 W0 _ _ _
            have HC3 := Lib.hid (tConcat_own W0.heap.size _ _ (ts.drop M) (ts.take M) W3 p0 p1 (KtC.below KR.out hb3) (KtC.below KT.out hb3) (by rw [List.length_drop]; omega) (by rw [List.length_take]; omega))
            have HB3 := Lib.hid (HB0'.out.trans (hb3.mono HB0'.out.size))
            have KQ3 := Lib.hid (KtC.below KQ0.out hb3)
            have HW3 := Lib.hid hW3
            clear p0 p1 hb3 hW3
            go_wp2_with fail
            rw [HW3.out]
            try refine And.intro trivial ?_
            refine wpAnyH_next (i := 7) rfl (by kernel_rfl) ?_
            go_wp2_with fail
            refine HC3.out.mono ?_
            rintro e w5 ⟨v5, rfl, ho5, b5⟩
            rw [HZ.out] at ho5
            obtain ⟨g5, cg5, rfl, hg5, hcg5, hcm5⟩ := own_some ho5 (by rw [HZL.out]; omega)
            have HR5 := Lib.hid (tReverse_any W3.heap.size g5 cg5 Z w5 ho5 (by rw [HZL.out]; omega) hg5 hcg5 hcm5)
            have B5 := Lib.hid b5
            clear ho5 b5
            go_wp2_with fail
            try refine And.intro trivial ?_
            refine wpAnyH_next (i := 8) rfl (by kernel_rfl) ?_
            go_wp2_with fail
            try refine And.intro trivial ?_
            refine wpAnyH_done (by kernel_rfl) ?_ _
            go_wp2_with fail
            refine HR5.out.mono ?_
            rintro e w6 ⟨rfl, hk6, b6⟩
            have hb6 := B5.out.trans b6
            have HB6 := Lib.hid (HB3.out.trans (hb6.mono HB3.out.size))
            have KQ6 := Lib.hid (KtC.below KQ3.out hb6)
            have KZ6 : Hid (KtC w6 (.slice (some ⟨g5, 0, none⟩) Z.length cg5) Z.reverse) := Lib.hid (by rw [List.length_reverse] at hk6; exact hk6)
            have hz40 : Z.reverse.length ≤ 100 := by rw [List.length_reverse, HZL.out]; omega
            have hQe : ((Q.length : Int) == (ts.length : Int)) = true := by rw [O3.out]; simp
            clear hk6 b6 hb6
            have hC61 := added_any _ Z.reverse w6 KZ6.out hz40
            rw [O1.out, O2.out] at hC61
            have HC61 := Lib.hid hC61
            clear hC61
            go_wp2_with fail
            refine HC61.out.mono ?_
            rintro e w61 ⟨v7, rfl, f7, b61⟩
            have HB61 := Lib.hid (HB6.out.trans (b61.mono HB6.out.size))
            have Kq_61 := Lib.hid (KtC.below KQ6.out b61)
            have Kz_61 := Lib.hid (KtC.below KZ6.out b61)
            have Kr_61 : Hid (KtC w61 v7 (Q)) := Lib.hid (FtC.known f7)
            clear b61 f7
            have hC62 := same_at _ _ _ _ w61 Kq_61.out Kr_61.out
            rw [decide_eq_true rfl] at hC62
            have HC62 := Lib.hid hC62
            clear hC62
            go_wp2_with fail
            refine HC62.out.mono ?_
            rintro e w62 ⟨rfl, b62⟩
            have HB62 := Lib.hid (HB61.out.trans (b62.mono HB61.out.size))
            have Kq_62 := Lib.hid (KtC.below Kq_61.out b62)
            have Kz_62 := Lib.hid (KtC.below Kz_61.out b62)
            have Kr_62 := Lib.hid (KtC.below Kr_61.out b62)
            clear b62
            have hC63 := awake_any w62
            have HC63 := Lib.hid hC63
            clear hC63
            go_wp2_with fail
            refine HC63.out.mono ?_
            rintro e w63 ⟨rfl, b63⟩
            have HB63 := Lib.hid (HB62.out.trans (b63.mono HB62.out.size))
            clear b63
            go_wp2
            go_ret
            exact ⟨rfl, HB63.out⟩

end Go.Proofs.Ytcmcgcogahkamaa
