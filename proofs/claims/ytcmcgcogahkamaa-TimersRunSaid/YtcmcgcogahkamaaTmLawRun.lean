/-
  The walk of TimersRun.
-/
import Derived.Test.YtcmcgcogahkamaaHeldTop
import Derived.Test.YtcmcgcogahkamaaTmRunA
import Derived.Test.YtcmcgcogahkamaaTmOpen
namespace Go.Proofs.Ytcmcgcogahkamaa
open Go.RowKit Go.Shelf

set_option maxRecDepth 100000 in
set_option maxHeartbeats 4000000 in
theorem timersRun_walk (v : Value) (ts : List Tm) (w : World) (hK : KtC w v ts) :
    Calls Try.prog 10 #[v] w fun e w' => e = .returned (.bool true) ∧ Below w.heap.size w w' := by
  have HB0 : Hid (Below w.heap.size w w) := Lib.hid (Below.refl _ w)
  have K1 := Lib.hid hK
  have hG := great_at v ts w hK
  clear hK
  by_cases hg : 40 < ts.length
  · rw [decide_eq_true hg] at hG
    have HG := Lib.hid hG
    clear hG hg
    go_enter Try.func10, Try.ntmps10
    go_wp2_with fail
    refine HG.out.mono ?_
    rintro e wg ⟨rfl, rfl⟩
    have hC1 := awake_any w
    have HC1 := Lib.hid hC1
    clear hC1
    go_wp2_with fail
    refine HC1.out.mono ?_
    rintro e w1 ⟨rfl, b1⟩
    have HB1 := Lib.hid (HB0.out.trans (b1.mono HB0.out.size))
    clear b1
    go_wp2
    go_ret
    exact ⟨rfl, HB1.out⟩
  · rw [decide_eq_false hg] at hG
    have HG := Lib.hid hG
    have hl : ts.length ≤ 40 := by omega
    clear hG hg
    by_cases hc : chkE ts = 0
    · have HC := Lib.hid hc
      clear hc
      go_enter Try.func10, Try.ntmps10
      go_wp2_with fail
      refine HG.out.mono ?_
      rintro e wg ⟨rfl, rfl⟩
      have hC1 := tCheck_at v ts w K1.out (by omega)
      rw [HC.out] at hC1
      have HC1 := Lib.hid hC1
      clear hC1
      go_wp2_with fail
      refine HC1.out.mono ?_
      rintro e w1 ⟨rfl, b1⟩
      have HB1 := Lib.hid (HB0.out.trans (b1.mono HB0.out.size))
      have Kl_1 := Lib.hid (KtC.below K1.out b1)
      clear b1
      obtain ⟨av, cv, rfl, hcv, hdv, -⟩ := Kl_1.out
      have HBS := HB1
      have KS : Hid (KtC w1 (.slice av ts.length cv) (ts.drop 0)) := Lib.hid (by rw [List.drop_zero]; exact Kl_1.out)
      go_wp2
      go_loopw [3, 4, 5, 22] (fun f q n x wr => ∃ (j k : Nat) (u v : Value) (now : Int), u = f ∧ v = q ∧ n = .int .i64 now ∧ x = .int .i64 k ∧ k ≤ j ∧ j ≤ ts.length ∧ Hid (OwnT w.heap.size (ts.take j) u wr) ∧ Hid (KtC wr v (ts.drop j)) ∧ Hid (j < ts.length → now < (gt ts j).1) ∧ Hid (Below w.heap.size w wr)) (fun _ _ _ x _ => ts.length + 1 - (intOf x).toNat)
      case atStart => exact ⟨0, 0, _, _, 0, rfl, rfl, rfl, rfl, Nat.le_refl _, Nat.zero_le _, Lib.hid (OwnT.nil _ _), KS, Lib.hid (fun h => first_pos HC.out h), HBS⟩
      case round =>
        obtain ⟨j, k, u, v, now, rfl, rfl, rfl, rfl, hkj, hj, HO, HQ, HN, HB⟩ := hrel
        have k1 : (k : Int) < (ts.length : Int) + 1 := by omega
        have k0 : (0 : Int) ≤ (k : Int) := by omega
        by_cases hjt : j < ts.length
        · have hdl : (ts.drop j).length = ts.length - j := List.length_drop
          obtain ⟨n, s1, s2, s3, s4, s5, s6, s7, s8, s9⟩ := run_step HC.out hjt
          have hnow := HN.out hjt
          obtain ⟨Q, hQ⟩ : ∃ Q, ts.drop j = Q := ⟨_, rfl⟩
          obtain ⟨T, hT⟩ : ∃ T, (gt ts j).1 = T := ⟨_, rfl⟩
          obtain ⟨D, hD⟩ : ∃ D, Q.take n = D := ⟨_, rfl⟩
          have hDl : D.length = n := by rw [← hD, List.length_take, ← hQ, hdl]; omega
          rw [hQ] at HQ hdl s3 s4 s5 s6 s7 s8
          rw [hT] at hnow s4 s5 s6 s8 s9
          rw [hD] at s5 s7 s8
          have S3 := Lib.hid s3
          have S4 := Lib.hid s4
          have S5 := Lib.hid s5
          have S6 := Lib.hid s6
          have S7 := Lib.hid s7
          have S8 := Lib.hid s8
          have S9 := Lib.hid s9
          have HNOW := Lib.hid hnow
          have hnl : ¬ (T ≤ now) := by omega
          have hD0 : (0 : Int) < (D.length : Int) := by omega
          have hD2 : ((D.length : Int) == 0) = false := beq_eq_false_iff_ne.2 (by omega)
          have hQ40 : Q.length ≤ 40 := by omega
          have hD40 : D.length ≤ 40 := by omega
          have HDL := Lib.hid hDl
          have HdL := Lib.hid hdl
          clear hDl hdl s3 s4 s5 s6 s7 s8 s9 hQ hT hD
          have ZS0 : Hid (Below wr.heap.size wr wr) := Lib.hid (Below.refl _ _)
          have hC21 := tNext_any v Q wr HQ.out (by omega)
          rw [S4.out, S3.out] at hC21
          have HC21 := Lib.hid hC21
          clear hC21
          go_wp2_with fail
          refine HC21.out.mono ?_
          rintro e w21 ⟨rfl, b21⟩
          have HB21 := Lib.hid (HB.out.trans (b21.mono HB.out.size))
          have Kq_21 := Lib.hid (KtC.below HQ.out b21)
          have Zo_21 := Lib.hid (OwnT.below HO.out b21)
          have Zs_21 := Lib.hid (below_chain ZS0.out b21)
          clear b21
          obtain ⟨W2, hW2⟩ : ∃ W, w21.alloc (.cells #[.int .i64 T] 3) = W := ⟨_, rfl⟩
          have hb2 : Below w21.heap.size w21 W2 := by rw [← hW2]; exact (Below.refl _ _).alloc (Nat.le_refl _) _
          have Y2 := Lib.hid (show W2.cell? ⟨w21.heap.size, 0, none⟩ = some (.int .i64 T) by rw [← hW2]; exact box1 _ _ _)
          have HW2 := Lib.hid hW2
          clear hW2
          have HB22 := Lib.hid (HB21.out.trans (hb2.mono HB21.out.size))
          have Kq_22 := Lib.hid (KtC.below Kq_21.out hb2)
          have Zo_22 := Lib.hid (OwnT.below Zo_21.out hb2)
          have Zs_22 := Lib.hid (below_chain Zs_21.out hb2)
          have hC23 := tExpire_any v Q T W2 Kq_22.out (by omega)
          rw [S5.out, S6.out] at hC23
          have HC23 := Lib.hid hC23
          clear hC23
          have yn0 := Y2.out
          go_wp2_with fail
          rw [HW2.out]
          refine HC23.out.mono ?_
          rintro e w23 ⟨du, re, rfl, f1, g1, b23⟩
          clear yn0
          have HB23 := Lib.hid (HB22.out.trans (b23.mono HB22.out.size))
          have Kq_23 := Lib.hid (KtC.below Kq_22.out b23)
          have Yn_23 := Lib.hid (cell_later b23 Y2.out)
          have Zo_23 := Lib.hid (OwnT.below Zo_22.out b23)
          have Zs_23 := Lib.hid (below_chain Zs_22.out b23)
          have Kd_23 : Hid (KtC w23 du (D)) := Lib.hid (FtC.known f1)
          clear b23 f1
          have G1 := Lib.hid g1
          clear g1
          obtain ⟨ad, cd, rfl, hcd, hdd, hAD⟩ := Kd_23.out
          have HAD := Lib.hid hAD
          have hC24 := tContainsF_any _ 35 #[] #[.pointer (some ⟨w21.heap.size, 0, none⟩)] ad cd D _ w23 (enters_of Try.func35 (by kernel_rfl) rfl) hAD (by omega) (run1_pred w21.heap.size T w23 Yn_23.out)
          rw [S8.out] at hC24
          have HC24 := Lib.hid hC24
          clear hC24
          have yn0 := Yn_23.out
          go_wp2_with fail
          refine HC24.out.mono ?_
          rintro e w24 ⟨rfl, b24⟩
          clear yn0
          have HB24 := Lib.hid (HB23.out.trans (b24.mono HB23.out.size))
          have Kq_24 := Lib.hid (KtC.below Kq_23.out b24)
          have Kd_24 := Lib.hid (KtC.below Kd_23.out b24)
          have Yn_24 := Lib.hid (cell_later b24 Yn_23.out)
          have Zo_24 := Lib.hid (OwnT.below Zo_23.out b24)
          have Zs_24 := Lib.hid (below_chain Zs_23.out b24)
          have Zr_24 := Lib.hid (FtC.below G1.out b24)
          clear b24 hAD
          obtain ⟨W0, hW0⟩ : ∃ W, w24.drew = W := ⟨_, rfl⟩
          have hd : Below w24.heap.size w24 W0 := by rw [← hW0]; exact (Below.refl _ _).drew
          have hO0 := OwnT.below Zo_24.out hd
          have hR0 := FtC.below Zr_24.out hd
          have hD0' := KtC.below Kd_24.out hd
          have hS0 := cell_later hd Yn_24.out
          have HBW := Lib.hid (HB24.out.trans (hd.mono HB24.out.size))
          obtain ⟨ad', cd', hq', -, -, hAD'⟩ := hD0'
          cases hq'
          have hold := OwnT.old HO.out
          obtain ⟨v4, V4, hr4, ho4, hg4, hb4⟩ := append_rest2 W0 w.heap.size u (ts.take j) _ ad cd D hO0 hAD' (by rw [List.length_take]; omega) (by omega) HBW.out.size (by omega)
          have hsz1 : wr.heap.size ≤ w21.heap.size := Zs_21.out.size
          have hsz : wr.heap.size ≤ W2.heap.size := Nat.le_trans hsz1 hb2.size
          have HS0 := Lib.hid hS0
          have HS4 := Lib.hid (hg4.cell hS0 (fun e => by have h1 := hold _ e.symm; dsimp only at h1; omega))
          have HR4 := Lib.hid (ftc_grown hR0 (fun k e => Nat.lt_of_lt_of_le (hold k e) hsz) hg4)
          have HO4 := Lib.hid (show OwnT w.heap.size (ts.take (j + n)) v4 V4 by rw [← S7.out]; exact ho4)
          have HB4 := Lib.hid (HBW.out.trans hb4)
          have HRUN := Lib.hid hr4
          clear hd hO0 hR0 hS0 hAD' hold hr4 ho4 hg4 hb4 hsz hb2 hsz1
          go_wp2
          refine wp_region_held (S := fun w' => w'.cell? ⟨w21.heap.size, 0, none⟩ = some (.int .i64 T)) (by kernel_rfl) ?_
          change wpAnyH _ _ _ _ _ _ _ _ w24.drew
          rw [hW0]
          clear hW0
          refine wpAnyH_read (i := 0) (v := u) rfl (by kernel_rfl) (by kernel_rfl) (by kernel_rfl) (fun _ _ _ h => h) (by rfl) (fun _ _ => rfl) HS0.out ?_
          simp only [Act.put, List.setIfInBounds_toArray, List.set_cons_zero, List.set_cons_succ]
          refine wpAnyH_read (i := 1) (v := .slice ad D.length cd) rfl (by kernel_rfl) (by kernel_rfl) (by kernel_rfl) (fun _ _ _ h => h) (by rfl) (fun _ _ => rfl) HS0.out ?_
          simp only [Act.put, List.setIfInBounds_toArray, List.set_cons_zero, List.set_cons_succ]
          refine wpAnyH_read (i := 3) (v := re) rfl (by kernel_rfl) (by kernel_rfl) (by kernel_rfl) (fun _ _ _ h => h) (by rfl) (fun _ _ => rfl) HS0.out ?_
          simp only [Act.put, List.setIfInBounds_toArray, List.set_cons_zero, List.set_cons_succ]
          refine wpAnyH_read (i := 4) (v := .int .i64 T) rfl (by kernel_rfl) (by kernel_rfl) (by kernel_rfl) (fun _ _ _ h => h) (by rfl) ?_ HS0.out ?_
          · rintro w' h1
            go_simp
          simp only [Act.put, List.setIfInBounds_toArray, List.set_cons_zero, List.set_cons_succ]
          refine wpAnyH_next (i := 2) rfl (by kernel_rfl) ?_
          go_wp2_with (at_builtin; refine append_by_run _ rfl _ _ 22 rfl _ _ rfl rfl _ _ HRUN.out ?_)
          refine ⟨HS4.out, ?_⟩
          refine wpAnyH_next (i := 5) rfl (by kernel_rfl) ?_
          go_wp2_with fail
          refine ⟨HS4.out, ?_⟩
          refine wpAnyH_next (i := 6) rfl (by kernel_rfl) ?_
          go_wp2_with fail
          refine ⟨HS4.out, ?_⟩
          refine wpAnyH_next (i := 7) rfl (by kernel_rfl) ?_
          go_wp2_with fail
          refine ⟨HS4.out, ?_⟩
          refine wpAnyH_done (by kernel_rfl) ?_ _
          go_wp2
          go_roundw
          case rel => exact ⟨j + n, k + 1, _, _, T, rfl, rfl, rfl, by go_num, by omega, s2, HO4, Lib.hid (FtC.known HR4.out), S9, HB4⟩
          case measure => simp [intOf]; omega
        · obtain rfl : j = ts.length := by omega
          have HO' : Hid (KtC wr u ts) := Lib.hid (by have := OwnT.fresh HO.out; rw [List.take_length] at this; exact FtC.known this)
          have hQ' := HQ.out
          rw [List.drop_length] at hQ'
          obtain ⟨aq, cq, rfl, hcq, hdq, -⟩ := hQ'
          have HQ' : Hid (KtC wr (.slice aq 0 cq) []) := Lib.hid (by have := HQ.out; rw [List.drop_length] at this; exact this)
          have hz1 : nxtB [] = false := by unfold nxtB; rw [show decide (0 < ([] : List Tm).length) = false from rfl, Bool.and_false]
          obtain ⟨X, hX⟩ : ∃ X, nxtT [] = X := ⟨_, rfl⟩
          have HX := Lib.hid hX
          have HZ1 := Lib.hid hz1
          clear hX hz1 HQ
          have KLs : Hid (KtC wr (.slice av ts.length cv) ts) := Lib.hid (KtC.below K1.out HB.out)
          have hC61 := tNext_any (.slice aq 0 cq) [] wr HQ'.out (by simp)
          rw [HX.out, HZ1.out] at hC61
          have HC61 := Lib.hid hC61
          clear hC61
          go_wp2_with fail
          refine HC61.out.mono ?_
          rintro e w61 ⟨rfl, b61⟩
          have HB61 := Lib.hid (HB.out.trans (b61.mono HB.out.size))
          have Kq_61 := Lib.hid (KtC.below HQ'.out b61)
          have Ko_61 := Lib.hid (KtC.below HO'.out b61)
          have Kl_61 := Lib.hid (KtC.below KLs.out b61)
          clear b61
          obtain ⟨W2, hW2⟩ : ∃ W, w61.alloc (.cells #[.int .i64 X] 3) = W := ⟨_, rfl⟩
          have hb2 : Below w61.heap.size w61 W2 := by rw [← hW2]; exact (Below.refl _ _).alloc (Nat.le_refl _) _
          have HW2 := Lib.hid hW2
          clear hW2
          have HB62 := Lib.hid (HB61.out.trans (hb2.mono HB61.out.size))
          have Kq_62 := Lib.hid (KtC.below Kq_61.out hb2)
          have Ko_62 := Lib.hid (KtC.below Ko_61.out hb2)
          have Kl_62 := Lib.hid (KtC.below Kl_61.out hb2)
          have hC63 := same_at _ _ _ _ W2 Ko_62.out Kl_62.out
          rw [decide_eq_true rfl] at hC63
          have HC63 := Lib.hid hC63
          clear hC63
          go_wp2_with fail
          rw [HW2.out]
          refine HC63.out.mono ?_
          rintro e w63 ⟨rfl, b63⟩
          have HB63 := Lib.hid (HB62.out.trans (b63.mono HB62.out.size))
          have Ko_63 := Lib.hid (KtC.below Ko_62.out b63)
          have Kl_63 := Lib.hid (KtC.below Kl_62.out b63)
          clear b63
          have hC64 := awake_any w63
          have HC64 := Lib.hid hC64
          clear hC64
          go_wp2_with fail
          refine HC64.out.mono ?_
          rintro e w64 ⟨rfl, b64⟩
          have HB64 := Lib.hid (HB63.out.trans (b64.mono HB63.out.size))
          clear b64
          go_wp2
          go_ret
          exact ⟨rfl, HB64.out⟩
    · have HC := Lib.hid hc
      go_enter Try.func10, Try.ntmps10
      go_wp2_with fail
      refine HG.out.mono ?_
      rintro e wg ⟨rfl, rfl⟩
      have hC1 := tCheck_at v ts w K1.out (by omega)
      obtain ⟨E, hE⟩ : ∃ E, chkE ts = E := ⟨_, rfl⟩
      rw [hE] at hC1 hc
      clear hE
      have HC1 := Lib.hid hC1
      clear hC1
      go_wp2_with fail
      refine HC1.out.mono ?_
      rintro e w1 ⟨rfl, b1⟩
      have HB1 := Lib.hid (HB0.out.trans (b1.mono HB0.out.size))
      have Kl_1 := Lib.hid (KtC.below K1.out b1)
      clear b1
      have hC2 := awake_any w1
      have HC2 := Lib.hid hC2
      clear hC2
      go_wp2_with fail
      refine HC2.out.mono ?_
      rintro e w2 ⟨rfl, b2⟩
      have HB2 := Lib.hid (HB1.out.trans (b2.mono HB1.out.size))
      clear b2
      go_wp2
      go_ret
      exact ⟨rfl, HB2.out⟩

end Go.Proofs.Ytcmcgcogahkamaa
