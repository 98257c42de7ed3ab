/-
  The walk of WaitlistPriority.
-/
import Derived.Test.YtonjempbphnimaaWlAwake
import Derived.Test.YtonjempbphnimaaWlAt
import Derived.Test.YtonjempbphnimaaWlOpen
import Derived.Test.YtonjempbphnimaaWlPred
import Derived.Test.YtonjempbphnimaaWlSort
namespace Go.Proofs.Ytonjempbphnimaa
open Go.RowKit Go.Shelf

set_option maxRecDepth 100000 in
set_option maxHeartbeats 8000000 in
theorem waitlistPriority_walk (kd : Int) (v : Value) (ts : List Wl) (w : World) (hK : KwC w v ts) :
    Calls Try.prog 6 #[.int .i64 kd, v] w fun e w' => e = .returned (.bool true) ∧ Below w.heap.size w w' := by
  have HB0 : Hid (Below w.heap.size w w) := Lib.hid (Below.refl _ w)
  have K1 := Lib.hid hK
  have hG := great_atW v ts w hK
  clear hK
  by_cases hg : 12 < ts.length
  · rw [decide_eq_true hg] at hG
    have HG := Lib.hid hG
    clear hG hg
    go_enter Try.func6, Try.ntmps6
    go_wp2_with fail
    refine HG.out.mono ?_
    rintro e wg ⟨rfl, rfl⟩
    have hC1 := awake_any w
    have HC1 := Lib.hid hC1
    clear hC1
    go_wp2_with fail
    refine HC1.out.mono ?_
    rintro e w1 ⟨rfl, b1⟩
    have HB1 := Lib.hid (HB0.out.trans (b1.mono HB0.out.size))
    clear b1
    go_wp2
    go_ret
    exact ⟨rfl, HB1.out⟩
  · rw [decide_eq_false hg] at hG
    have HG := Lib.hid hG
    have hl : ts.length ≤ 12 := by omega
    clear hG hg
    by_cases hk : kindP kd
    · have hV := wContains_at v 30 #[] #[] ts (fun t => !okW t) w (enters_of Try.func30 (by kernel_rfl) rfl) K1.out (by omega) (prio1_pred w)
      cases ha : ts.any (fun t => !okW t) with
      | true =>
        rw [ha] at hV
        have HV := Lib.hid hV
        clear hV ha
        rcases hk with rfl | rfl
        · go_enter Try.func6, Try.ntmps6
          go_wp2_with fail
          refine HG.out.mono ?_
          rintro e wg ⟨rfl, rfl⟩
          go_wp2_with fail
          refine HV.out.mono ?_
          rintro e wv ⟨rfl, bv⟩
          have HBv := Lib.hid bv
          clear bv
          have hC1 := awake_any wv
          have HC1 := Lib.hid hC1
          clear hC1
          go_wp2_with fail
          refine HC1.out.mono ?_
          rintro e w1 ⟨rfl, b1⟩
          have HB1 := Lib.hid (HBv.out.trans (b1.mono HBv.out.size))
          clear b1
          go_wp2
          go_ret
          exact ⟨rfl, HB1.out⟩
        · go_enter Try.func6, Try.ntmps6
          go_wp2_with fail
          refine HG.out.mono ?_
          rintro e wg ⟨rfl, rfl⟩
          go_wp2_with fail
          refine HV.out.mono ?_
          rintro e wv ⟨rfl, bv⟩
          have HBv := Lib.hid bv
          clear bv
          have hC1 := awake_any wv
          have HC1 := Lib.hid hC1
          clear hC1
          go_wp2_with fail
          refine HC1.out.mono ?_
          rintro e w1 ⟨rfl, b1⟩
          have HB1 := Lib.hid (HBv.out.trans (b1.mono HBv.out.size))
          clear b1
          go_wp2
          go_ret
          exact ⟨rfl, HB1.out⟩
      | false =>
        rw [ha] at hV
        have HV := Lib.hid hV
        have ho : ∀ t ∈ ts, okW t = true := fun t ht => by
          have := List.any_eq_false.1 ha t ht
          simpa using this
        have HO := Lib.hid ho
        have HR := Lib.hid (fun n hn => push_round (n := n) hk ho hl hn)
        have HFL := Lib.hid (fun n hn => foldK_length kd ts n hn)
        clear hV ha
        rcases hk with rfl | rfl
        · go_enter Try.func6, Try.ntmps6
          go_wp2_with fail
          refine HG.out.mono ?_
          rintro e wg ⟨rfl, rfl⟩
          go_wp2_with fail
          refine HV.out.mono ?_
          rintro e wv ⟨rfl, bv⟩
          have HBv := Lib.hid bv
          have Klv := Lib.hid (KwC.below K1.out bv)
          obtain ⟨ad, cap, rfl, hcap, hcap2, -⟩ := Klv.out
          clear bv
          go_wp2
          go_loopw [5, 28] (fun q x wr => ∃ (k : Nat) (u : Value), k ≤ ts.length ∧ x = .int .i64 k ∧ u = q ∧ Hid (KwC wr u (foldK 1 (ts.take k))) ∧ Hid (Below wv.heap.size wv wr)) (fun _ x _ => ts.length - (intOf x).toNat)
          case atStart => exact ⟨0, _, Nat.zero_le _, rfl, rfl, Lib.hid (KwC.nil _ _ _ (by omega)), Lib.hid (Below.refl _ _)⟩
          case round =>
            obtain ⟨k, u, hk, rfl, rfl, HQ, HB⟩ := hrel
            have Klr := Lib.hid (KwC.below Klv.out HB.out)
            have HBr := Lib.hid (HBv.out.trans (HB.out.mono HBv.out.size))
            by_cases hkt : k < ts.length
            · have k1 : (k : Int) < (ts.length : Int) := by omega
              have k0 : (0 : Int) ≤ (k : Int) := by omega
              obtain ⟨ad', cap', he', -, -, hAr⟩ := Klr.out
              cases he'
              obtain ⟨bk, off, e0, _, hbk, c0, c1, c2, c3, c4⟩ := hAr k hkt
              obtain ⟨r1, r2, r3⟩ := HR.out k hkt
              obtain ⟨⟨x0, x1, x2, x3, x4⟩, ht⟩ : ∃ x, gw ts k = x := ⟨_, rfl⟩
              rw [ht] at c0 c1 c2 c3 c4 r1 r2
              simp only [] at c0 c1 c2 c3 c4
              obtain ⟨W2, hW2⟩ : ∃ W, wr.alloc (.cells #[.int .i64 x0, .int .i64 x1, .int .i64 x2, .int .i64 x3, .int .i64 x4] TW) = W := ⟨_, rfl⟩
              have hb2 : Below wr.heap.size wr W2 := by rw [← hW2]; exact (Below.refl _ wr).alloc (Nat.le_refl _) _
              have hx2 : At5 W2 wr.heap.size 0 (x0, x1, x2, x3, x4) := by rw [← hW2]; exact box5 wr x0 x1 x2 x3 x4
              have hP := wPush_any u 1 (foldK 1 (ts.take k)) x0 x1 x2 x3 x4 W2 (KwC.below HQ.out hb2)
              rw [r1, r2] at hP
              have HP := Lib.hid hP
              have HR3 := Lib.hid r3
              have HB2 := Lib.hid (HB.out.trans (hb2.mono HB.out.size))
              have HW2 := Lib.hid hW2
              have X2 := Lib.hid hx2
              subst e0
              clear hb2 hx2 hW2 hAr hP r1 r2 r3 ht
              obtain ⟨p0, p1, p2, p3, p4⟩ := X2.out
              simp only [Nat.zero_add] at p0 p1 p2 p3 p4
              go_wp2_with fail
              rw [HW2.out]
              go_wp2_with fail
              refine HP.out.mono ?_
              rintro e w3 ⟨v3, rfl, f3, b3⟩
              have K3 := Lib.hid (FwC.known f3)
              have HB3 := Lib.hid (HB2.out.trans (b3.mono HB2.out.size))
              have hC := wCheck_at v3 1 _ w3 K3.out
              rw [HR3.out] at hC
              have HC := Lib.hid hC
              clear f3 b3 hC p0 p1 p2 p3 p4 c0 c1 c2 c3 c4
              go_wp2_with fail
              refine HC.out.mono ?_
              rintro e w4 ⟨rfl, b4⟩
              have K4 := Lib.hid (KwC.below K3.out b4)
              have HB4 := Lib.hid (HB3.out.trans (b4.mono HB3.out.size))
              clear b4
              go_wp2
              go_roundw
              case rel => exact ⟨k + 1, _, by omega, by go_num, rfl, K4, HB4⟩
              case measure => simp [intOf]; omega
            · obtain rfl : k = ts.length := by omega
              have HQ : Hid (KwC wr u (foldK 1 ts)) := Lib.hid (by have := HQ.out; rwa [List.take_length] at this)
              have HCL := Lib.hid (wClone_any (fun _ => True) ad cap ts wr (by omega) (by obtain ⟨a', c', e', -, -, h'⟩ := Klr.out; cases e'; exact h'))
              go_wp2_with fail
              refine HCL.out.mono ?_
              rintro e w5 ⟨v5, rfl, o5, b5⟩
              have O5 := Lib.hid o5
              have Q5 := Lib.hid (KwC.below HQ.out b5)
              have HB5 := Lib.hid (HBr.out.trans (b5.mono HBr.out.size))
              have H5 := Lib.hid b5
              clear o5 b5
              have HE := eqW_same u v5 ts w5 (by have := Q5.out; rwa [foldK_fifo] at this) (OwnW.fresh O5.out).known
              have HE := Lib.hid HE
              go_wp2_with fail
              refine HE.out.mono ?_
              rintro e w6 ⟨rfl, b6⟩
              have HB6 := Lib.hid (HB5.out.trans (b6.mono HB5.out.size))
              clear b6
              have hC7 := awake_any w6
              have HC7 := Lib.hid hC7
              clear hC7
              go_wp2_with fail
              refine HC7.out.mono ?_
              rintro e w7 ⟨rfl, b7⟩
              have HB7 := Lib.hid (HB6.out.trans (b7.mono HB6.out.size))
              clear b7
              go_wp2
              go_ret
              exact ⟨rfl, HB7.out⟩
        · go_enter Try.func6, Try.ntmps6
          go_wp2_with fail
          refine HG.out.mono ?_
          rintro e wg ⟨rfl, rfl⟩
          go_wp2_with fail
          refine HV.out.mono ?_
          rintro e wv ⟨rfl, bv⟩
          have HBv := Lib.hid bv
          have Klv := Lib.hid (KwC.below K1.out bv)
          obtain ⟨ad, cap, rfl, hcap, hcap2, -⟩ := Klv.out
          clear bv
          go_wp2
          go_loopw [5, 28] (fun q x wr => ∃ (k : Nat) (u : Value), k ≤ ts.length ∧ x = .int .i64 k ∧ u = q ∧ Hid (KwC wr u (foldK 2 (ts.take k))) ∧ Hid (Below wv.heap.size wv wr)) (fun _ x _ => ts.length - (intOf x).toNat)
          case atStart => exact ⟨0, _, Nat.zero_le _, rfl, rfl, Lib.hid (KwC.nil _ _ _ (by omega)), Lib.hid (Below.refl _ _)⟩
          case round =>
            obtain ⟨k, u, hk, rfl, rfl, HQ, HB⟩ := hrel
            have Klr := Lib.hid (KwC.below Klv.out HB.out)
            have HBr := Lib.hid (HBv.out.trans (HB.out.mono HBv.out.size))
            by_cases hkt : k < ts.length
            · have k1 : (k : Int) < (ts.length : Int) := by omega
              have k0 : (0 : Int) ≤ (k : Int) := by omega
              obtain ⟨ad', cap', he', -, -, hAr⟩ := Klr.out
              cases he'
              obtain ⟨bk, off, e0, _, hbk, c0, c1, c2, c3, c4⟩ := hAr k hkt
              obtain ⟨r1, r2, r3⟩ := HR.out k hkt
              obtain ⟨⟨x0, x1, x2, x3, x4⟩, ht⟩ : ∃ x, gw ts k = x := ⟨_, rfl⟩
              rw [ht] at c0 c1 c2 c3 c4 r1 r2
              simp only [] at c0 c1 c2 c3 c4
              obtain ⟨W2, hW2⟩ : ∃ W, wr.alloc (.cells #[.int .i64 x0, .int .i64 x1, .int .i64 x2, .int .i64 x3, .int .i64 x4] TW) = W := ⟨_, rfl⟩
              have hb2 : Below wr.heap.size wr W2 := by rw [← hW2]; exact (Below.refl _ wr).alloc (Nat.le_refl _) _
              have hx2 : At5 W2 wr.heap.size 0 (x0, x1, x2, x3, x4) := by rw [← hW2]; exact box5 wr x0 x1 x2 x3 x4
              have hP := wPush_any u 2 (foldK 2 (ts.take k)) x0 x1 x2 x3 x4 W2 (KwC.below HQ.out hb2)
              rw [r1, r2] at hP
              have HP := Lib.hid hP
              have HR3 := Lib.hid r3
              have HB2 := Lib.hid (HB.out.trans (hb2.mono HB.out.size))
              have HW2 := Lib.hid hW2
              have X2 := Lib.hid hx2
              subst e0
              clear hb2 hx2 hW2 hAr hP r1 r2 r3 ht
              obtain ⟨p0, p1, p2, p3, p4⟩ := X2.out
              simp only [Nat.zero_add] at p0 p1 p2 p3 p4
              go_wp2_with fail
              rw [HW2.out]
              go_wp2_with fail
              refine HP.out.mono ?_
              rintro e w3 ⟨v3, rfl, f3, b3⟩
              have K3 := Lib.hid (FwC.known f3)
              have HB3 := Lib.hid (HB2.out.trans (b3.mono HB2.out.size))
              have hC := wCheck_at v3 2 _ w3 K3.out
              rw [HR3.out] at hC
              have HC := Lib.hid hC
              clear f3 b3 hC p0 p1 p2 p3 p4 c0 c1 c2 c3 c4
              go_wp2_with fail
              refine HC.out.mono ?_
              rintro e w4 ⟨rfl, b4⟩
              have K4 := Lib.hid (KwC.below K3.out b4)
              have HB4 := Lib.hid (HB3.out.trans (b4.mono HB3.out.size))
              clear b4
              go_wp2
              go_roundw
              case rel => exact ⟨k + 1, _, by omega, by go_num, rfl, K4, HB4⟩
              case measure => simp [intOf]; omega
            · obtain rfl : k = ts.length := by omega
              have HQ : Hid (KwC wr u (foldK 2 ts)) := Lib.hid (by have := HQ.out; rwa [List.take_length] at this)
              have HCL := Lib.hid (wClone_any (fun _ => True) ad cap ts wr (by omega) (by obtain ⟨a', c', e', -, -, h'⟩ := Klr.out; cases e'; exact h'))
              go_wp2_with fail
              refine HCL.out.mono ?_
              rintro e w5 ⟨v5, rfl, o5, b5⟩
              have O5 := Lib.hid o5
              have Q5 := Lib.hid (KwC.below HQ.out b5)
              have HB5 := Lib.hid (HBr.out.trans (b5.mono HBr.out.size))
              have H5 := Lib.hid b5
              clear o5 b5
              have HS := Lib.hid (wSort_any _ v5 ts w5 O5.out (by omega) HO.out)
              go_wp2_with fail
              refine HS.out.mono ?_
              rintro e w6 ⟨rfl, k6, b6⟩
              have Q6 := Lib.hid (KwC.below HQ.out (H5.out.trans b6))
              have HB6 := Lib.hid (HBr.out.trans ((H5.out.trans b6).mono HBr.out.size))
              have HE := Lib.hid (eqW_same u v5 _ w6 Q6.out k6)
              clear b6 k6
              go_wp2_with fail
              refine HE.out.mono ?_
              rintro e w7 ⟨rfl, b7⟩
              have HB7 := Lib.hid (HB6.out.trans (b7.mono HB6.out.size))
              clear b7
              have hC8 := awake_any w7
              have HC8 := Lib.hid hC8
              clear hC8
              go_wp2_with fail
              refine HC8.out.mono ?_
              rintro e w8 ⟨rfl, b8⟩
              have HB8 := Lib.hid (HB7.out.trans (b8.mono HB7.out.size))
              clear b8
              go_wp2
              go_ret
              exact ⟨rfl, HB8.out⟩
    · have h1 : (kd != 1) = true := by
        rw [bne_iff_ne]
        exact fun h => hk (.inl h)
      have h2 : (kd != 2) = true := by
        rw [bne_iff_ne]
        exact fun h => hk (.inr h)
      clear hk
      go_enter Try.func6, Try.ntmps6
      go_wp2_with fail
      refine HG.out.mono ?_
      rintro e wg ⟨rfl, rfl⟩
      have hC1 := awake_any w
      have HC1 := Lib.hid hC1
      clear hC1
      go_wp2_with fail
      refine HC1.out.mono ?_
      rintro e w1 ⟨rfl, b1⟩
      have HB1 := Lib.hid (HB0.out.trans (b1.mono HB0.out.size))
      clear b1
      go_wp2
      go_ret
      exact ⟨rfl, HB1.out⟩

end Go.Proofs.Ytonjempbphnimaa
