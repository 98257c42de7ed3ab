/-
  The walk of TimersFind.
-/
import Derived.Test.YtcmcgcogahkamaaTmRefAdd
import Derived.Test.YtcmcgcogahkamaaTmOpen
import Derived.Test.YtcmcgcogahkamaaTmMath
namespace Go.Proofs.Ytcmcgcogahkamaa
open Go.RowKit Go.Shelf

set_option maxRecDepth 100000 in
set_option maxHeartbeats 4000000 in
theorem timersFind_walk (v : Value) (ts : List Tm) (k i : Int) (w : World) (hK : KtC w v ts) :
    Calls Try.prog 9 #[v, .int .i64 k, .int .i64 i] w fun e w' => e = .returned (.bool true) ∧ Below w.heap.size w w' := by
  have HB0 : Hid (Below w.heap.size w w) := Lib.hid (Below.refl _ w)
  have K1 := Lib.hid hK
  have hG := great_at v ts w hK
  clear hK
  by_cases hg : 40 < ts.length
  · rw [decide_eq_true hg] at hG
    have HG := Lib.hid hG
    clear hG hg
    go_enter Try.func9, Try.ntmps9
    go_wp2_with fail
    refine HG.out.mono ?_
    rintro e wg ⟨rfl, rfl⟩
    have hC1 := awake_any w
    have HC1 := Lib.hid hC1
    clear hC1
    go_wp2_with fail
    refine HC1.out.mono ?_
    rintro e w1 ⟨rfl, b1⟩
    have HB1 := Lib.hid (HB0.out.trans (b1.mono HB0.out.size))
    clear b1
    go_wp2
    go_ret
    exact ⟨rfl, HB1.out⟩
  · rw [decide_eq_false hg] at hG
    have HG := Lib.hid hG
    have hl : ts.length ≤ 40 := by omega
    clear hG hg
    by_cases hc : chkE ts = 0
    · have HC := Lib.hid hc
      have hfa := find_any (k := k) (i := i) hc
      obtain ⟨TF, hTF⟩ : ∃ x, fndT ts k i = x := ⟨_, rfl⟩
      obtain ⟨BF, hBF⟩ : ∃ x, fndB ts k i = x := ⟨_, rfl⟩
      rw [hTF, hBF] at hfa
      have HTF := Lib.hid hTF
      have HBF := Lib.hid hBF
      have HFA := Lib.hid hfa.symm
      clear hc hfa hTF hBF
      go_enter Try.func9, Try.ntmps9
      go_wp2_with fail
      refine HG.out.mono ?_
      rintro e wg ⟨rfl, rfl⟩
      have hC1 := tCheck_at v ts w K1.out (by omega)
      rw [HC.out] at hC1
      have HC1 := Lib.hid hC1
      clear hC1
      go_wp2_with fail
      refine HC1.out.mono ?_
      rintro e w1 ⟨rfl, b1⟩
      have HB1 := Lib.hid (HB0.out.trans (b1.mono HB0.out.size))
      have Kl_1 := Lib.hid (KtC.below K1.out b1)
      clear b1
      have hC2 := tFind_any v ts k i w1 Kl_1.out (by omega)
      rw [HTF.out, HBF.out] at hC2
      have HC2 := Lib.hid hC2
      clear hC2
      go_wp2_with fail
      refine HC2.out.mono ?_
      rintro e w2 ⟨rfl, b2⟩
      have HB2 := Lib.hid (HB1.out.trans (b2.mono HB1.out.size))
      have Kl_2 := Lib.hid (KtC.below Kl_1.out b2)
      clear b2
      obtain ⟨ad, cap, rfl, hcap, -, hA⟩ := Kl_2.out
      have hC3 := tContains_any _ ad cap ts TF k i w2 hA (by omega)
      unfold tmA encT at hC3
      dsimp only at hC3
      rw [HFA.out] at hC3
      have HC3 := Lib.hid hC3
      clear hC3
      go_wp2_with fail
      refine HC3.out.mono ?_
      rintro e w3 ⟨rfl, b3⟩
      have HB3 := Lib.hid (HB2.out.trans (b3.mono HB2.out.size))
      have Kl_3 := Lib.hid (KtC.below Kl_2.out b3)
      clear b3 hA
      have HBS := HB3
      have KS := Kl_3
      cases BF <;>
        · go_wp2
          go_loopw [38] (fun x wr => ∃ m : Nat, m ≤ ts.length ∧ x = .int .i64 m ∧ Hid (Below w.heap.size w wr)) (fun x _ => ts.length - (intOf x).toNat)
          case atStart => exact ⟨0, Nat.zero_le _, rfl, HBS⟩
          case round =>
            obtain ⟨m, hm, rfl, HB⟩ := hrel
            by_cases hmt : m < ts.length
            · have k1 : (m : Int) < (ts.length : Int) := by omega
              have k0 : (0 : Int) ≤ (m : Int) := by omega
              have hKr := KtC.below K1.out HB.out
              obtain ⟨ad', cap', he', -, -, hAr⟩ := hKr
              cases he'
              obtain ⟨bk, off, rfl, _, hbk, c0, c1, c2⟩ := hAr m hmt
              obtain ⟨⟨a, b, c⟩, ht⟩ : ∃ t, gt ts m = t := ⟨_, rfl⟩
              rw [ht] at c0 c1 c2
              simp only [] at c0 c1 c2
              have hfe := find_each HC.out (show (a, b, c) ∈ ts by rw [← ht]; exact gt_mem hmt)
              obtain ⟨f1, f2⟩ := hfe
              dsimp only at f1 f2
              have F1 := Lib.hid f1
              have F2 := Lib.hid f2
              obtain ⟨W2, hW2⟩ : ∃ W, wr.alloc (.cells #[.int .i64 a, .int .i64 b, .int .i64 c] TT) = W := ⟨_, rfl⟩
              have hb2 : Below wr.heap.size wr W2 := by rw [← hW2]; exact (Below.refl _ wr).alloc (Nat.le_refl _) _
              have hx2 : W2.cell? ⟨wr.heap.size, 0, none⟩ = some (.int .i64 a) ∧ W2.cell? ⟨wr.heap.size, 1, none⟩ = some (.int .i64 b) ∧ W2.cell? ⟨wr.heap.size, 2, none⟩ = some (.int .i64 c) := by rw [← hW2]; exact box3 wr a b c
              have HW2 := Lib.hid hW2
              have X0 := Lib.hid hx2
              have KL0 := Lib.hid (KtC.below (KtC.below K1.out HB.out) hb2)
              have HB2 := Lib.hid (HB.out.trans (hb2.mono HB.out.size))
              clear hAr hbk ht f1 f2 hb2 hx2 hW2
              go_wp2_with fail
              rw [HW2.out]
              have hC4 := tFind_any _ ts b c W2 KL0.out (by omega)
              rw [F1.out, F2.out] at hC4
              have HC4 := Lib.hid hC4
              clear hC4
              obtain ⟨xt0, xt1, xt2⟩ := X0.out
              go_wp2_with fail
              refine HC4.out.mono ?_
              rintro e w4 ⟨rfl, b4⟩
              clear xt0 xt1 xt2
              have HB4 := Lib.hid (HB2.out.trans (b4.mono HB2.out.size))
              have Kl_4 := Lib.hid (KtC.below KL0.out b4)
              have Xt_4 := Lib.hid (keep3 X0.out b4)
              clear b4
              obtain ⟨xt0, xt1, xt2⟩ := Xt_4.out
              go_wp2
              go_roundw
              case rel => exact ⟨m + 1, by omega, by go_num, HB4⟩
              case measure => simp [intOf]; omega
            · obtain rfl : m = ts.length := by omega
              have hC5 := awake_any wr
              have HC5 := Lib.hid hC5
              clear hC5
              go_wp2_with fail
              refine HC5.out.mono ?_
              rintro e w5 ⟨rfl, b5⟩
              have HB5 := Lib.hid (HB.out.trans (b5.mono HB.out.size))
              clear b5
              go_wp2
              go_ret
              exact ⟨rfl, HB5.out⟩
    · have HC := Lib.hid hc
      go_enter Try.func9, Try.ntmps9
      go_wp2_with fail
      refine HG.out.mono ?_
      rintro e wg ⟨rfl, rfl⟩
      have hC1 := tCheck_at v ts w K1.out (by omega)
      obtain ⟨E, hE⟩ : ∃ E, chkE ts = E := ⟨_, rfl⟩
      rw [hE] at hC1 hc
      clear hE
      have HC1 := Lib.hid hC1
      clear hC1
      go_wp2_with fail
      refine HC1.out.mono ?_
      rintro e w1 ⟨rfl, b1⟩
      have HB1 := Lib.hid (HB0.out.trans (b1.mono HB0.out.size))
      have Kl_1 := Lib.hid (KtC.below K1.out b1)
      clear b1
      have hC2 := awake_any w1
      have HC2 := Lib.hid hC2
      clear hC2
      go_wp2_with fail
      refine HC2.out.mono ?_
      rintro e w2 ⟨rfl, b2⟩
      have HB2 := Lib.hid (HB1.out.trans (b2.mono HB1.out.size))
      clear b2
      go_wp2
      go_ret
      exact ⟨rfl, HB2.out⟩

end Go.Proofs.Ytcmcgcogahkamaa
