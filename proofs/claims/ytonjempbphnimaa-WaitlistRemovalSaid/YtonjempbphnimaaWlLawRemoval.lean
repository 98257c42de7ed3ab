/-
  The walk of WaitlistRemoval.
-/
import Derived.Deep.QuietTactic
import Derived.Test.YtonjempbphnimaaWlAwake
import Derived.Test.YtonjempbphnimaaWlRm
import Derived.Test.YtonjempbphnimaaWlAt
import Derived.Test.YtonjempbphnimaaWlOpen
import Derived.Test.YtonjempbphnimaaWlMathA
namespace Go.Proofs.Ytonjempbphnimaa
open Go.RowKit Go.Shelf

set_option maxRecDepth 100000 in
set_option maxHeartbeats 8000000 in
theorem waitlistRemoval_walk (v : Value) (ts : List Wl) (t u : Int) (w : World) (hK : KwC w v ts) :
    Calls Try.prog 7 #[v, .int .i64 t, .int .i64 u] w fun e w' => e = .returned (.bool true) ∧ Below w.heap.size w w' := by
  have HB0 : Hid (Below w.heap.size w w) := Lib.hid (Below.refl _ w)
  have K1 := Lib.hid hK
  have hG := great_atW v ts w hK
  clear hK
  by_cases hg : 12 < ts.length
  · rw [decide_eq_true hg] at hG
    have HG := Lib.hid hG
    clear hG hg
    go_enter Try.func7, Try.ntmps7
    go_wp2_with fail
    refine HG.out.mono ?_
    rintro e wg ⟨rfl, rfl⟩
    have hC1 := awake_any w
    have HC1 := Lib.hid hC1
    clear hC1
    go_wp2_with fail
    refine HC1.out.mono ?_
    rintro e w1 ⟨rfl, b1⟩
    have HB1 := Lib.hid (HB0.out.trans (b1.mono HB0.out.size))
    clear b1
    go_wp2
    go_ret
    exact ⟨rfl, HB1.out⟩
  · rw [decide_eq_false hg] at hG
    have HG := Lib.hid hG
    have hl : ts.length ≤ 12 := by omega
    clear hG hg
    obtain ⟨Q, hQ⟩ : ∃ Q, rmW ts t = Q := ⟨_, rfl⟩
    have hql : Q.length ≤ 12 := by rw [← hQ]; have := rmW_length ts t; omega
    obtain ⟨FI, hFI⟩ : ∃ x, fndI Q t = x := ⟨_, rfl⟩
    have e1 : fndB Q t = false := by rw [← hQ]; exact rmW_none ts t
    have e2 : rmW Q t = Q := by rw [← hQ]; exact rmW_twice ts t
    have e3 : rmW (rmW ts u) t = rmW Q u := by rw [← hQ]; exact rmW_comm ts u t
    obtain ⟨A, hA⟩ : ∃ x, rmW Q u = x := ⟨_, rfl⟩
    obtain ⟨C, hC⟩ : ∃ x, rmW ts u = x := ⟨_, rfl⟩
    have hcl : C.length ≤ 12 := by rw [← hC]; have := rmW_length ts u; omega
    rw [hA, hC] at e3
    have HQ := Lib.hid hQ
    have HFI := Lib.hid hFI
    have E1 := Lib.hid e1
    have E2 := Lib.hid e2
    have E3 := Lib.hid e3
    have HA := Lib.hid hA
    have HCU := Lib.hid hC
    have HQL := Lib.hid hql
    have HCL := Lib.hid hcl
    clear hQ hFI e1 e2 e3 hA hC hql hcl
    go_enter Try.func7, Try.ntmps7
    go_wp2_with fail
    refine HG.out.mono ?_
    rintro e wg ⟨rfl, rfl⟩
    have hC1 := wRemove_any v ts t w K1.out (by omega)
    rw [HQ.out] at hC1
    have HC1 := Lib.hid hC1
    clear hC1
    go_wp2_with fail
    refine HC1.out.mono ?_
    rintro e w1 ⟨v1, rfl, f1, b1⟩
    have HB1 := Lib.hid (HB0.out.trans (b1.mono HB0.out.size))
    have Kl_1 := Lib.hid (KwC.below K1.out b1)
    have Kq_1 : Hid (KwC w1 v1 (Q)) := Lib.hid (FwC.known f1)
    clear b1 f1
    have hC2 := wFind_any v1 Q t w1 Kq_1.out (by have := HQL.out; omega)
    rw [HFI.out, E1.out] at hC2
    have HC2 := Lib.hid hC2
    clear hC2
    go_wp2_with fail
    refine HC2.out.mono ?_
    rintro e w2 ⟨rfl, b2⟩
    have HB2 := Lib.hid (HB1.out.trans (b2.mono HB1.out.size))
    have Kl_2 := Lib.hid (KwC.below Kl_1.out b2)
    have Kq_2 := Lib.hid (KwC.below Kq_1.out b2)
    clear b2
    obtain ⟨ad, cap, rfl, hcap, hcap2, -⟩ := Kl_2.out
    obtain ⟨aq, cq, rfl, hcq, hcq2, -⟩ := Kq_2.out
    have KL0 := Kl_2
    have KQ0 := Kq_2
    have HBS := HB2
    have hqi : (Q.length : Int) ≤ 12 := by have := HQL.out; omega
    go_wp2
    go_loopw [10, 29] (fun y x wr => ∃ m : Nat, m ≤ ts.length ∧ x = .int .i64 m ∧ y = .int .i64 ((rmW (ts.take m) t).length : Nat) ∧ Hid (Below w2.heap.size w2 wr)) (fun _ x _ => ts.length - (intOf x).toNat)
    case atStart => exact ⟨0, Nat.zero_le _, rfl, by simp [rmW], Lib.hid (Below.refl _ _)⟩
    case round =>
      obtain ⟨m, hm, rfl, rfl, HB⟩ := hrel
      have KLm := Lib.hid (KwC.below KL0.out HB.out)
      have KQm := Lib.hid (KwC.below KQ0.out HB.out)
      have HBm := Lib.hid (HBS.out.trans (HB.out.mono HBS.out.size))
      by_cases hmt : m < ts.length
      · have k1 : (m : Int) < (ts.length : Int) := by omega
        have k0 : (0 : Int) ≤ (m : Int) := by omega
        obtain ⟨ad', cap', he', -, -, hAr⟩ := KLm.out
        cases he'
        obtain ⟨bk, off, e0, _, hbk, c0, c1, c2, c3, c4⟩ := hAr m hmt
        obtain ⟨⟨x0, x1, x2, x3, x4⟩, ht⟩ : ∃ x, gw ts m = x := ⟨_, rfl⟩
        rw [ht] at c0 c1 c2 c3 c4
        simp only [] at c0 c1 c2 c3 c4
        obtain ⟨W2, hW2⟩ : ∃ W, wr.alloc (.cells #[.int .i64 x0, .int .i64 x1, .int .i64 x2, .int .i64 x3, .int .i64 x4] TW) = W := ⟨_, rfl⟩
        have hb2 : Below wr.heap.size wr W2 := by rw [← hW2]; exact (Below.refl _ wr).alloc (Nat.le_refl _) _
        have hx2 : At5 W2 wr.heap.size 0 (x0, x1, x2, x3, x4) := by rw [← hW2]; exact box5 wr x0 x1 x2 x3 x4
        have HW2 := Lib.hid hW2
        have HX2 := Lib.hid hx2
        have HB2 := Lib.hid (HB.out.trans (hb2.mono HB.out.size))
        have KQ2 := Lib.hid (KwC.below KQm.out hb2)
        clear hb2 hx2 hW2 hAr
        by_cases hn : x0 = t
        · have hz : (rmW (ts.take (m + 1)) t).length = (rmW (ts.take m) t).length := rmW_past hmt (by rw [ht]; exact hn)
          have HZ := Lib.hid hz
          have m1 : (x0 != t) = false := by rw [hn]; simp
          clear hz ht hn
          subst e0
          obtain ⟨p0, p1, p2, p3, p4⟩ := HX2.out
          simp only [Nat.zero_add] at p0 p1 p2 p3 p4
          go_wp2_with fail
          rw [HW2.out]
          go_wp2
          go_roundw
          case rel => exact ⟨m + 1, by omega, by go_num, by rw [HZ.out], HB2⟩
          case measure => simp [intOf]; omega
        · obtain ⟨hz1, hz2, hz3⟩ := rmW_at hmt (by rw [ht]; exact hn)
          rw [HQ.out] at hz1 hz2
          have m1 : (x0 != t) = true := by simpa using hn
          have HZ := Lib.hid hz3
          obtain ⟨k, hk⟩ : ∃ k, (rmW (ts.take m) t).length = k := ⟨_, rfl⟩
          rw [hk] at hz1 hz2 HZ ⊢
          obtain ⟨aq', cq', he', -, -, hAq⟩ := KQ2.out
          cases he'
          obtain ⟨bq, oq, eq0, _, hbq, d0, d1, d2, d3, d4⟩ := hAq k hz1
          rw [hz2, ht] at d0 d1 d2 d3 d4
          simp only [] at d0 d1 d2 d3 d4
          have j1 : (k : Int) < (Q.length : Int) := by omega
          have j0 : (0 : Int) ≤ (k : Int) := by omega
          have j2 : decide ((Q.length : Int) ≤ (k : Int)) = false := decide_eq_false (by omega)
          have j3 : decide (Q.length ≤ k) = false := decide_eq_false (by omega)
          have j4 : decide ((k : Int) ≥ (Q.length : Int)) = false := decide_eq_false (by omega)
          have hneq : ∀ W : World, (binOp .neq TW (.agg #[.int .i64 x0, .int .i64 x1, .int .i64 x2, .int .i64 x3, .int .i64 x4]) (.agg #[.int .i64 x0, .int .i64 x1, .int .i64 x2, .int .i64 x3, .int .i64 x4])).run Try.prog W = .ok (.bool false) W := fun W => by have := run_neW x0 x1 x2 x3 x4 x0 x1 x2 x3 x4 W; simpa using this
          clear ht hn hz2 hz3 hAq
          subst e0 eq0
          obtain ⟨p0, p1, p2, p3, p4⟩ := HX2.out
          simp only [Nat.zero_add] at p0 p1 p2 p3 p4
          go_wp2_with fail
          rw [HW2.out]
          go_wp2
          go_quiet (fail)
          go_wp2
          go_roundw
          case rel => exact ⟨m + 1, by omega, by go_num, by rw [HZ.out]; go_num, Lib.hid ⟨HB2.out.os, HB2.out.tape, HB2.out.output, HB2.out.size, HB2.out.block⟩⟩
          case measure => simp [intOf]; omega
      · obtain rfl : m = ts.length := by omega
        have HK : Hid ((rmW (ts.take ts.length) t).length = Q.length) := Lib.hid (by rw [List.take_length, HQ.out])
        rw [HK.out]
        have hC3 := wRemove_any _ Q u wr KQm.out (by have := HQL.out; omega)
        rw [HA.out] at hC3
        have HC3 := Lib.hid hC3
        clear hC3
        go_wp2_with fail
        refine HC3.out.mono ?_
        rintro e w3 ⟨v3, rfl, f3, b3⟩
        have HB3 := Lib.hid (HBm.out.trans (b3.mono HBm.out.size))
        have Kl_3 := Lib.hid (KwC.below KLm.out b3)
        have Kq_3 := Lib.hid (KwC.below KQm.out b3)
        have Ka_3 : Hid (KwC w3 v3 (A)) := Lib.hid (FwC.known f3)
        clear b3 f3
        have hC4 := wRemove_any _ ts u w3 Kl_3.out (by omega)
        rw [HCU.out] at hC4
        have HC4 := Lib.hid hC4
        clear hC4
        go_wp2_with fail
        refine HC4.out.mono ?_
        rintro e w4 ⟨v4, rfl, f4, b4⟩
        have HB4 := Lib.hid (HB3.out.trans (b4.mono HB3.out.size))
        have Kl_4 := Lib.hid (KwC.below Kl_3.out b4)
        have Kq_4 := Lib.hid (KwC.below Kq_3.out b4)
        have Ka_4 := Lib.hid (KwC.below Ka_3.out b4)
        have Kc_4 : Hid (KwC w4 v4 (C)) := Lib.hid (FwC.known f4)
        clear b4 f4
        have hC5 := wRemove_any v4 C t w4 Kc_4.out (by have := HCL.out; omega)
        rw [E3.out] at hC5
        have HC5 := Lib.hid hC5
        clear hC5
        go_wp2_with fail
        refine HC5.out.mono ?_
        rintro e w5 ⟨v5, rfl, f5, b5⟩
        have HB5 := Lib.hid (HB4.out.trans (b5.mono HB4.out.size))
        have Kl_5 := Lib.hid (KwC.below Kl_4.out b5)
        have Kq_5 := Lib.hid (KwC.below Kq_4.out b5)
        have Ka_5 := Lib.hid (KwC.below Ka_4.out b5)
        have Kc_5 := Lib.hid (KwC.below Kc_4.out b5)
        have Kb_5 : Hid (KwC w5 v5 (A)) := Lib.hid (FwC.known f5)
        clear b5 f5
        have hC6 := wRemove_any _ Q t w5 Kq_5.out (by have := HQL.out; omega)
        rw [E2.out] at hC6
        have HC6 := Lib.hid hC6
        clear hC6
        go_wp2_with fail
        refine HC6.out.mono ?_
        rintro e w6 ⟨v6, rfl, f6, b6⟩
        have HB6 := Lib.hid (HB5.out.trans (b6.mono HB5.out.size))
        have Kl_6 := Lib.hid (KwC.below Kl_5.out b6)
        have Kq_6 := Lib.hid (KwC.below Kq_5.out b6)
        have Ka_6 := Lib.hid (KwC.below Ka_5.out b6)
        have Kc_6 := Lib.hid (KwC.below Kc_5.out b6)
        have Kb_6 := Lib.hid (KwC.below Kb_5.out b6)
        have Kr_6 : Hid (KwC w6 v6 (Q)) := Lib.hid (FwC.known f6)
        clear b6 f6
        have hC7 := eqW_same _ _ _ w6 Kr_6.out Kq_6.out
        have HC7 := Lib.hid hC7
        clear hC7
        go_wp2_with fail
        refine HC7.out.mono ?_
        rintro e w7 ⟨rfl, b7⟩
        have HB7 := Lib.hid (HB6.out.trans (b7.mono HB6.out.size))
        have Kl_7 := Lib.hid (KwC.below Kl_6.out b7)
        have Kq_7 := Lib.hid (KwC.below Kq_6.out b7)
        have Ka_7 := Lib.hid (KwC.below Ka_6.out b7)
        have Kc_7 := Lib.hid (KwC.below Kc_6.out b7)
        have Kb_7 := Lib.hid (KwC.below Kb_6.out b7)
        have Kr_7 := Lib.hid (KwC.below Kr_6.out b7)
        clear b7
        have hC8 := eqW_same _ _ _ w7 Ka_7.out Kb_7.out
        have HC8 := Lib.hid hC8
        clear hC8
        go_wp2_with fail
        refine HC8.out.mono ?_
        rintro e w8 ⟨rfl, b8⟩
        have HB8 := Lib.hid (HB7.out.trans (b8.mono HB7.out.size))
        have Kl_8 := Lib.hid (KwC.below Kl_7.out b8)
        have Kq_8 := Lib.hid (KwC.below Kq_7.out b8)
        have Ka_8 := Lib.hid (KwC.below Ka_7.out b8)
        have Kc_8 := Lib.hid (KwC.below Kc_7.out b8)
        have Kb_8 := Lib.hid (KwC.below Kb_7.out b8)
        have Kr_8 := Lib.hid (KwC.below Kr_7.out b8)
        clear b8
        have hC9 := awake_any w8
        have HC9 := Lib.hid hC9
        clear hC9
        go_wp2_with fail
        refine HC9.out.mono ?_
        rintro e w9 ⟨rfl, b9⟩
        have HB9 := Lib.hid (HB8.out.trans (b9.mono HB8.out.size))
        clear b9
        go_wp2
        go_ret
        exact ⟨rfl, HB9.out⟩

end Go.Proofs.Ytonjempbphnimaa
