/-
  The walk of WaitlistFair.
-/
import Derived.Deep.QuietTactic
import Derived.Test.YtonjempbphnimaaWlAwake
import Derived.Test.YtonjempbphnimaaWlGrant
import Derived.Test.YtonjempbphnimaaWlAt
import Derived.Test.YtonjempbphnimaaWlOpen
import Derived.Test.YtonjempbphnimaaWlMathF
import Derived.Test.YtonjempbphnimaaWlPred
import Derived.Test.YtonjempbphnimaaWlCat
namespace Go.Proofs.Ytonjempbphnimaa
open Go.RowKit Go.Shelf

set_option maxRecDepth 100000 in
set_option maxHeartbeats 8000000 in
theorem waitlistFair_walk (v : Value) (ts : List Wl) (u : Int) (w : World) (hK : KwC w v ts) (hu : -9223372036854775808 ≤ u ∧ u ≤ 9223372036854775807) :
    Calls Try.prog 9 #[v, .int .i64 u] w fun e w' => e = .returned (.bool true) ∧ Below w.heap.size w w' := by
  have HB0 : Hid (Below w.heap.size w w) := Lib.hid (Below.refl _ w)
  have K1 := Lib.hid hK
  have HU := Lib.hid hu
  have hG := great_atW v ts w hK
  clear hK hu
  by_cases hg : 12 < ts.length
  · rw [decide_eq_true hg] at hG
    have HG := Lib.hid hG
    clear hG hg
    go_enter Try.func9, Try.ntmps9
    go_wp2_with fail
    refine HG.out.mono ?_
    rintro e wg ⟨rfl, rfl⟩
    have hC1 := awake_any w
    have HC1 := Lib.hid hC1
    clear hC1
    go_wp2_with fail
    refine HC1.out.mono ?_
    rintro e w1 ⟨rfl, b1⟩
    have HB1 := Lib.hid (HB0.out.trans (b1.mono HB0.out.size))
    clear b1
    go_wp2
    go_ret
    exact ⟨rfl, HB1.out⟩
  · rw [decide_eq_false hg] at hG
    have HG := Lib.hid hG
    have hl : ts.length ≤ 12 := by omega
    have hS := small_any v ts u w K1.out (by omega)
    clear hG hg
    cases hs : smallW ts u with
    | false =>
      rw [hs] at hS
      have HS := Lib.hid hS
      clear hS hs
      go_enter Try.func9, Try.ntmps9
      go_wp2_with fail
      refine HG.out.mono ?_
      rintro e wg ⟨rfl, rfl⟩
      go_wp2_with fail
      refine HS.out.mono ?_
      rintro e ws ⟨rfl, bs⟩
      have HBs := Lib.hid bs
      clear bs
      have hC1 := awake_any ws
      have HC1 := Lib.hid hC1
      clear hC1
      go_wp2_with fail
      refine HC1.out.mono ?_
      rintro e w1 ⟨rfl, b1⟩
      have HB1 := Lib.hid (HBs.out.trans (b1.mono HBs.out.size))
      clear b1
      go_wp2
      go_ret
      exact ⟨rfl, HB1.out⟩
    | true =>
      rw [hs] at hS
      have HS := Lib.hid hS
      obtain ⟨hp1, hp2⟩ := gr_plain u ts
      have hps := gr_passed u ts
      obtain ⟨xs, hxs⟩ := gr_first u ts
      have hal : (grG false u ts).length ≤ ts.length := grS_len1 false u ts
      have hbl : (grO false u ts).length ≤ ts.length := grS_len2 false u ts
      have hcl : (grG true u ts).length ≤ ts.length := grS_len1 true u ts
      have hdl : (grO true u ts).length ≤ ts.length := grS_len2 true u ts
      have hg1 := wGrant_any v ts u false
      have hg2 := wGrant_any v ts u true
      clear hS hs
      obtain ⟨A, hA⟩ : ∃ x, grG false u ts = x := ⟨_, rfl⟩
      obtain ⟨B, hB⟩ : ∃ x, grO false u ts = x := ⟨_, rfl⟩
      obtain ⟨C, hC⟩ : ∃ x, grG true u ts = x := ⟨_, rfl⟩
      obtain ⟨D, hD⟩ : ∃ x, grO true u ts = x := ⟨_, rfl⟩
      obtain ⟨n1, hn1⟩ : ∃ x, grN false u ts = x := ⟨_, rfl⟩
      obtain ⟨n2, hn2⟩ : ∃ x, grN true u ts = x := ⟨_, rfl⟩
      rw [hA, hB] at hp1
      rw [hB, hn1] at hp2
      rw [hD, hn2] at hps
      rw [hC, hA] at hxs
      rw [hA] at hal
      rw [hB] at hbl
      rw [hC] at hcl
      rw [hD] at hdl
      rw [hA, hB, hn1] at hg1
      rw [hC, hD, hn2] at hg2
      have hca : A.length ≤ C.length := by rw [hxs]; simp
      have hpre : C.take A.length = A := by rw [hxs]; simp
      have HG1 := Lib.hid hg1
      have HG2 := Lib.hid hg2
      have HP1 := Lib.hid hp1
      have HP2 := Lib.hid hp2
      have HPS := Lib.hid hps
      have HPRE := Lib.hid hpre
      clear hg1 hg2 hA hB hC hD hn1 hn2 hp1 hp2 hps hxs hpre
      go_enter Try.func9, Try.ntmps9
      go_wp2_with fail
      refine HG.out.mono ?_
      rintro e wg ⟨rfl, rfl⟩
      go_wp2_with fail
      refine HS.out.mono ?_
      rintro e ws ⟨rfl, bs⟩
      have HBs := Lib.hid bs
      have Kls := Lib.hid (KwC.below K1.out bs)
      clear bs
      have hC1 := HG1.out ws Kls.out (by omega) HU.out
      have HC1 := Lib.hid hC1
      clear hC1
      go_wp2_with fail
      refine HC1.out.mono ?_
      rintro e w1 ⟨xa, xb, rfl, f1, g1, b1⟩
      have HB1 := Lib.hid (HBs.out.trans (b1.mono HBs.out.size))
      have Kl_1 := Lib.hid (KwC.below Kls.out b1)
      have Ka_1 : Hid (KwC w1 xa (A)) := Lib.hid (FwC.known f1)
      have Kb_1 : Hid (KwC w1 xb (B)) := Lib.hid (FwC.known g1)
      clear b1 f1 g1
      have hC2 := HG2.out w1 Kl_1.out (by omega) HU.out
      have HC2 := Lib.hid hC2
      clear hC2
      go_wp2_with fail
      refine HC2.out.mono ?_
      rintro e w2 ⟨xc, xd, rfl, f2, g2, b2⟩
      have HB2 := Lib.hid (HB1.out.trans (b2.mono HB1.out.size))
      have Kl_2 := Lib.hid (KwC.below Kl_1.out b2)
      have Ka_2 := Lib.hid (KwC.below Ka_1.out b2)
      have Kb_2 := Lib.hid (KwC.below Kb_1.out b2)
      have Kc_2 : Hid (KwC w2 xc (C)) := Lib.hid (FwC.known f2)
      have Kd_2 : Hid (KwC w2 xd (D)) := Lib.hid (FwC.known g2)
      clear b2 f2 g2
      obtain ⟨aa, ca, rfl, hca1, hca2, -⟩ := Ka_2.out
      obtain ⟨ab, cb, rfl, hcb1, hcb2, hAb⟩ := Kb_2.out
      obtain ⟨ac, cc, rfl, hcc1, hcc2, -⟩ := Kc_2.out
      obtain ⟨w3, hw3⟩ : ∃ W, w2.alloc (.cells #[.int .i64 n2] 3) = W := ⟨_, rfl⟩
      have hb3 : Below w2.heap.size w2 w3 := by rw [← hw3]; exact (Below.refl _ _).alloc (Nat.le_refl _) _
      have hc3 : w3.cell? ⟨w2.heap.size, 0, none⟩ = some (.int .i64 n2) := by rw [← hw3]; exact boxV w2 _ _
      obtain ⟨w4, hw4⟩ : ∃ W, w3.alloc (.cells #[.slice aa A.length ca, .slice ab B.length cb] 22) = W := ⟨_, rfl⟩
      have hb4 : Below w3.heap.size w3 w4 := by rw [← hw4]; exact (Below.refl _ _).alloc (Nat.le_refl _) _
      have hq4 : w4.cell? ⟨w3.heap.size, 0, none⟩ = some (.slice aa A.length ca) ∧ w4.cell? ⟨w3.heap.size, 1, none⟩ = some (.slice ab B.length cb) := by rw [← hw4]; exact box2W w3 _ _ _
      have hz3 : w3.heap.size = w2.heap.size + 1 := by rw [← hw3]; simp
      rw [hz3] at hq4
      have hb := hb3.trans (hb4.mono hb3.size)
      have Y4 := Lib.hid (cell_laterW hb4 hc3)
      have Kl_4 := Lib.hid (KwC.below Kl_2.out hb)
      have Ka_4 := Lib.hid (KwC.below Ka_2.out hb)
      have Kb_4 := Lib.hid (KwC.below Kb_2.out hb)
      have Kc_4 := Lib.hid (KwC.below Kc_2.out hb)
      have Kd_4 := Lib.hid (KwC.below Kd_2.out hb)
      have HB4 := Lib.hid (HB2.out.trans (hb.mono HB2.out.size))
      have hCC := wConcat_any (w2.heap.size + 1) _ _ A B w4 hq4.1 hq4.2 Ka_4.out Kb_4.out (by omega) (by omega)
      rw [HP1.out] at hCC
      have HCC := Lib.hid hCC
      have HW3 := Lib.hid hw3
      have HW4 := Lib.hid hw4
      clear hCC hb hb3 hc3 hb4 hq4 hw3 hw4 hAb hz3
      go_wp2_with fail
      rw [HW3.out, HW4.out]
      refine HCC.out.mono ?_
      rintro e w5 ⟨vs, rfl, f5, b5⟩
      have Y5 := Lib.hid (cell_laterW b5 Y4.out)
      have Kl_5 := Lib.hid (KwC.below Kl_4.out b5)
      have Ka_5 := Lib.hid (KwC.below Ka_4.out b5)
      have Kb_5 := Lib.hid (KwC.below Kb_4.out b5)
      have Kc_5 := Lib.hid (KwC.below Kc_4.out b5)
      have Kd_5 := Lib.hid (KwC.below Kd_4.out b5)
      have Ks_5 := Lib.hid (FwC.known f5)
      have HB5 := Lib.hid (HB4.out.trans (b5.mono HB4.out.size))
      clear b5 f5
      have HE := Lib.hid (eqW_same _ _ _ w5 Ks_5.out Kl_5.out)
      go_wp2_with fail
      refine HE.out.mono ?_
      rintro e w6 ⟨rfl, b6⟩
      have Y6 := Lib.hid (cell_laterW b6 Y5.out)
      have Ka_6 := Lib.hid (KwC.below Ka_5.out b6)
      have Kb_6 := Lib.hid (KwC.below Kb_5.out b6)
      have Kc_6 := Lib.hid (KwC.below Kc_5.out b6)
      have Kd_6 := Lib.hid (KwC.below Kd_5.out b6)
      have HB6 := Lib.hid (HB5.out.trans (b6.mono HB5.out.size))
      clear b6
      have hpk := kwPre Kc_6.out hca
      rw [HPRE.out] at hpk
      have HE2 := Lib.hid (eqW_same _ _ _ w6 hpk Ka_6.out)
      have l1 : ¬ (C.length : Int) < (A.length : Int) := by omega
      have l2 : decide ((C.length : Int) < (A.length : Int)) = false := decide_eq_false l1
      have l3 : decide (C.length < A.length) = false := decide_eq_false (by omega)
      have l4 : (A.length : Int) ≤ (cc : Int) := by omega
      have l5 : (0 : Int) ≤ (A.length : Int) := by omega
      clear hpk
      by_cases hb0 : B = []
      · subst hb0
        go_wp2_with fail
        refine HE2.out.mono ?_
        rintro e w7 ⟨rfl, b7⟩
        have Y7 := Lib.hid (cell_laterW b7 Y6.out)
        have Kd_7 := Lib.hid (KwC.below Kd_6.out b7)
        have HB7 := Lib.hid (HB6.out.trans (b7.mono HB6.out.size))
        clear b7
        have hCF := wContains_at xd 37 #[] #[.pointer (some ⟨w2.heap.size, 0, none⟩)] D (fun t => decide (0 ≤ t.2.2.1) && decide (t.2.2.1 ≤ n2)) w7 (enters_of Try.func37 (by kernel_rfl) rfl) Kd_7.out (by omega) (fair1_pred _ _ _ Y7.out)
        rw [HPS.out] at hCF
        have HCF := Lib.hid hCF
        clear hCF
        go_wp2_with fail
        refine HCF.out.mono ?_
        rintro e w8 ⟨rfl, b8⟩
        have HB8 := Lib.hid (HB7.out.trans (b8.mono HB7.out.size))
        clear b8
        have hC9 := awake_any w8
        have HC9 := Lib.hid hC9
        clear hC9
        go_wp2_with fail
        refine HC9.out.mono ?_
        rintro e w9 ⟨rfl, b9⟩
        have HB9 := Lib.hid (HB8.out.trans (b9.mono HB8.out.size))
        clear b9
        go_wp2
        go_ret
        exact ⟨rfl, HB9.out⟩
      · have hbn : 0 < B.length := List.length_pos_iff.2 hb0
        have hnb := HP2.out hb0
        obtain ⟨ab', cb', he', -, -, hAb⟩ := Kb_6.out
        cases he'
        obtain ⟨bb, ob, eb, _, hbb, q0, q1, q2, q3, q4⟩ := hAb 0 hbn
        obtain ⟨⟨x0, x1, x2, x3, x4⟩, ht⟩ : ∃ x, gw B 0 = x := ⟨_, rfl⟩
        rw [ht] at q0 q1 q2 q3 q4 hnb
        simp only [Nat.zero_mul, Nat.add_zero] at q0 q1 q2 q3 q4 hnb
        have m1 : (0 : Int) < (B.length : Int) := by omega
        have m2 : decide ((0 : Int) < (B.length : Int)) = true := decide_eq_true m1
        have m3 : decide (0 < B.length) = true := decide_eq_true hbn
        subst eb
        clear hb0 ht hAb
        by_cases d0 : 0 ≤ x2
        · have d1 : ¬ x2 ≤ n1 := fun h => hnb ⟨d0, h⟩
          have d2 : decide (x2 ≤ n1) = false := decide_eq_false d1
          have d3 : decide (0 ≤ x2) = true := decide_eq_true d0
          clear hnb
          go_wp2_with fail
          refine HE2.out.mono ?_
          rintro e w7 ⟨rfl, b7⟩
          have Y7 := Lib.hid (cell_laterW b7 Y6.out)
          have Kd_7 := Lib.hid (KwC.below Kd_6.out b7)
          have HB7 := Lib.hid (HB6.out.trans (b7.mono HB6.out.size))
          clear b7
          have hCF := wContains_at xd 37 #[] #[.pointer (some ⟨w2.heap.size, 0, none⟩)] D (fun t => decide (0 ≤ t.2.2.1) && decide (t.2.2.1 ≤ n2)) w7 (enters_of Try.func37 (by kernel_rfl) rfl) Kd_7.out (by omega) (fair1_pred _ _ _ Y7.out)
          rw [HPS.out] at hCF
          have HCF := Lib.hid hCF
          clear hCF
          go_wp2_with fail
          refine HCF.out.mono ?_
          rintro e w8 ⟨rfl, b8⟩
          have HB8 := Lib.hid (HB7.out.trans (b8.mono HB7.out.size))
          clear b8
          have hC9 := awake_any w8
          have HC9 := Lib.hid hC9
          clear hC9
          go_wp2_with fail
          refine HC9.out.mono ?_
          rintro e w9 ⟨rfl, b9⟩
          have HB9 := Lib.hid (HB8.out.trans (b9.mono HB8.out.size))
          clear b9
          go_wp2
          go_ret
          exact ⟨rfl, HB9.out⟩
        · have d3 : decide (0 ≤ x2) = false := decide_eq_false d0
          clear hnb
          go_wp2_with fail
          refine HE2.out.mono ?_
          rintro e w7 ⟨rfl, b7⟩
          have Y7 := Lib.hid (cell_laterW b7 Y6.out)
          have Kd_7 := Lib.hid (KwC.below Kd_6.out b7)
          have HB7 := Lib.hid (HB6.out.trans (b7.mono HB6.out.size))
          clear b7
          have hCF := wContains_at xd 37 #[] #[.pointer (some ⟨w2.heap.size, 0, none⟩)] D (fun t => decide (0 ≤ t.2.2.1) && decide (t.2.2.1 ≤ n2)) w7 (enters_of Try.func37 (by kernel_rfl) rfl) Kd_7.out (by omega) (fair1_pred _ _ _ Y7.out)
          rw [HPS.out] at hCF
          have HCF := Lib.hid hCF
          clear hCF
          go_wp2_with fail
          refine HCF.out.mono ?_
          rintro e w8 ⟨rfl, b8⟩
          have HB8 := Lib.hid (HB7.out.trans (b8.mono HB7.out.size))
          clear b8
          have hC9 := awake_any w8
          have HC9 := Lib.hid hC9
          clear hC9
          go_wp2_with fail
          refine HC9.out.mono ?_
          rintro e w9 ⟨rfl, b9⟩
          have HB9 := Lib.hid (HB8.out.trans (b9.mono HB8.out.size))
          clear b9
          go_wp2
          go_ret
          exact ⟨rfl, HB9.out⟩

end Go.Proofs.Ytonjempbphnimaa
