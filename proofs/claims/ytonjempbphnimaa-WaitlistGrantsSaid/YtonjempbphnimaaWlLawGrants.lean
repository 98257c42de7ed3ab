/-
  The walk of WaitlistGrants.
-/
import Derived.Deep.QuietTactic
import Derived.Test.YtonjempbphnimaaWlAwake
import Derived.Test.YtonjempbphnimaaWlGrant
import Derived.Test.YtonjempbphnimaaWlAt
import Derived.Test.YtonjempbphnimaaWlOpen
import Derived.Test.YtonjempbphnimaaWlMathA
import Derived.Test.YtonjempbphnimaaWlPred
namespace Go.Proofs.Ytonjempbphnimaa
open Go.RowKit Go.Shelf

set_option maxRecDepth 100000 in
set_option maxHeartbeats 8000000 in
theorem waitlistGrants_walk (v : Value) (ts : List Wl) (u : Int) (skip : Bool) (w : World) (hK : KwC w v ts) (hu : -9223372036854775808 ≤ u ∧ u ≤ 9223372036854775807) :
    Calls Try.prog 8 #[v, .int .i64 u, .bool skip] w fun e w' => e = .returned (.bool true) ∧ Below w.heap.size w w' := by
  have HB0 : Hid (Below w.heap.size w w) := Lib.hid (Below.refl _ w)
  have K1 := Lib.hid hK
  have HU := Lib.hid hu
  have hG := great_atW v ts w hK
  clear hK hu
  by_cases hg : 12 < ts.length
  · rw [decide_eq_true hg] at hG
    have HG := Lib.hid hG
    clear hG hg
    go_enter Try.func8, Try.ntmps8
    go_wp2_with fail
    refine HG.out.mono ?_
    rintro e wg ⟨rfl, rfl⟩
    have hC1 := awake_any w
    have HC1 := Lib.hid hC1
    clear hC1
    go_wp2_with fail
    refine HC1.out.mono ?_
    rintro e w1 ⟨rfl, b1⟩
    have HB1 := Lib.hid (HB0.out.trans (b1.mono HB0.out.size))
    clear b1
    go_wp2
    go_ret
    exact ⟨rfl, HB1.out⟩
  · rw [decide_eq_false hg] at hG
    have HG := Lib.hid hG
    have hl : ts.length ≤ 12 := by omega
    have hS := small_any v ts u w K1.out (by omega)
    clear hG hg
    cases hs : smallW ts u with
    | false =>
      rw [hs] at hS
      have HS := Lib.hid hS
      clear hS hs
      go_enter Try.func8, Try.ntmps8
      go_wp2_with fail
      refine HG.out.mono ?_
      rintro e wg ⟨rfl, rfl⟩
      go_wp2_with fail
      refine HS.out.mono ?_
      rintro e ws ⟨rfl, bs⟩
      have HBs := Lib.hid bs
      clear bs
      have hC1 := awake_any ws
      have HC1 := Lib.hid hC1
      clear hC1
      go_wp2_with fail
      refine HC1.out.mono ?_
      rintro e w1 ⟨rfl, b1⟩
      have HB1 := Lib.hid (HBs.out.trans (b1.mono HBs.out.size))
      clear b1
      go_wp2
      go_ret
      exact ⟨rfl, HB1.out⟩
    | true =>
      rw [hs] at hS
      have HS := Lib.hid hS
      have hub : -1099511627776 ≤ u ∧ u ≤ 1099511627776 := bigI_no.1 (by unfold smallW at hs; cases h : bigI u with | false => rfl | true => rw [h] at hs; cases hs)
      have hvb : ∀ t ∈ ts, -1099511627776 ≤ t.2.2.1 ∧ t.2.2.1 ≤ 1099511627776 := fun t ht => bigI_no.1 (by
        unfold smallW at hs
        cases h : bigI t.2.2.1 with
        | false => rfl
        | true => rw [show (ts.any fun t => bigI t.2.2.1) = true from List.any_eq_true.2 ⟨t, ht, h⟩] at hs; simp at hs)
      have hgb : ∀ t ∈ grG skip u ts, -1099511627776 ≤ t.2.2.1 ∧ t.2.2.1 ≤ 1099511627776 := fun t ht => hvb t (grG_sub skip u ts t ht)
      have hgl : (grG skip u ts).length ≤ ts.length := grS_len1 skip u ts
      have hol : (grO skip u ts).length ≤ ts.length := grS_len2 skip u ts
      have hsum : grN skip u ts + sumV (grG skip u ts) = u := grS_sum skip u ts
      have hneg : (u < 0) ∨ 0 ≤ grN skip u ts := by
        by_cases h : u < 0
        · exact .inl h
        · exact .inr ((grS_left skip u ts).2 (by omega)).1
      have HVB := Lib.hid hvb
      have HGB := Lib.hid hgb
      have HLF := Lib.hid (fun k => grS_left skip u (ts.take k))
      have HCAN := Lib.hid (fun k (h : k < ts.length) (hc : canR skip u ts k = true) => gr_can h hc)
      have HCANNOT := Lib.hid (fun k (h : k < ts.length) (hc : canR skip u ts k = false) => gr_cannot h hc)
      have HF1 : Hid ((grS skip u (ts.take ts.length)).1.length = (grG skip u ts).length) := Lib.hid (by rw [List.take_length]; rfl)
      have HF2 : Hid ((grS skip u (ts.take ts.length)).2.1.length = (grO skip u ts).length) := Lib.hid (by rw [List.take_length]; rfl)
      have hgr := wGrant_any v ts u skip
      clear hS hs hvb hgb
      obtain ⟨GG, hGG⟩ : ∃ x, grG skip u ts = x := ⟨_, rfl⟩
      obtain ⟨GO, hGO⟩ : ∃ x, grO skip u ts = x := ⟨_, rfl⟩
      obtain ⟨GN, hGN⟩ : ∃ x, grN skip u ts = x := ⟨_, rfl⟩
      rw [hGG] at hgl hsum HGB HCAN HF1
      rw [hGO] at hol HCANNOT HF2
      rw [hGN] at hsum hneg
      rw [hGG, hGO, hGN] at hgr
      have HGR := Lib.hid hgr
      clear hgr hGG hGO hGN
      go_enter Try.func8, Try.ntmps8
      go_wp2_with fail
      refine HG.out.mono ?_
      rintro e wg ⟨rfl, rfl⟩
      go_wp2_with fail
      refine HS.out.mono ?_
      rintro e ws ⟨rfl, bs⟩
      have HBs := Lib.hid bs
      have Kls := Lib.hid (KwC.below K1.out bs)
      clear bs
      have hC1 := HGR.out ws Kls.out (by omega) HU.out
      have HC1 := Lib.hid hC1
      clear hC1
      go_wp2_with fail
      refine HC1.out.mono ?_
      rintro e w1 ⟨x1, y1, rfl, f1, g1, b1⟩
      have HB1 := Lib.hid (HBs.out.trans (b1.mono HBs.out.size))
      have Kl_1 := Lib.hid (KwC.below Kls.out b1)
      have Ka_1 : Hid (KwC w1 x1 (GG)) := Lib.hid (FwC.known f1)
      have Kb_1 : Hid (KwC w1 y1 (GO)) := Lib.hid (FwC.known g1)
      clear b1 f1 g1
      obtain ⟨ad, cap, rfl, hcap, hcap2, -⟩ := Kl_1.out
      obtain ⟨aa, ca, rfl, hca, hca2, -⟩ := Ka_1.out
      obtain ⟨ab, cb, rfl, hcb, hcb2, -⟩ := Kb_1.out
      have hgi : (GG.length : Int) ≤ 12 := by omega
      have hoi : (GO.length : Int) ≤ 12 := by omega
      go_wp2
      go_loopw [10, 11, 12, 36] (fun p q r x wr => ∃ m : Nat, m ≤ ts.length ∧ x = .int .i64 m ∧ p = .int .i64 ((grS skip u (ts.take m)).1.length : Nat) ∧ q = .int .i64 ((grS skip u (ts.take m)).2.1.length : Nat) ∧ r = .int .i64 (grS skip u (ts.take m)).2.2.2 ∧ Hid (Below w1.heap.size w1 wr)) (fun _ _ _ x _ => ts.length - (intOf x).toNat)
      case atStart => exact ⟨0, Nat.zero_le _, rfl, by simp [grS], by simp [grS], by simp [grS], Lib.hid (Below.refl _ _)⟩
      case round =>
        obtain ⟨m, hm, rfl, rfl, rfl, rfl, HB⟩ := hrel
        have Klm := Lib.hid (KwC.below Kl_1.out HB.out)
        have Kam := Lib.hid (KwC.below Ka_1.out HB.out)
        have Kbm := Lib.hid (KwC.below Kb_1.out HB.out)
        have HBm := Lib.hid (HB1.out.trans (HB.out.mono HB1.out.size))
        by_cases hmt : m < ts.length
        · have k1 : (m : Int) < (ts.length : Int) := by omega
          have k0 : (0 : Int) ≤ (m : Int) := by omega
          obtain ⟨ad', cap', he', -, -, hAr⟩ := Klm.out
          cases he'
          obtain ⟨bk, off, e0, _, hbk, c0, c1, c2, c3, c4⟩ := hAr m hmt
          have hvb := HVB.out (gw ts m) (gw_mem hmt)
          have hlf := HLF.out m
          have hcan := HCAN.out m hmt
          have hcannot := HCANNOT.out m hmt
          obtain ⟨⟨x0, x1, x2, x3, x4⟩, ht⟩ : ∃ x, gw ts m = x := ⟨_, rfl⟩
          rw [ht] at c0 c1 c2 c3 c4 hvb hcan hcannot
          simp only [] at c0 c1 c2 c3 c4 hvb hcan hcannot
          have hdc : canR skip u ts m = (decide (0 ≤ x2) && (decide (x2 ≤ (grS skip u (ts.take m)).2.2.2) && (skip || decide ((grS skip u (ts.take m)).2.1.length = 0)))) := by unfold canR; rw [ht]
          obtain ⟨I, hI⟩ : ∃ n, (grS skip u (ts.take m)).1.length = n := ⟨_, rfl⟩
          obtain ⟨J, hJ⟩ : ∃ n, (grS skip u (ts.take m)).2.1.length = n := ⟨_, rfl⟩
          obtain ⟨R, hR⟩ : ∃ n, (grS skip u (ts.take m)).2.2.2 = n := ⟨_, rfl⟩
          rw [hI, hJ, hR] at hcan hcannot
          rw [hJ, hR] at hdc
          rw [hR] at hlf
          rw [hI, hJ, hR]
          have hRb : -1099511627776 ≤ R ∧ R ≤ 1099511627776 := by
            by_cases h : u < 0
            · rw [hlf.1 h]; omega
            · have := hlf.2 (by omega); omega
          obtain ⟨W2, hW2⟩ : ∃ W, wr.alloc (.cells #[.int .i64 x0, .int .i64 x1, .int .i64 x2, .int .i64 x3, .int .i64 x4] TW) = W := ⟨_, rfl⟩
          have hb2 : Below wr.heap.size wr W2 := by rw [← hW2]; exact (Below.refl _ wr).alloc (Nat.le_refl _) _
          have hx2 : At5 W2 wr.heap.size 0 (x0, x1, x2, x3, x4) := by rw [← hW2]; exact box5 wr x0 x1 x2 x3 x4
          have HW2 := Lib.hid hW2
          have HX2 := Lib.hid hx2
          have HB2 := Lib.hid (HB.out.trans (hb2.mono HB.out.size))
          have Ka2 := Lib.hid (KwC.below Kam.out hb2)
          have Kb2 := Lib.hid (KwC.below Kbm.out hb2)
          have heql : ∀ W : World, (binOp .eql TW (.agg #[.int .i64 x0, .int .i64 x1, .int .i64 x2, .int .i64 x3, .int .i64 x4]) (.agg #[.int .i64 x0, .int .i64 x1, .int .i64 x2, .int .i64 x3, .int .i64 x4])).run Try.prog W = .ok (.bool true) W := fun W => by have := run_eqW x0 x1 x2 x3 x4 x0 x1 x2 x3 x4 W; simpa using this
          have HCN : Hid (∀ b, canR skip u ts m = b → canR skip u ts m = b) := Lib.hid (fun _ h => h)
          have HCA := Lib.hid hcan
          have HCO := Lib.hid hcannot
          subst e0
          clear hb2 hx2 hW2 hAr hlf ht hI hJ hR hcan hcannot hvb
          by_cases d0 : 0 ≤ x2
          · by_cases d1 : x2 ≤ R
            · by_cases d2 : skip = true ∨ J = 0
              · have hc : canR skip u ts m = true := by rw [hdc, decide_eq_true d0, decide_eq_true d1]; rcases d2 with h | h <;> simp [h]
                have d3 : skip = false → ((J : Int) == 0) = true := fun h => by
                  rcases d2 with h2 | h2
                  · rw [h] at h2; cases h2
                  · simp [h2]
                obtain ⟨z1, z2, z3, z4, z5⟩ := HCA.out hc
                have HZ3 := Lib.hid z3
                have HZ4 := Lib.hid z4
                have HZ5 := Lib.hid z5
                obtain ⟨aa', ca', he', -, -, hAa⟩ := Ka2.out
                cases he'
                obtain ⟨ba, oa, ea, _, hba, d0', d1', d2', d3', d4'⟩ := hAa I z1
                rw [z2] at d0' d1' d2' d3' d4'
                simp only [] at d0' d1' d2' d3' d4'
                have j1 : (I : Int) < (GG.length : Int) := by omega
                have j0 : (0 : Int) ≤ (I : Int) := by omega
                have j2 : decide ((I : Int) < (GG.length : Int)) = true := decide_eq_true j1
                have j3 : decide (I < GG.length) = true := decide_eq_true z1
                have j5 : IntKind.i64.wrap (R - x2) = R - x2 := IntWalk.i64_in _ (by omega)
                subst ea
                clear z2 z3 z4 z5 hAa hc hdc d2
                obtain ⟨p0, p1, p2, p3, p4⟩ := HX2.out
                simp only [Nat.zero_add] at p0 p1 p2 p3 p4
                cases skip
                · have d4 := d3 rfl
                  clear d3
                  go_wp2_with fail
                  rw [HW2.out]
                  go_wp2
                  go_quiet (fail)
                  go_wp2
                  go_roundw
                  case rel => exact ⟨m + 1, by omega, by go_num, by rw [HZ3.out]; go_num, by rw [HZ4.out], by rw [HZ5.out], Lib.hid ⟨HB2.out.os, HB2.out.tape, HB2.out.output, HB2.out.size, HB2.out.block⟩⟩
                  case measure => simp [intOf]; omega
                · clear d3
                  go_wp2_with fail
                  rw [HW2.out]
                  go_wp2
                  go_quiet (fail)
                  go_wp2
                  go_roundw
                  case rel => exact ⟨m + 1, by omega, by go_num, by rw [HZ3.out]; go_num, by rw [HZ4.out], by rw [HZ5.out], Lib.hid ⟨HB2.out.os, HB2.out.tape, HB2.out.output, HB2.out.size, HB2.out.block⟩⟩
                  case measure => simp [intOf]; omega
              · have hsk : skip = false := by cases skip; rfl; exact absurd (.inl rfl) d2
                have hJ0 : J ≠ 0 := fun h => d2 (.inr h)
                have hc : canR skip u ts m = false := by rw [hdc, hsk]; simp [hJ0]
                have d3 : ((J : Int) == 0) = false := by simp; omega
                subst hsk
                clear d2
                obtain ⟨z1, z2, z3, z4, z5⟩ := HCO.out hc
                have HZ3 := Lib.hid z3
                have HZ4 := Lib.hid z4
                have HZ5 := Lib.hid z5
                obtain ⟨ab', cb', he', -, -, hAb⟩ := Kb2.out
                cases he'
                obtain ⟨bb, ob, eb, _, hbb, d0', d1', d2', d3', d4'⟩ := hAb J z1
                rw [z2] at d0' d1' d2' d3' d4'
                simp only [] at d0' d1' d2' d3' d4'
                have j1 : (J : Int) < (GO.length : Int) := by omega
                have j0 : (0 : Int) ≤ (J : Int) := by omega
                have j2 : decide ((J : Int) < (GO.length : Int)) = true := decide_eq_true j1
                have j3 : decide (J < GO.length) = true := decide_eq_true z1
                subst eb
                clear z2 z3 z4 z5 hAb hc hdc
                obtain ⟨p0, p1, p2, p3, p4⟩ := HX2.out
                simp only [Nat.zero_add] at p0 p1 p2 p3 p4
                go_wp2_with fail
                rw [HW2.out]
                go_wp2
                go_quiet (fail)
                go_wp2
                go_quiet (fail)
                go_wp2
                go_roundw
                case rel => exact ⟨m + 1, by omega, by go_num, by rw [HZ4.out], by rw [HZ3.out]; go_num, by rw [HZ5.out], Lib.hid ⟨HB2.out.os, HB2.out.tape, HB2.out.output, HB2.out.size, HB2.out.block⟩⟩
                case measure => simp [intOf]; omega
            · have hc : canR skip u ts m = false := by rw [hdc, decide_eq_false d1]; simp
              obtain ⟨z1, z2, z3, z4, z5⟩ := HCO.out hc
              have HZ3 := Lib.hid z3
              have HZ4 := Lib.hid z4
              have HZ5 := Lib.hid z5
              obtain ⟨ab', cb', he', -, -, hAb⟩ := Kb2.out
              cases he'
              obtain ⟨bb, ob, eb, _, hbb, d0', d1', d2', d3', d4'⟩ := hAb J z1
              rw [z2] at d0' d1' d2' d3' d4'
              simp only [] at d0' d1' d2' d3' d4'
              have j1 : (J : Int) < (GO.length : Int) := by omega
              have j0 : (0 : Int) ≤ (J : Int) := by omega
              have j2 : decide ((J : Int) < (GO.length : Int)) = true := decide_eq_true j1
              have j3 : decide (J < GO.length) = true := decide_eq_true z1
              subst eb
              clear z2 z3 z4 z5 hAb hc hdc
              obtain ⟨p0, p1, p2, p3, p4⟩ := HX2.out
              simp only [Nat.zero_add] at p0 p1 p2 p3 p4
              go_wp2_with fail
              rw [HW2.out]
              go_wp2
              go_quiet (fail)
              go_wp2
              go_quiet (fail)
              go_wp2
              go_roundw
              case rel => exact ⟨m + 1, by omega, by go_num, by rw [HZ4.out], by rw [HZ3.out]; go_num, by rw [HZ5.out], Lib.hid ⟨HB2.out.os, HB2.out.tape, HB2.out.output, HB2.out.size, HB2.out.block⟩⟩
              case measure => simp [intOf]; omega
          · have hc : canR skip u ts m = false := by rw [hdc, decide_eq_false d0]; simp
            obtain ⟨z1, z2, z3, z4, z5⟩ := HCO.out hc
            have HZ3 := Lib.hid z3
            have HZ4 := Lib.hid z4
            have HZ5 := Lib.hid z5
            obtain ⟨ab', cb', he', -, -, hAb⟩ := Kb2.out
            cases he'
            obtain ⟨bb, ob, eb, _, hbb, d0', d1', d2', d3', d4'⟩ := hAb J z1
            rw [z2] at d0' d1' d2' d3' d4'
            simp only [] at d0' d1' d2' d3' d4'
            have j1 : (J : Int) < (GO.length : Int) := by omega
            have j0 : (0 : Int) ≤ (J : Int) := by omega
            have j2 : decide ((J : Int) < (GO.length : Int)) = true := decide_eq_true j1
            have j3 : decide (J < GO.length) = true := decide_eq_true z1
            subst eb
            clear z2 z3 z4 z5 hAb hc hdc
            obtain ⟨p0, p1, p2, p3, p4⟩ := HX2.out
            simp only [Nat.zero_add] at p0 p1 p2 p3 p4
            go_wp2_with fail
            rw [HW2.out]
            go_wp2
            go_quiet (fail)
            go_wp2
            go_quiet (fail)
            go_wp2
            go_roundw
            case rel => exact ⟨m + 1, by omega, by go_num, by rw [HZ4.out], by rw [HZ3.out]; go_num, by rw [HZ5.out], Lib.hid ⟨HB2.out.os, HB2.out.tape, HB2.out.output, HB2.out.size, HB2.out.block⟩⟩
            case measure => simp [intOf]; omega
        · obtain rfl : m = ts.length := by omega
          have HV := Lib.hid (values_any _ GG wr Kam.out (by omega) HGB.out)
          have q1 : IntKind.i64.wrap (GN + sumV GG) = GN + sumV GG := IntWalk.i64_in _ (by omega)
          have q2 : IntKind.i64.wrap u = u := IntWalk.i64_in _ (by omega)
          have q3 : (GN + sumV GG == u) = true := by rw [hsum]; simp
          rw [HF1.out, HF2.out]
          have hG0 : (grS skip u (ts.take ts.length)).2.2.2 = (grS skip u (ts.take ts.length)).2.2.2 := rfl
          obtain ⟨RR, hRR⟩ : ∃ r, (grS skip u (ts.take ts.length)).2.2.2 = r := ⟨_, rfl⟩
          rw [hRR]
          clear hRR hG0
          go_wp2_with fail
          refine HV.out.mono ?_
          rintro e w3 ⟨rfl, b3⟩
          have HB3 := Lib.hid (HBm.out.trans (b3.mono HBm.out.size))
          clear b3
          have n1 : u < 0 ∨ 0 ≤ GN := hneg
          rcases n1 with n1 | n1
          · have hC4 := awake_any w3
            have HC4 := Lib.hid hC4
            clear hC4
            go_wp2_with fail
            refine HC4.out.mono ?_
            rintro e w4 ⟨rfl, b4⟩
            have HB4 := Lib.hid (HB3.out.trans (b4.mono HB3.out.size))
            clear b4
            go_wp2
            go_ret
            exact ⟨rfl, HB4.out⟩
          · by_cases n2 : u < 0
            · have hC4 := awake_any w3
              have HC4 := Lib.hid hC4
              clear hC4
              go_wp2_with fail
              refine HC4.out.mono ?_
              rintro e w4 ⟨rfl, b4⟩
              have HB4 := Lib.hid (HB3.out.trans (b4.mono HB3.out.size))
              clear b4
              go_wp2
              go_ret
              exact ⟨rfl, HB4.out⟩
            · have hC4 := awake_any w3
              have HC4 := Lib.hid hC4
              clear hC4
              go_wp2_with fail
              refine HC4.out.mono ?_
              rintro e w4 ⟨rfl, b4⟩
              have HB4 := Lib.hid (HB3.out.trans (b4.mono HB3.out.size))
              clear b4
              go_wp2
              go_ret
              exact ⟨rfl, HB4.out⟩

end Go.Proofs.Ytonjempbphnimaa
