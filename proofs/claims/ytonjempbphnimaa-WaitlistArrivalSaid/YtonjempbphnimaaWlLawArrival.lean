/-
  The walk of WaitlistArrival.
-/
import Derived.Test.YtonjempbphnimaaHeldTop
import Derived.Deep.RegionHeld3
import Derived.Laws.EntriesVeiled
import Derived.Test.YtonjempbphnimaaWlAwake
import Derived.Test.YtonjempbphnimaaWlAt
import Derived.Test.YtonjempbphnimaaWlOpen
import Derived.Test.YtonjempbphnimaaWlMathP
import Derived.Test.YtonjempbphnimaaWlMathF
import Derived.Test.YtonjempbphnimaaWlPred
import Derived.Test.YtonjempbphnimaaWlCat
namespace Go.Proofs.Ytonjempbphnimaa
open Go.RowKit Go.Shelf

/-- What stays as it is while a round of WaitlistArrival joins. -/
abbrev ArS (v : Value) (Q : List Wl) (w w' : World) : Prop := KwC w' v Q ∧ Below w.heap.size w w' ∧ w.heap.size ≤ w'.heap.size
theorem ars_keep {v : Value} {Q : List Wl} {w w' w'' : World} (h : ArS v Q w w') (hb : Below w'.heap.size w' w'') : ArS v Q w w'' := by
  have hs := hb.size
  exact ⟨h.1.below hb, h.2.1.trans (hb.mono h.2.2), Nat.le_trans h.2.2 hs⟩
theorem ars_drew {v : Value} {Q : List Wl} {w w' : World} (h : ArS v Q w w') : ArS v Q w w'.drew := ars_keep h ⟨rfl, rfl, rfl, Nat.le_refl _, fun _ _ => rfl⟩
theorem ars_alloc {v : Value} {Q : List Wl} {w w' : World} {o : Obj} (h : ArS v Q w w') : ArS v Q w (w'.alloc o) := ars_keep h ((Below.refl _ _).alloc (Nat.le_refl _) _)
theorem ars_below {v : Value} {Q : List Wl} {w w' : World} (h : ArS v Q w w') : Below w.heap.size w w' := h.2.1
theorem ar_cat {aq ao : Option Addr} {cq c2 k : Nat} {Q : List Wl} {W2 w' : World} (h : ArS (.slice aq Q.length cq) Q W2 (w'.drew.alloc (.cells #[.slice aq k cq, .slice ao (Q.length - (k + 1)) c2] 22))) (hk : Hid (k + 1 ≤ Q.length)) (hl : Hid (Q.length ≤ 13)) (hr : Hid (KwC W2 (.slice ao (Q.length - (k + 1)) c2) (Q.drop (k + 1)))) :
    Calls Try.prog 27 #[.slice (some ⟨w'.heap.size, 0, none⟩) 2 2] (w'.drew.alloc (.cells #[.slice aq k cq, .slice ao (Q.length - (k + 1)) c2] 22)) fun e w'' => ∃ r, e = .returned r ∧ KwC w'' r (Q.take k ++ Q.drop (k + 1)) ∧ Below (w'.drew.alloc (.cells #[.slice aq k cq, .slice ao (Q.length - (k + 1)) c2] 22)).heap.size (w'.drew.alloc (.cells #[.slice aq k cq, .slice ao (Q.length - (k + 1)) c2] 22)) w'' := by
  have hc : (w'.drew.alloc (.cells #[.slice aq k cq, .slice ao (Q.length - (k + 1)) c2] 22)).cell? ⟨w'.heap.size, 0, none⟩ = some (.slice aq k cq) ∧ (w'.drew.alloc (.cells #[.slice aq k cq, .slice ao (Q.length - (k + 1)) c2] 22)).cell? ⟨w'.heap.size, 1, none⟩ = some (.slice ao (Q.length - (k + 1)) c2) := box2W w'.drew _ _ _
  refine (wConcat_any w'.heap.size _ _ (Q.take k) (Q.drop (k + 1)) _ hc.1 hc.2 (kwPre h.1 (by have := hk.out; omega)) (hr.out.below h.2.1) ?_ ?_).mono ?_
  · have := hl.out; rw [List.length_take]; omega
  · have := hl.out; rw [List.length_drop]; omega
  · rintro e w'' ⟨r, rfl, h1, h2⟩
    exact ⟨r, rfl, h1.known, h2⟩

set_option maxRecDepth 100000 in
set_option maxHeartbeats 8000000 in
theorem waitlistArrival_walk (kd : Int) (v : Value) (ts : List Wl) (a b c d f : Int) (w : World) (hK : KwC w v ts) :
    Calls Try.prog 5 #[.int .i64 kd, v, .agg #[.int .i64 a, .int .i64 b, .int .i64 c, .int .i64 d, .int .i64 f]] w fun e w' => e = .returned (.bool true) ∧ Below w.heap.size w w' := by
  obtain ⟨w0, hw0⟩ : ∃ W, w.alloc (.cells #[.int .i64 a, .int .i64 b, .int .i64 c, .int .i64 d, .int .i64 f] TW) = W := ⟨_, rfl⟩
  have hb0 : Below w.heap.size w w0 := by rw [← hw0]; exact (Below.refl _ w).alloc (Nat.le_refl _) _
  have hx0 : At5 w0 w.heap.size 0 (a, b, c, d, f) := by rw [← hw0]; exact box5 w a b c d f
  have HB0 := Lib.hid hb0
  have X0 := Lib.hid hx0
  have K1 := Lib.hid (KwC.below hK hb0)
  have HW0 := Lib.hid hw0
  have hG := great_atW v ts w0 K1.out
  clear hK hb0 hx0 hw0
  by_cases hg : 12 < ts.length
  · rw [decide_eq_true hg] at hG
    have HG := Lib.hid hG
    clear hG hg
    go_enter Try.func5, Try.ntmps5
    go_wp2_with fail
    rw [HW0.out]
    refine HG.out.mono ?_
    rintro e wg ⟨rfl, rfl⟩
    have hC1 := awake_any w0
    have HC1 := Lib.hid hC1
    clear hC1
    go_wp2_with fail
    refine HC1.out.mono ?_
    rintro e w1 ⟨rfl, b1⟩
    have HB1 := Lib.hid (HB0.out.trans (b1.mono HB0.out.size))
    clear b1
    go_wp2
    go_ret
    exact ⟨rfl, HB1.out⟩
  · rw [decide_eq_false hg] at hG
    have HG := Lib.hid hG
    have hl : ts.length ≤ 12 := by omega
    clear hG hg
    by_cases he : pshE kd ts (a, b, c, d, f) = 0
    · obtain ⟨n, hn, hq, g1, g2, g3, g4⟩ := arr_at he
      have hkind := (wchE_iff.1 (psh_ok he).1).1
      have hql := insW_length ts n (a, b, c, d, f) hn
      obtain ⟨Q, hQ⟩ : ∃ Q, insW ts n (a, b, c, d, f) = Q := ⟨_, rfl⟩
      rw [hQ] at hq g1 g2 g3 hql
      have hq13 : Q.length ≤ 13 := by omega
      have hnq : n < Q.length := by omega
      have HQE := Lib.hid hql
      clear hql
      have HE := Lib.hid he
      have HQ := Lib.hid hq
      have HG1 := Lib.hid g1
      have HG2 := Lib.hid g2
      have HG3 := Lib.hid g3
      have HG4 := Lib.hid g4
      have HKD := Lib.hid hkind
      clear he hq hQ g1 g2 g3 g4 hkind
      go_enter Try.func5, Try.ntmps5
      go_wp2_with fail
      rw [HW0.out]
      refine HG.out.mono ?_
      rintro e wg ⟨rfl, rfl⟩
      have hC1 := wPush_any v kd ts a b c d f w0 K1.out
      rw [HE.out, HQ.out] at hC1
      have HC1 := Lib.hid hC1
      clear hC1
      obtain ⟨xt0, xt1, xt2, xt3, xt4⟩ := X0.out
      simp only [Nat.zero_add] at xt0 xt1 xt2 xt3 xt4
      go_wp2_with fail
      refine HC1.out.mono ?_
      rintro e w1 ⟨v1, rfl, f1, b1⟩
      clear xt0 xt1 xt2 xt3 xt4
      have HB1 := Lib.hid (HB0.out.trans (b1.mono HB0.out.size))
      have Kl_1 := Lib.hid (KwC.below K1.out b1)
      have Xt_1 := Lib.hid (At5.below X0.out b1)
      have Kq_1 : Hid (KwC w1 v1 (Q)) := Lib.hid (FwC.known f1)
      clear b1 f1
      obtain ⟨ad, cap, rfl, hcap, hcap2, -⟩ := Kl_1.out
      obtain ⟨aq, cq, rfl, hcq, hcq2, -⟩ := Kq_1.out
      have hli : (ts.length : Int) ≤ 12 := by omega
      have hl0 : (0 : Int) ≤ (ts.length : Int) := by omega
      have hw1 : IntKind.i64.wrap ((ts.length : Int) + 1) = (ts.length : Int) + 1 := IntWalk.i64_in _ (by omega)
      have hbn : ((Q.length : Int) != (ts.length : Int) + 1) = false := by rw [HQE.out]; simp
      have HQL : Hid (Q.length ≤ 13) := Lib.hid (by omega)
      go_wp2
      go_loopw [9, 40] (fun f x wr => ∃ (k : Nat) (fb : Bool), k ≤ Q.length ∧ x = .int .i64 k ∧ f = .bool fb ∧ Hid (n < k → fb = true) ∧ Hid (Below w1.heap.size w1 wr)) (fun _ x _ => Q.length - (intOf x).toNat)
      case atStart => exact ⟨0, false, Nat.zero_le _, rfl, rfl, Lib.hid (fun h => by omega), Lib.hid (Below.refl _ _)⟩
      case round =>
        obtain ⟨k, fb, hk, rfl, rfl, HN, HB⟩ := hrel
        have Klr := Lib.hid (KwC.below Kl_1.out HB.out)
        have Kqr := Lib.hid (KwC.below Kq_1.out HB.out)
        have Xtr := Lib.hid (At5.below Xt_1.out HB.out)
        have HBr := Lib.hid (HB1.out.trans (HB.out.mono HB1.out.size))
        by_cases hkt : k < Q.length
        · have k1 : (k : Int) < (Q.length : Int) := by omega
          have k0 : (0 : Int) ≤ (k : Int) := by omega
          obtain ⟨aq', cq', he', -, -, hAr⟩ := Kqr.out
          cases he'
          obtain ⟨bk, off, e0, _, hbk, c0, c1, c2, c3, c4⟩ := hAr k hkt
          have hkey : n = k → gw Q k = (a, b, c, d, f) ∧ decide (Q.take k ++ Q.drop (k + 1) = ts) = true ∧ ((Q.drop (k + 1)).any fun s => s.2.2.2.1 == d) = false ∧ (kd = 2 ∨ k = ts.length) := by
            rintro rfl
            exact ⟨HG1.out, decide_eq_true HG2.out, HG3.out, HG4.out⟩
          obtain ⟨⟨x0, x1, x2, x3, x4⟩, ht⟩ : ∃ x, gw Q k = x := ⟨_, rfl⟩
          rw [ht] at c0 c1 c2 c3 c4 hkey
          simp only [] at c0 c1 c2 c3 c4
          obtain ⟨W2, hW2⟩ : ∃ W, wr.alloc (.cells #[.int .i64 x0, .int .i64 x1, .int .i64 x2, .int .i64 x3, .int .i64 x4] TW) = W := ⟨_, rfl⟩
          have hb2 : Below wr.heap.size wr W2 := by rw [← hW2]; exact (Below.refl _ wr).alloc (Nat.le_refl _) _
          have hx2 : At5 W2 wr.heap.size 0 (x0, x1, x2, x3, x4) := by rw [← hW2]; exact box5 wr x0 x1 x2 x3 x4
          have Kl2 := Lib.hid (KwC.below Klr.out hb2)
          have Kq2 := Lib.hid (KwC.below Kqr.out hb2)
          have Xt2 := Lib.hid (At5.below Xtr.out hb2)
          have HB2 := Lib.hid (HB.out.trans (hb2.mono HB.out.size))
          have HW2 := Lib.hid hW2
          have Xx2 := Lib.hid hx2
          obtain ⟨ao, cz, hAR, hc21, hc22, hrun⟩ := restW _ (k + 1) aq cq Q W2 (hAr.below hb2) hcq (by omega)
          have hrun : ∀ w, (Instr.slice 22 (.slice aq Q.length cq) (some (.int .i64 ((k : Int) + 1))) none none).run Try.prog w = .ok (.slice ao (Q.length - (k + 1)) cz) w := hrun
          have HR2 : Hid (KwC W2 (.slice ao (Q.length - (k + 1)) cz) (Q.drop (k + 1))) := Lib.hid ⟨ao, cz, by rw [List.length_drop], by rw [List.length_drop]; omega, by omega, hAR⟩
          have HRUN := Lib.hid hrun
          have HKEY := Lib.hid hkey
          have HK1 : Hid (k + 1 ≤ Q.length) := Lib.hid hkt
          have HS2 : Hid (ArS (.slice aq Q.length cq) Q W2 W2) := Lib.hid ⟨Kq2.out, Below.refl _ _, Nat.le_refl _⟩
          have hw2 : IntKind.i64.wrap ((k : Int) + 1) = (k : Int) + 1 := IntWalk.i64_in _ (by omega)
          have i1 : (k : Int) ≤ (cq : Int) := by omega
          have i2 : k ≤ cq := by omega
          have HAQ := Lib.hid e0
          clear hb2 hx2 hW2 hAr hAR hkey ht hrun
          subst e0
          go_wp2_with fail
          rw [HW2.out]
          have hrun := HRUN.out
          go_wp2_with fail
          refine wp_region_held (S := fun w' => ArS (.slice (some ⟨bk, off, none⟩) Q.length cq) Q W2 w') (by kernel_rfl) ?_
          change wpAnyH _ _ _ _ _ _ _ _ W2.drew
          have HSD := Lib.hid (ars_drew HS2.out)
          refine wpAnyH_read (i := 0) (v := .slice (some ⟨bk, off, none⟩) Q.length cq) rfl (by kernel_rfl) (by kernel_rfl) (by kernel_rfl) (fun _ _ _ h => h) (by rfl) ?_ HSD.out ?_
          · intro _ _; rfl
          simp only [Act.put, List.setIfInBounds_toArray, List.set_cons_zero, List.set_cons_succ]
          refine wpAnyH_read (i := 1) (v := .int .i64 (k : Int)) rfl (by kernel_rfl) (by kernel_rfl) (by kernel_rfl) (fun _ _ _ h => h) (by rfl) ?_ HSD.out ?_
          · intro _ _; rfl
          simp only [Act.put, List.setIfInBounds_toArray, List.set_cons_zero, List.set_cons_succ]
          refine wpAnyH_read (i := 2) (v := .slice (some ⟨bk, off, none⟩) k cq) rfl (by kernel_rfl) (by kernel_rfl) (by kernel_rfl) (fun _ _ _ h => h) (by rfl) ?_ HSD.out ?_
          · intro _ _; go_simp
          simp only [Act.put, List.setIfInBounds_toArray, List.set_cons_zero, List.set_cons_succ]
          refine wpAnyH_read (i := 3) (v := .slice (some ⟨bk, off, none⟩) Q.length cq) rfl (by kernel_rfl) (by kernel_rfl) (by kernel_rfl) (fun _ _ _ h => h) (by rfl) ?_ HSD.out ?_
          · intro _ _; rfl
          simp only [Act.put, List.setIfInBounds_toArray, List.set_cons_zero, List.set_cons_succ]
          refine wpAnyH_read (i := 4) (v := .int .i64 (k : Int)) rfl (by kernel_rfl) (by kernel_rfl) (by kernel_rfl) (fun _ _ _ h => h) (by rfl) ?_ HSD.out ?_
          · intro _ _; rfl
          simp only [Act.put, List.setIfInBounds_toArray, List.set_cons_zero, List.set_cons_succ]
          refine wpAnyH_read (i := 5) (v := .int .i64 ((k : Int) + 1)) rfl (by kernel_rfl) (by kernel_rfl) (by kernel_rfl) (fun _ _ _ h => h) (by rfl) ?_ HSD.out ?_
          · intro _ _; go_simp
          simp only [Act.put, List.setIfInBounds_toArray, List.set_cons_zero, List.set_cons_succ]
          refine wpAnyH_read (i := 6) (v := .slice ao (Q.length - (k + 1)) cz) rfl (by kernel_rfl) (by kernel_rfl) (by kernel_rfl) (fun _ _ _ h => h) (by rfl) ?_ HSD.out ?_
          · intro _ _; go_simp
          simp only [Act.put, List.setIfInBounds_toArray, List.set_cons_zero, List.set_cons_succ]
          refine wpAnyH_next (i := 7) rfl (by kernel_rfl) ?_
          go_wp2_with fail
          have hs7 := ars_alloc (o := .cells #[.slice (some ⟨bk, off, none⟩) k cq, .slice ao (Q.length - (k + 1)) cz] 22) HSD.out
          refine ⟨hs7, ?_⟩
          refine wpAnyH_next (i := 8) rfl (by kernel_rfl) ?_
          go_wp2_with fail
          refine (ar_cat hs7 HK1 HQL HR2).mono ?_
          rintro e w5 ⟨r5, rfl, k5, b5⟩
          have hs8 := ars_keep hs7 b5
          go_wp2_with fail
          refine ⟨hs8, ?_⟩
          refine wpAnyH_next (i := 9) rfl (by kernel_rfl) ?_
          go_wp2_with fail
          refine ⟨hs8, ?_⟩
          refine wpAnyH_done (by kernel_rfl) ?_ _
          have hb5 : Below W2.heap.size W2 w5 := ars_below hs8
          have Kl5 := Lib.hid (KwC.below Kl2.out hb5)
          have Ks5 := Lib.hid k5
          have Kr5 := Lib.hid (KwC.below HR2.out hb5)
          have Xt5 := Lib.hid (At5.below Xt2.out hb5)
          have Xx5 := Lib.hid (At5.below Xx2.out hb5)
          have HB5 := Lib.hid (HB2.out.trans (hb5.mono HB2.out.size))
          have hCF := wContains_at _ 29 #[] #[.pointer (some ⟨w.heap.size, 0, none⟩)] _ (fun t => t.2.2.2.1 == d) w5 (enters_of Try.func29 (by kernel_rfl) rfl) Kr5.out (by rw [List.length_drop]; omega) (arr1_pred _ _ _ (by have := Xt5.out.2.2.2.1; simpa using this))
          obtain ⟨LB, hLB⟩ : ∃ b, ((Q.drop (k + 1)).any fun t => t.2.2.2.1 == d) = b := ⟨_, rfl⟩
          rw [hLB] at hCF HKEY
          have HCF := Lib.hid hCF
          clear hLB hCF k5 b5 hb5
          go_wp2_with fail
          refine HCF.out.mono ?_
          rintro e w6 ⟨rfl, b6⟩
          have Kl6 := Lib.hid (KwC.below Kl5.out b6)
          have Ks6 := Lib.hid (KwC.below Ks5.out b6)
          have Xt6 := Lib.hid (At5.below Xt5.out b6)
          have Xx6 := Lib.hid (At5.below Xx5.out b6)
          have HB6 := Lib.hid (HB5.out.trans (b6.mono HB5.out.size))
          have HEQ := eqW_at _ _ _ _ w6 Ks6.out Kl6.out
          obtain ⟨EB, hEB⟩ : ∃ b, decide (Q.take k ++ Q.drop (k + 1) = ts) = b := ⟨_, rfl⟩
          rw [hEB] at HEQ HKEY
          have HEQ := Lib.hid HEQ
          have heql := run_eqW x0 x1 x2 x3 x4 a b c d f
          have HKD' := HKD.out
          clear b6 hEB hrun c0 c1 c2 c3 c4
          obtain ⟨p0, p1, p2, p3, p4⟩ := Xt6.out
          obtain ⟨s0, s1, s2, s3, s4⟩ := Xx6.out
          simp only [Nat.zero_add] at p0 p1 p2 p3 p4 s0 s1 s2 s3 s4
          cases fb with
          | true =>
            have HNX : Hid (n < k + 1 → true = true) := Lib.hid (fun _ => rfl)
            clear heql
            go_wp2
            go_roundw
            case rel => exact ⟨k + 1, _, by omega, by go_num, rfl, by first | exact HNX | exact Lib.hid (fun _ => rfl), HB6⟩
            case measure => simp [intOf]; omega
          | false =>
            by_cases hxy : (x0, x1, x2, x3, x4) = (a, b, c, d, f)
            · rw [decide_eq_true hxy] at heql
              clear hxy
              cases EB with
              | false =>
                have HNX : Hid (n < k + 1 → false = true) := Lib.hid (fun h => by
                  by_cases e : n < k
                  · exact HN.out e
                  · have := (HKEY.out (by omega)).2.1
                    cases this)
                go_wp2_with fail
                refine HEQ.out.mono ?_
                rintro e w7 ⟨rfl, b7⟩
                have HB7 := Lib.hid (HB6.out.trans (b7.mono HB6.out.size))
                clear b7
                go_wp2
                go_roundw
                case rel => exact ⟨k + 1, _, by omega, by go_num, rfl, by first | exact HNX | exact Lib.hid (fun _ => rfl), HB7⟩
                case measure => simp [intOf]; omega
              | true =>
                cases LB with
                | true =>
                  have HNX : Hid (n < k + 1 → false = true) := Lib.hid (fun h => by
                    by_cases e : n < k
                    · exact HN.out e
                    · have := (HKEY.out (by omega)).2.2.1
                      cases this)
                  go_wp2_with fail
                  refine HEQ.out.mono ?_
                  rintro e w7 ⟨rfl, b7⟩
                  have HB7 := Lib.hid (HB6.out.trans (b7.mono HB6.out.size))
                  clear b7
                  go_wp2
                  go_roundw
                  case rel => exact ⟨k + 1, _, by omega, by go_num, rfl, by first | exact HNX | exact Lib.hid (fun _ => rfl), HB7⟩
                  case measure => simp [intOf]; omega
                | false =>
                  by_cases hk2 : kd = 2
                  · have d2 : (kd == 2) = true := by simp [hk2]
                    have HNX : Hid (n < k + 1 → true = true) := Lib.hid (fun _ => rfl)
                    clear hk2 HKD'
                    go_wp2_with fail
                    refine HEQ.out.mono ?_
                    rintro e w7 ⟨rfl, b7⟩
                    have HB7 := Lib.hid (HB6.out.trans (b7.mono HB6.out.size))
                    clear b7
                    go_wp2
                    go_roundw
                    case rel => exact ⟨k + 1, _, by omega, by go_num, rfl, by first | exact HNX | exact Lib.hid (fun _ => rfl), HB7⟩
                    case measure => simp [intOf]; omega
                  · have d2 : (kd == 2) = false := by simp [hk2]
                    obtain ⟨DB, hDB⟩ : ∃ b, ((k : Int) == (ts.length : Int)) = b := ⟨_, rfl⟩
                    have HNX : Hid (n < k + 1 → DB = true) := Lib.hid (fun h => by
                      by_cases e : n < k
                      · have := HN.out e
                        cases this
                      · rcases (HKEY.out (by omega)).2.2.2 with h2 | h2
                        · exact absurd h2 hk2
                        · rw [← hDB, h2]; simp)
                    clear hk2 HKD'
                    go_wp2_with fail
                    refine HEQ.out.mono ?_
                    rintro e w7 ⟨rfl, b7⟩
                    have HB7 := Lib.hid (HB6.out.trans (b7.mono HB6.out.size))
                    clear b7
                    go_wp2
                    go_roundw
                    case rel => exact ⟨k + 1, _, by omega, by go_num, rfl, by first | exact HNX | exact Lib.hid (fun _ => rfl), HB7⟩
                    case measure => simp [intOf]; omega
            · rw [decide_eq_false hxy] at heql
              have HNX : Hid (n < k + 1 → false = true) := Lib.hid (fun h => by
                by_cases e : n < k
                · exact HN.out e
                · exact absurd (HKEY.out (by omega)).1 hxy)
              clear hxy
              go_wp2
              go_roundw
              case rel => exact ⟨k + 1, _, by omega, by go_num, rfl, by first | exact HNX | exact Lib.hid (fun _ => rfl), HB6⟩
              case measure => simp [intOf]; omega
        · obtain rfl : k = Q.length := by omega
          have hfb : fb = true := HN.out hnq
          subst hfb
          have hC8 := awake_any wr
          have HC8 := Lib.hid hC8
          clear hC8
          go_wp2_with fail
          refine HC8.out.mono ?_
          rintro e w8 ⟨rfl, b8⟩
          have HB8 := Lib.hid (HBr.out.trans (b8.mono HBr.out.size))
          clear b8
          go_wp2
          go_ret
          exact ⟨rfl, HB8.out⟩
    · have hr : pshQ kd ts (a, b, c, d, f) = [] := by unfold pshQ; rw [if_neg he]
      obtain ⟨E, hE⟩ : ∃ E, pshE kd ts (a, b, c, d, f) = E := ⟨_, rfl⟩
      rw [hE] at he
      have hne : (E != 0) = true := by simpa using he
      have HE := Lib.hid hE
      have HQ := Lib.hid hr
      clear he hr hE
      go_enter Try.func5, Try.ntmps5
      go_wp2_with fail
      rw [HW0.out]
      refine HG.out.mono ?_
      rintro e wg ⟨rfl, rfl⟩
      have hC1 := wPush_any v kd ts a b c d f w0 K1.out
      rw [HE.out, HQ.out] at hC1
      have HC1 := Lib.hid hC1
      clear hC1
      obtain ⟨xt0, xt1, xt2, xt3, xt4⟩ := X0.out
      simp only [Nat.zero_add] at xt0 xt1 xt2 xt3 xt4
      go_wp2_with fail
      refine HC1.out.mono ?_
      rintro e w1 ⟨v1, rfl, f1, b1⟩
      clear xt0 xt1 xt2 xt3 xt4
      have HB1 := Lib.hid (HB0.out.trans (b1.mono HB0.out.size))
      have Kl_1 := Lib.hid (KwC.below K1.out b1)
      have Xt_1 := Lib.hid (At5.below X0.out b1)
      have Kq_1 : Hid (KwC w1 v1 ([])) := Lib.hid (FwC.known f1)
      clear b1 f1
      obtain ⟨aq, cq, rfl, -, -, -⟩ := Kq_1.out
      rw [List.length_nil]
      have hC2 := awake_any w1
      have HC2 := Lib.hid hC2
      clear hC2
      go_wp2_with fail
      refine HC2.out.mono ?_
      rintro e w2 ⟨rfl, b2⟩
      have HB2 := Lib.hid (HB1.out.trans (b2.mono HB1.out.size))
      clear b2
      go_wp2
      go_ret
      exact ⟨rfl, HB2.out⟩

end Go.Proofs.Ytonjempbphnimaa
