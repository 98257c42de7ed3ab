/-
  The walk of TimersLast.
-/
import Derived.Test.YtcmcgcogahkamaaTmKeyEq
import Derived.Test.YtcmcgcogahkamaaTmOpen
import Derived.Test.YtcmcgcogahkamaaTmMath
namespace Go.Proofs.Ytcmcgcogahkamaa
open Go.RowKit Go.Shelf

set_option maxRecDepth 100000 in
set_option maxHeartbeats 4000000 in
theorem timersLast_walk (v : Value) (ts : List Tm) (w : World) (hK : KtC w v ts) :
    Calls Try.prog 5 #[v] w fun e w' => e = .returned (.bool true) ∧ Below w.heap.size w w' := by
  have HB0 : Hid (Below w.heap.size w w) := Lib.hid (Below.refl _ w)
  obtain ⟨ad, cap, rfl, hcap, hcapm, hA⟩ := hK
  have HA := Lib.hid hA
  have K1 : Hid (KtC w (.slice ad ts.length cap) ts) := Lib.hid ⟨ad, cap, rfl, hcap, hcapm, hA⟩
  clear hA
  by_cases hg : 30 < ts.length
  · have hgi : (30 : Int) < (ts.length : Int) := by omega
    go_enter Try.func5, Try.ntmps5
    have hC1 := awake_any w
    have HC1 := Lib.hid hC1
    clear hC1
    go_wp2_with fail
    refine HC1.out.mono ?_
    rintro e w1 ⟨rfl, b1⟩
    have HB1 := Lib.hid (HB0.out.trans (b1.mono HB0.out.size))
    clear b1
    go_wp2
    go_ret
    exact ⟨rfl, HB1.out⟩
  · have hgi : ¬ ((30 : Int) < (ts.length : Int)) := by omega
    have hl : ts.length ≤ 30 := by omega
    cases hB : addsB ts
    · have HBf := Lib.hid hB
      clear hB
      go_enter Try.func5, Try.ntmps5
      have hC1 := added_any _ ts w K1.out (by omega)
      rw [HBf.out] at hC1
      have HC1 := Lib.hid hC1
      clear hC1
      go_wp2_with fail
      refine HC1.out.mono ?_
      rintro e w1 ⟨v1, rfl, f1, b1⟩
      have HB1 := Lib.hid (HB0.out.trans (b1.mono HB0.out.size))
      have Kl_1 := Lib.hid (KtC.below K1.out b1)
      clear b1 f1
      have hC2 := awake_any w1
      have HC2 := Lib.hid hC2
      clear hC2
      go_wp2_with fail
      refine HC2.out.mono ?_
      rintro e w2 ⟨rfl, b2⟩
      have HB2 := Lib.hid (HB1.out.trans (b2.mono HB1.out.size))
      clear b2
      go_wp2
      go_ret
      exact ⟨rfl, HB2.out⟩
    · obtain ⟨a1, a2, a3⟩ := adds_last hB
      have hcq := chkE_iff.2 a1
      have hli := fun (k : Nat) h1 h2 => last_in (k := k) hB h1 h2
      have hQl := a3.length_eq
      have HBt := Lib.hid hB
      obtain ⟨Q, hQ⟩ : ∃ Q, addsL ts = Q := ⟨_, rfl⟩
      rw [hQ] at hcq hli hQl
      have HQ := Lib.hid hQ
      have HCQ := Lib.hid hcq
      have HLI := Lib.hid hli
      have HQL := Lib.hid hQl
      have hQ30 : Q.length ≤ 30 := by
        have : ∀ l : List Tm, (lastL l).length ≤ l.length := by
          intro l
          induction l with
          | nil => exact Nat.le_refl _
          | cons t r ih =>
            rw [show lastL (t :: r) = if hasK r t.2.1 t.2.2 = true then lastL r else t :: lastL r from rfl]
            split <;> simp <;> omega
        have := this ts
        omega
      clear hB a1 a2 a3 hcq hli hQ hQl
      go_enter Try.func5, Try.ntmps5
      have hC1 := added_any _ ts w K1.out (by omega)
      rw [HBt.out, HQ.out] at hC1
      have HC1 := Lib.hid hC1
      clear hC1
      go_wp2_with fail
      refine HC1.out.mono ?_
      rintro e w1 ⟨v1, rfl, f1, b1⟩
      have HB1 := Lib.hid (HB0.out.trans (b1.mono HB0.out.size))
      have Kl_1 := Lib.hid (KtC.below K1.out b1)
      have Kq_1 : Hid (KtC w1 v1 (Q)) := Lib.hid (FtC.known f1)
      clear b1 f1
      obtain ⟨aq, cq, rfl, hcq, hdq, -⟩ := Kq_1.out
      have HBS := HB1
      have KQ := Kq_1
      go_wp2
      go_loopw [5, 23] (fun s x wr => ∃ (k C : Nat), k ≤ ts.length ∧ x = .int .i64 k ∧ s = .int .i64 C ∧ Hid (C + (lastL (ts.drop k)).length = Q.length) ∧ Hid (Below w.heap.size w wr) ∧ Hid (KtC wr (.slice aq Q.length cq) Q)) (fun _ x _ => ts.length - (intOf x).toNat)
      case atStart => exact ⟨0, 0, Nat.zero_le _, rfl, rfl, Lib.hid (by rw [HQL.out, List.drop_zero, Nat.zero_add]), HBS, KQ⟩
      case round =>
        obtain ⟨k, C, hk, rfl, rfl, HI, HB, HKQ⟩ := hrel
        have C30 : C ≤ 30 := by have := HI.out; omega
        have C31 : (C : Int) ≤ 30 := by omega
        have C32 : (0 : Int) ≤ (C : Int) := by omega
        by_cases hkt : k < ts.length
        · have k1 : (k : Int) < (ts.length : Int) := by omega
          have k0 : (0 : Int) ≤ (k : Int) := by omega
          have hAr := HA.out.below HB.out
          have hst := last_step hkt
          have hli := HLI.out k hkt
          obtain ⟨bk, off, rfl, _, hbk, c0, c1, c2⟩ := hAr k hkt
          obtain ⟨⟨a, b, c⟩, ht⟩ : ∃ t, gt ts k = t := ⟨_, rfl⟩
          rw [ht] at c0 c1 c2 hst hli
          simp only [] at c0 c1 c2 hst hli
          obtain ⟨W2, hW2⟩ : ∃ W, wr.alloc (.cells #[.int .i64 a, .int .i64 b, .int .i64 c] TT) = W := ⟨_, rfl⟩
          have hb2 : Below wr.heap.size wr W2 := by rw [← hW2]; exact (Below.refl _ wr).alloc (Nat.le_refl _) _
          have hx2 : W2.cell? ⟨wr.heap.size, 0, none⟩ = some (.int .i64 a) ∧ W2.cell? ⟨wr.heap.size, 1, none⟩ = some (.int .i64 b) ∧ W2.cell? ⟨wr.heap.size, 2, none⟩ = some (.int .i64 c) := by rw [← hW2]; exact box3 wr a b c
          obtain ⟨ao, co, hAo, hc1, hc2, hrun⟩ := restT _ (k + 1) _ cap ts W2 (hAr.below hb2) hcap hkt
          have hrun' : ∀ V, (Instr.slice 22 (.slice (some ⟨bk, off, none⟩) ts.length cap) (some (.int .i64 ((k : Int) + 1))) none none).run Try.prog V = .ok (.slice ao (ts.length - (k + 1)) co) V := fun V => by have := hrun V; rwa [Int.natCast_succ] at this
          have HAo := Lib.hid hAo
          have HW2 := Lib.hid hW2
          have X0 := Lib.hid hx2
          have KQ0 := Lib.hid (KtC.below HKQ.out hb2)
          have HB2 := Lib.hid (HB.out.trans (hb2.mono HB.out.size))
          have HST := Lib.hid hst
          have HLI2 := Lib.hid hli
          have HP := Lib.hid (last1_pred wr.heap.size a b c W2 hx2)
          have kc1 : (k : Int) + 1 ≤ (ts.length : Int) := by omega
          have kc2 : (k : Int) + 1 ≤ (cap : Int) := by omega
          clear hAr hbk ht hst hli hb2 hx2 hW2 hAo hrun
          cases hH : hasK (ts.drop (k + 1)) b c
          · have HH := Lib.hid hH
            clear hH
            have hC21 := tContainsF_any _ 28 #[] #[.pointer (some ⟨wr.heap.size, 0, none⟩)] ao co (ts.drop (k + 1)) (fun t => keyB t b c) W2 (enters_of Try.func28 (by kernel_rfl) rfl) HAo.out (by rw [List.length_drop]; omega) HP.out
            rw [List.length_drop, show ((ts.drop (k + 1)).any fun t => keyB t b c) = hasK (ts.drop (k + 1)) b c from rfl, HH.out] at hC21
            have HC21 := Lib.hid hC21
            clear hC21
            obtain ⟨xt0, xt1, xt2⟩ := X0.out
            go_wp2_with fail
            rw [HW2.out]
            refine HC21.out.mono ?_
            rintro e w21 ⟨rfl, b21⟩
            clear xt0 xt1 xt2
            have HB21 := Lib.hid (HB2.out.trans (b21.mono HB2.out.size))
            have Kq_21 := Lib.hid (KtC.below KQ0.out b21)
            have Xt_21 := Lib.hid (keep3 X0.out b21)
            clear b21
            obtain ⟨aq2, cq2, hq2, -, -, hAq⟩ := Kq_21.out
            cases hq2
            have hC22 := tContains_any _ aq cq Q a b c w21 hAq (by omega)
            unfold tmA encT at hC22
            dsimp only at hC22
            rw [HLI2.out HH.out] at hC22
            have HC22 := Lib.hid hC22
            clear hC22
            obtain ⟨xt0, xt1, xt2⟩ := Xt_21.out
            go_wp2_with fail
            refine HC22.out.mono ?_
            rintro e w22 ⟨rfl, b22⟩
            clear xt0 xt1 xt2
            have HB22 := Lib.hid (HB21.out.trans (b22.mono HB21.out.size))
            have Kq_22 := Lib.hid (KtC.below Kq_21.out b22)
            have Xt_22 := Lib.hid (keep3 Xt_21.out b22)
            clear b22 hAq
            go_wp2
            go_roundw
            case rel => exact ⟨k + 1, C + 1, by omega, by go_num, by go_num, Lib.hid (by have h1 := HI.out; rw [HST.out, if_neg (by rw [HH.out]; simp), List.length_cons] at h1; omega), HB22, Kq_22⟩
            case measure => simp [intOf]; omega
          · have HH := Lib.hid hH
            clear hH
            have hC21 := tContainsF_any _ 28 #[] #[.pointer (some ⟨wr.heap.size, 0, none⟩)] ao co (ts.drop (k + 1)) (fun t => keyB t b c) W2 (enters_of Try.func28 (by kernel_rfl) rfl) HAo.out (by rw [List.length_drop]; omega) HP.out
            rw [List.length_drop, show ((ts.drop (k + 1)).any fun t => keyB t b c) = hasK (ts.drop (k + 1)) b c from rfl, HH.out] at hC21
            have HC21 := Lib.hid hC21
            clear hC21
            obtain ⟨xt0, xt1, xt2⟩ := X0.out
            go_wp2_with fail
            rw [HW2.out]
            refine HC21.out.mono ?_
            rintro e w21 ⟨rfl, b21⟩
            clear xt0 xt1 xt2
            have HB21 := Lib.hid (HB2.out.trans (b21.mono HB2.out.size))
            have Kq_21 := Lib.hid (KtC.below KQ0.out b21)
            have Xt_21 := Lib.hid (keep3 X0.out b21)
            clear b21
            obtain ⟨xt0, xt1, xt2⟩ := Xt_21.out
            go_wp2
            go_roundw
            case rel => exact ⟨k + 1, C, by omega, by go_num, rfl, Lib.hid (by have h1 := HI.out; rw [HST.out, if_pos HH.out] at h1; omega), HB21, Kq_21⟩
            case measure => simp [intOf]; omega
        · obtain rfl : k = ts.length := by omega
          have hCQ : C = Q.length := by
            have := HI.out
            rw [List.drop_length] at this
            exact this
          subst hCQ
          have hC41 := tCheck_at _ Q wr HKQ.out (by omega)
          rw [HCQ.out] at hC41
          have HC41 := Lib.hid hC41
          clear hC41
          go_wp2_with fail
          refine HC41.out.mono ?_
          rintro e w41 ⟨rfl, b41⟩
          have HB41 := Lib.hid (HB.out.trans (b41.mono HB.out.size))
          have Kq_41 := Lib.hid (KtC.below HKQ.out b41)
          clear b41
          have hC42 := awake_any w41
          have HC42 := Lib.hid hC42
          clear hC42
          go_wp2_with fail
          refine HC42.out.mono ?_
          rintro e w42 ⟨rfl, b42⟩
          have HB42 := Lib.hid (HB41.out.trans (b42.mono HB41.out.size))
          clear b42
          go_wp2
          go_ret
          exact ⟨rfl, HB42.out⟩

end Go.Proofs.Ytcmcgcogahkamaa
