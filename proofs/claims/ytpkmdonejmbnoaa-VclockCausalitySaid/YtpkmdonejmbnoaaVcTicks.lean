/-
  The statement VclockTicks: ticks and what they do; the walk.
-/
import Derived.Test.YtpkmdonejmbnoaaVcOrd
namespace Go.Proofs.Ytpkmdonejmbnoaa
open Go.RowKit

theorem tick_ok {xs : List Int} {k : Nat} (h : vcE xs = 0) (hk : k < xs.length) (hm : gz xs k ≠ 1099511627776) : tickE xs (k : Int) = 0 ∧ tickL xs (k : Int) = xs.set k (gz xs k + 1) := by
  have e : tickE xs (k : Int) = 0 := by
    unfold tickE
    rw [if_neg (by simp [h]), inB_iff.2 ⟨by omega, by omega⟩, if_neg (by simp), Int.toNat_natCast, if_neg hm]
  exact ⟨e, by unfold tickL; rw [if_pos e, Int.toNat_natCast]⟩
theorem tick_full {xs : List Int} {k : Nat} (h : vcE xs = 0) (hk : k < xs.length) (hm : gz xs k = 1099511627776) : tickE xs (k : Int) = 14 ∧ tickL xs (k : Int) = [] := by
  have e : tickE xs (k : Int) = 14 := by
    unfold tickE
    rw [if_neg (by simp [h]), inB_iff.2 ⟨by omega, by omega⟩, if_neg (by simp), Int.toNat_natCast, if_pos hm]
  exact ⟨e, by unfold tickL; rw [if_neg (by rw [e]; decide)]⟩
theorem vcE_set {xs : List Int} {k : Nat} (h : vcE xs = 0) (hk : k < xs.length) (hm : gz xs k ≠ 1099511627776) : vcE (xs.set k (gz xs k + 1)) = 0 := by
  obtain ⟨h1, h2⟩ := vcE_iff.1 h
  refine vcE_iff.2 ⟨by rw [List.length_set]; exact h1, fun i hi => ?_⟩
  rw [List.length_set] at hi
  rw [gz_set hk]
  have := h2 i hi
  have h3 := h2 k hk
  split
  · omega
  · exact this
theorem tick_before {xs : List Int} {k : Nat} (h : vcE xs = 0) (hk : k < xs.length) (hm : gz xs k ≠ 1099511627776) : cmpK xs (xs.set k (gz xs k + 1)) = 1 := by
  have hp : Pr xs (xs.set k (gz xs k + 1)) := pairE_of h (vcE_set h hk hm) (by rw [List.length_set])
  refine (cmpK_one hp).2 ⟨leB_iff.2 (fun i hi => ?_), fun e => ?_⟩
  · rw [gz_set hk]
    split
    · rename_i e; subst e; omega
    · exact Int.le_refl _
  · have h1 : gz (xs.set k (gz xs k + 1)) k = gz xs k := by rw [← e]
    rw [gz_set hk, if_pos rfl] at h1
    omega
theorem tick_covers {xs : List Int} {k : Nat} (h : vcE xs = 0) (hk : k < xs.length) (hm : gz xs k ≠ 1099511627776) : kovB (xs.set k (gz xs k + 1)) (k : Int) (gz xs k + 1) = true ∧ kovB xs (k : Int) (gz xs k + 1) = false := by
  constructor
  · unfold kovB covB
    rw [vcE_set h hk hm, inB_iff.2 ⟨by omega, by rw [List.length_set]; omega⟩, Int.toNat_natCast, gz_set hk, if_pos rfl]
    simp
  · unfold kovB covB
    rw [inB_iff.2 ⟨by omega, by omega⟩, Int.toNat_natCast]
    simp
    intro _
    omega
/-- Two ticks. -/
theorem tick_two {xs : List Int} {p q : Nat} (h : vcE xs = 0) (hp : p < xs.length) (hq : q < xs.length) (hmp : gz xs p ≠ 1099511627776) (hmq : gz xs q ≠ 1099511627776) (hne : p ≠ q) :
    tickE (xs.set p (gz xs p + 1)) (q : Int) = 0 ∧ tickE (xs.set q (gz xs q + 1)) (p : Int) = 0 ∧ tickL (xs.set p (gz xs p + 1)) (q : Int) = tickL (xs.set q (gz xs q + 1)) (p : Int) := by
  have e1 : gz (xs.set p (gz xs p + 1)) q = gz xs q := by rw [gz_set hp, if_neg (Ne.symm hne)]
  have e2 : gz (xs.set q (gz xs q + 1)) p = gz xs p := by rw [gz_set hq, if_neg hne]
  obtain ⟨a1, a2⟩ := tick_ok (vcE_set h hp hmp) (k := q) (by rw [List.length_set]; exact hq) (by rw [e1]; exact hmq)
  obtain ⟨b1, b2⟩ := tick_ok (vcE_set h hq hmq) (k := p) (by rw [List.length_set]; exact hp) (by rw [e2]; exact hmp)
  refine ⟨a1, b1, ?_⟩
  rw [a2, b2, e1, e2, List.set_comm _ _ hne]
theorem valid1 {xs : List Int} (h : [xs].any (badK (elK [xs] 0).length) = false) : vcE xs = 0 := by
  have e : elK [xs] 0 = xs := rfl
  rw [e] at h
  simpa [badK] using h
theorem wf_u8n {a : Int} (h : (Lit.int .u8 a).wf = true) : ∃ c : Nat, a = (c : Int) ∧ c < 256 := by
  simp [Lit.wf] at h
  have e1 : IntKind.u8.min = 0 := by decide
  have e2 : IntKind.u8.max = 255 := by decide
  exact ⟨a.toNat, by omega, by omega⟩
theorem KlC.cell {b off n c : Nat} {xs : List Int} {w : World} {k : Nat} (h : KlC w (.slice (some ⟨b, off, none⟩) n c) xs) (hk : k < xs.length) : w.cell? ⟨b, off + k, none⟩ = some (.int .i64 (gz xs k)) := by
  obtain ⟨a', c', e, hI, _⟩ := h
  injection e with e1 _ _
  subst e1
  obtain ⟨b', off', e2, _, h1⟩ := hI k hk
  cases e2
  exact h1
theorem KlC.some_ {a : Option Addr} {n c : Nat} {xs : List Int} {w : World} (h : KlC w (.slice a n c) xs) (hk : 0 < xs.length) : ∃ b off, a = some ⟨b, off, none⟩ := by
  obtain ⟨a', c', e, hI, _⟩ := h
  injection e with e1 _ _
  subst e1
  obtain ⟨b', off', e2, _, _⟩ := hI 0 hk
  exact ⟨b', off', e2⟩
theorem mod_nat (a : Nat) (n : Nat) (hn : 0 < n) : (a : Int).tmod (n : Int) = ((a % n : Nat) : Int) ∧ a % n < n := ⟨by rw [Int.ofNat_tmod], Nat.mod_lt _ hn⟩

set_option maxRecDepth 100000 in
set_option maxHeartbeats 16000000 in
theorem vclockTicks_walk (u : Value) (xs : List Int) (i k : Nat) (w : World) (hu : KlC w u xs) (hi : i < 256) (hk : k < 256) :
    Calls Try.prog 7 #[u, .int .u8 (i : Int), .int .u8 (k : Int)] w fun e w' => e = .returned (.bool true) ∧ Below w.heap.size w w' := by
  have U := Lib.hid hu
  clear hu
  obtain ⟨a, c, rfl, _, _⟩ := U.out
  obtain ⟨w1, hw1⟩ : ∃ W, w.alloc (.cells #[.slice a xs.length c] TC) = W := ⟨_, rfl⟩
  have b1 : Below w.heap.size w w1 := by rw [← hw1]; exact (Below.refl _ _).alloc (Nat.le_refl _) _
  have Lr1 := klL1 w _ xs U.out
  rw [hw1] at Lr1
  have L1 := Lib.hid Lr1
  clear Lr1
  have HW1 := Lib.hid hw1
  have U1 := Lib.hid (U.out.below b1)
  have B1 := Lib.hid b1
  clear b1 hw1
  have HG := greatK_any _ _ w1 L1.out
  cases hg : [xs].any bigK with
  | true =>
    rw [hg] at HG
    clear hg
    have HG := Lib.hid HG
    go_enter Try.func7, Try.ntmps7
    go_wp2_with fail
    rw [HW1.out]
    refine HG.out.mono ?_
    rintro e w9 ⟨rfl, rfl⟩
    have c2 := awake_any w1
    have C2 := Lib.hid c2
    clear c2
    go_wp2_with fail
    refine C2.out.mono ?_
    rintro e w2 ⟨rfl, b⟩
    have B2 := Lib.hid (B1.out.trans (b.mono B1.out.size))
    clear b C2
    go_wp2
    go_ret
    exact ⟨rfl, B2.out⟩
  | false =>
    rw [hg] at HG
    clear hg
    cases hv : [xs].any (badK (elK [xs] 0).length) with
    | true =>
      have HG := Lib.hid HG
      go_enter Try.func7, Try.ntmps7
      go_wp2_with fail
      rw [HW1.out]
      refine HG.out.mono ?_
      rintro e w9 ⟨rfl, rfl⟩
      obtain ⟨w2, hw2⟩ : ∃ W, w1.alloc (.cells #[.slice a xs.length c] TC) = W := ⟨_, rfl⟩
      have b2 : Below w1.heap.size w1 w2 := by rw [← hw2]; exact (Below.refl _ _).alloc (Nat.le_refl _) _
      have Lr2 := klL1 w1 _ xs U1.out
      rw [hw2] at Lr2
      have L2 := Lib.hid Lr2
      clear Lr2
      have HW2 := Lib.hid hw2
      have U2 := Lib.hid (U1.out.below b2)
      have B2 := Lib.hid (B1.out.trans (b2.mono B1.out.size))
      clear b2 hw2
      have c3 := validK_any _ _ w2 L2.out (by simp)
      rw [hv] at c3
      have C3 := Lib.hid c3
      clear c3
      go_wp2_with fail
      rw [HW2.out]
      refine C3.out.mono ?_
      rintro e w3 ⟨rfl, b⟩
      have U3 := Lib.hid (U2.out.below b)
      have L3 := Lib.hid (L2.out.below b)
      have B3 := Lib.hid (B2.out.trans (b.mono B2.out.size))
      clear b C3
      have c4 := awake_any w3
      have C4 := Lib.hid c4
      clear c4
      go_wp2_with fail
      refine C4.out.mono ?_
      rintro e w4 ⟨rfl, b⟩
      have B4 := Lib.hid (B3.out.trans (b.mono B3.out.size))
      clear b C4
      go_wp2
      go_ret
      exact ⟨rfl, B4.out⟩
    | false =>
      have HV := Lib.hid (valid1 hv)
      have hvv := Lib.hid hv
      clear hv
      by_cases h0 : xs.length = 0
      · have h0b : ((xs.length : Int) == 0) = true := by rw [h0]; rfl
        clear h0
        have HG := Lib.hid HG
        go_enter Try.func7, Try.ntmps7
        go_wp2_with fail
        rw [HW1.out]
        refine HG.out.mono ?_
        rintro e w9 ⟨rfl, rfl⟩
        obtain ⟨w2, hw2⟩ : ∃ W, w1.alloc (.cells #[.slice a xs.length c] TC) = W := ⟨_, rfl⟩
        have b2 : Below w1.heap.size w1 w2 := by rw [← hw2]; exact (Below.refl _ _).alloc (Nat.le_refl _) _
        have Lr2 := klL1 w1 _ xs U1.out
        rw [hw2] at Lr2
        have L2 := Lib.hid Lr2
        clear Lr2
        have HW2 := Lib.hid hw2
        have U2 := Lib.hid (U1.out.below b2)
        have B2 := Lib.hid (B1.out.trans (b2.mono B1.out.size))
        clear b2 hw2
        have c3 := validK_any _ _ w2 L2.out (by simp)
        rw [hvv.out] at c3
        have C3 := Lib.hid c3
        clear c3
        go_wp2_with fail
        rw [HW2.out]
        refine C3.out.mono ?_
        rintro e w3 ⟨rfl, b⟩
        have U3 := Lib.hid (U2.out.below b)
        have L3 := Lib.hid (L2.out.below b)
        have B3 := Lib.hid (B2.out.trans (b.mono B2.out.size))
        clear b C3
        have c4 := awake_any w3
        have C4 := Lib.hid c4
        clear c4
        go_wp2_with fail
        refine C4.out.mono ?_
        rintro e w4 ⟨rfl, b⟩
        have B4 := Lib.hid (B3.out.trans (b.mono B3.out.size))
        clear b C4
        go_wp2
        go_ret
        exact ⟨rfl, B4.out⟩
      · have h0b : ((xs.length : Int) == 0) = false := by rw [beq_eq_false_iff_ne]; omega
        have hl32 : xs.length ≤ 32 := (vcE_iff.1 HV.out).1
        obtain ⟨p1, p2⟩ := mod_nat i xs.length (by omega)
        obtain ⟨q1, q2⟩ := mod_nat k xs.length (by omega)
        generalize i % xs.length = p at p1 p2
        generalize k % xs.length = q at q1 q2
        have h0c : ¬ (xs.length : Int) = 0 := by omega
        have HG := Lib.hid HG
        go_enter Try.func7, Try.ntmps7
        go_wp2_with fail
        rw [HW1.out]
        refine HG.out.mono ?_
        rintro e w9 ⟨rfl, rfl⟩
        obtain ⟨w2, hw2⟩ : ∃ W, w1.alloc (.cells #[.slice a xs.length c] TC) = W := ⟨_, rfl⟩
        have b2 : Below w1.heap.size w1 w2 := by rw [← hw2]; exact (Below.refl _ _).alloc (Nat.le_refl _) _
        have Lr2 := klL1 w1 _ xs U1.out
        rw [hw2] at Lr2
        have L2 := Lib.hid Lr2
        clear Lr2
        have HW2 := Lib.hid hw2
        have U2 := Lib.hid (U1.out.below b2)
        have B2 := Lib.hid (B1.out.trans (b2.mono B1.out.size))
        clear b2 hw2
        have c3 := validK_any _ _ w2 L2.out (by simp)
        rw [hvv.out] at c3
        have C3 := Lib.hid c3
        clear c3
        go_wp2_with fail
        rw [HW2.out]
        refine C3.out.mono ?_
        rintro e w3 ⟨rfl, b⟩
        have U3 := Lib.hid (U2.out.below b)
        have L3 := Lib.hid (L2.out.below b)
        have B3 := Lib.hid (B2.out.trans (b.mono B2.out.size))
        clear b C3
        clear h0
        have wi : IntKind.i64.wrap (i : Int) = (i : Int) := IntWalk.i64_in _ (by omega)
        have wk : IntKind.i64.wrap (k : Int) = (k : Int) := IntWalk.i64_in _ (by omega)
        have wp' : IntKind.i64.wrap (p : Int) = (p : Int) := IntWalk.i64_in _ (by omega)
        have wq' : IntKind.i64.wrap (q : Int) = (q : Int) := IntWalk.i64_in _ (by omega)
        go_wp2_with fail
        go_quiet (fail)
        have U4 := Lib.hid (KlC.drewN nq U3.out)
        have B4 := Lib.hid (below_drewZ (n := nq) B3.out)
        obtain ⟨wd, hwd⟩ : ∃ x, w3.drewN nq = x := ⟨_, rfl⟩
        rw [hwd] at U4 B4 ⊢
        clear hwd
        clear wi wk wp' wq' p1 q1 h0c h0b
        by_cases mp : gz xs p = 1099511627776
        · by_cases mq : gz xs q = 1099511627776
          · obtain ⟨ep1, ep2⟩ := tick_full HV.out p2 mp
            have Ep1 := Lib.hid ep1
            have Ep2 := Lib.hid ep2
            clear ep1 ep2
            obtain ⟨eq1, eq2⟩ := tick_full HV.out q2 mq
            have Eq1 := Lib.hid eq1
            have Eq2 := Lib.hid eq2
            clear eq1 eq2
            have c5 := vTick_at _ xs (p : Int) wd U4.out
            rw [Ep1.out, Ep2.out] at c5
            have C5 := Lib.hid c5
            clear c5
            go_wp2_with fail
            refine C5.out.mono ?_
            rintro e w5 ⟨v1, rfl, k1, b⟩
            have U5 := Lib.hid (U4.out.below b)
            have B5 := Lib.hid (B4.out.trans (b.mono B4.out.size))
            have A5 := Lib.hid k1
            clear k1
            clear b C5
            have c6 := vTick_at _ xs (q : Int) w5 U5.out
            rw [Eq1.out, Eq2.out] at c6
            have C6 := Lib.hid c6
            clear c6
            go_wp2_with fail
            refine C6.out.mono ?_
            rintro e w6 ⟨v2, rfl, k2, b⟩
            have U6 := Lib.hid (U5.out.below b)
            have A6 := Lib.hid (A5.out.below b)
            have B6 := Lib.hid (B5.out.trans (b.mono B5.out.size))
            have D6 := Lib.hid k2
            clear k2
            clear b C6
            have c7 := awake_any w6
            have C7 := Lib.hid c7
            clear c7
            go_wp2_with fail
            refine C7.out.mono ?_
            rintro e w7 ⟨rfl, b⟩
            have B7 := Lib.hid (B6.out.trans (b.mono B6.out.size))
            clear b C7
            go_wp2
            go_ret
            exact ⟨rfl, B7.out⟩
          · obtain ⟨ep1, ep2⟩ := tick_full HV.out p2 mp
            have Ep1 := Lib.hid ep1
            have Ep2 := Lib.hid ep2
            clear ep1 ep2
            obtain ⟨eq1, eq2⟩ := tick_ok HV.out q2 mq
            have Eq1 := Lib.hid eq1
            have Eq2 := Lib.hid eq2
            clear eq1 eq2
            have c5 := vTick_at _ xs (p : Int) wd U4.out
            rw [Ep1.out, Ep2.out] at c5
            have C5 := Lib.hid c5
            clear c5
            go_wp2_with fail
            refine C5.out.mono ?_
            rintro e w5 ⟨v1, rfl, k1, b⟩
            have U5 := Lib.hid (U4.out.below b)
            have B5 := Lib.hid (B4.out.trans (b.mono B4.out.size))
            have A5 := Lib.hid k1
            clear k1
            clear b C5
            have c6 := vTick_at _ xs (q : Int) w5 U5.out
            rw [Eq1.out, Eq2.out] at c6
            have C6 := Lib.hid c6
            clear c6
            go_wp2_with fail
            refine C6.out.mono ?_
            rintro e w6 ⟨v2, rfl, k2, b⟩
            have U6 := Lib.hid (U5.out.below b)
            have A6 := Lib.hid (A5.out.below b)
            have B6 := Lib.hid (B5.out.trans (b.mono B5.out.size))
            have D6 := Lib.hid k2
            clear k2
            clear b C6
            have c7 := awake_any w6
            have C7 := Lib.hid c7
            clear c7
            go_wp2_with fail
            refine C7.out.mono ?_
            rintro e w7 ⟨rfl, b⟩
            have B7 := Lib.hid (B6.out.trans (b.mono B6.out.size))
            clear b C7
            go_wp2
            go_ret
            exact ⟨rfl, B7.out⟩
        · by_cases mq : gz xs q = 1099511627776
          · obtain ⟨ep1, ep2⟩ := tick_ok HV.out p2 mp
            have Ep1 := Lib.hid ep1
            have Ep2 := Lib.hid ep2
            clear ep1 ep2
            obtain ⟨eq1, eq2⟩ := tick_full HV.out q2 mq
            have Eq1 := Lib.hid eq1
            have Eq2 := Lib.hid eq2
            clear eq1 eq2
            have c5 := vTick_at _ xs (p : Int) wd U4.out
            rw [Ep1.out, Ep2.out] at c5
            have C5 := Lib.hid c5
            clear c5
            go_wp2_with fail
            refine C5.out.mono ?_
            rintro e w5 ⟨v1, rfl, k1, b⟩
            have U5 := Lib.hid (U4.out.below b)
            have B5 := Lib.hid (B4.out.trans (b.mono B4.out.size))
            have A5 := Lib.hid k1
            clear k1
            clear b C5
            have c6 := vTick_at _ xs (q : Int) w5 U5.out
            rw [Eq1.out, Eq2.out] at c6
            have C6 := Lib.hid c6
            clear c6
            go_wp2_with fail
            refine C6.out.mono ?_
            rintro e w6 ⟨v2, rfl, k2, b⟩
            have U6 := Lib.hid (U5.out.below b)
            have A6 := Lib.hid (A5.out.below b)
            have B6 := Lib.hid (B5.out.trans (b.mono B5.out.size))
            have D6 := Lib.hid k2
            clear k2
            clear b C6
            have c7 := awake_any w6
            have C7 := Lib.hid c7
            clear c7
            go_wp2_with fail
            refine C7.out.mono ?_
            rintro e w7 ⟨rfl, b⟩
            have B7 := Lib.hid (B6.out.trans (b.mono B6.out.size))
            clear b C7
            go_wp2
            go_ret
            exact ⟨rfl, B7.out⟩
          · by_cases hne : p = q
            · subst hne
              by_cases hfull : gz (xs.set p (gz xs p + 1)) p = 1099511627776
              · obtain ⟨ep1, ep2⟩ := tick_ok HV.out p2 mp
                have Ep1 := Lib.hid ep1
                have Ep2 := Lib.hid ep2
                clear ep1 ep2
                obtain ⟨eq1, eq2⟩ := tick_ok HV.out q2 mq
                have Eq1 := Lib.hid eq1
                have Eq2 := Lib.hid eq2
                clear eq1 eq2
                obtain ⟨M, hM⟩ : ∃ x, tickL (xs.set p (gz xs p + 1)) (p : Int) = x := ⟨_, rfl⟩
                have T3 := Lib.hid hM
                have T4 := Lib.hid hM
                clear hM
                have t1 := (tick_full (vcE_set HV.out p2 mp) (k := p) (by rw [List.length_set]; exact p2) hfull).1
                have T1 := Lib.hid t1
                have T2 := Lib.hid t1
                clear t1 hfull
                have TB := Lib.hid (tick_before HV.out p2 mp)
                obtain ⟨tc1, tc2⟩ := tick_covers HV.out p2 mp
                have TC1 := Lib.hid tc1
                have TC2 := Lib.hid tc2
                clear tc1 tc2
                obtain ⟨b9, o9, rfl⟩ := KlC.some_ U4.out (by omega)
                have hzz := (vcE_iff.1 HV.out).2 p p2
                obtain ⟨z, hz⟩ : ∃ z, gz xs p = z := ⟨_, rfl⟩
                have HZ := Lib.hid hz
                rw [hz] at hzz
                have wz : IntKind.i64.wrap (z + 1) = z + 1 := IntWalk.i64_in _ (by omega)
                clear hz hzz mp mq
                have pI : (p : Int) < (xs.length : Int) := by omega
                have c5 := vTick_at _ xs (p : Int) wd U4.out
                rw [Ep1.out, Ep2.out] at c5
                have C5 := Lib.hid c5
                clear c5
                go_wp2_with fail
                refine C5.out.mono ?_
                rintro e w5 ⟨v1, rfl, k1, b⟩
                have U5 := Lib.hid (U4.out.below b)
                have B5 := Lib.hid (B4.out.trans (b.mono B4.out.size))
                have A5 := Lib.hid k1
                clear k1
                clear b C5
                have c6 := vTick_at _ xs (p : Int) w5 U5.out
                rw [Ep1.out, Ep2.out] at c6
                have C6 := Lib.hid c6
                clear c6
                go_wp2_with fail
                refine C6.out.mono ?_
                rintro e w6 ⟨v2, rfl, k2, b⟩
                have U6 := Lib.hid (U5.out.below b)
                have A6 := Lib.hid (A5.out.below b)
                have B6 := Lib.hid (B5.out.trans (b.mono B5.out.size))
                have D6 := Lib.hid k2
                clear k2
                clear b C6
                have c7 := vTick_at _ _ (p : Int) w6 A6.out
                rw [T1.out, T3.out] at c7
                have C7 := Lib.hid c7
                clear c7
                go_wp2_with fail
                refine C7.out.mono ?_
                rintro e w7 ⟨v3, rfl, k3, b⟩
                have U7 := Lib.hid (U6.out.below b)
                have A7 := Lib.hid (A6.out.below b)
                have D7 := Lib.hid (D6.out.below b)
                have B7 := Lib.hid (B6.out.trans (b.mono B6.out.size))
                have X7 := Lib.hid k3
                clear k3
                clear b C7
                have c8 := vTick_at _ _ (p : Int) w7 D7.out
                rw [T2.out, T4.out] at c8
                have C8 := Lib.hid c8
                clear c8
                go_wp2_with fail
                refine C8.out.mono ?_
                rintro e w8 ⟨v4, rfl, k4, b⟩
                have U8 := Lib.hid (U7.out.below b)
                have A8 := Lib.hid (A7.out.below b)
                have D8 := Lib.hid (D7.out.below b)
                have X8 := Lib.hid (X7.out.below b)
                have B8 := Lib.hid (B7.out.trans (b.mono B7.out.size))
                have Y8 := Lib.hid k4
                clear k4
                clear b C8
                have c9 := vCompare_at _ _ _ _ w8 U8.out A8.out
                rw [TB.out] at c9
                have C9 := Lib.hid c9
                clear c9
                go_wp2_with fail
                refine C9.out.mono ?_
                rintro e w9 ⟨rfl, rfl⟩
                clear C9
                have cz := KlC.cell U8.out p2
                rw [HZ.out] at cz
                have c10 := vCovers_at _ _ (p : Int) (gz xs p + 1) w8 A8.out
                rw [TC1.out, HZ.out] at c10
                have C10 := Lib.hid c10
                clear c10
                go_wp2_with fail
                refine C10.out.mono ?_
                rintro e w10 ⟨rfl, rfl⟩
                clear C10
                have c11 := vCovers_at _ _ (p : Int) (gz xs p + 1) w8 U8.out
                rw [TC2.out, HZ.out] at c11
                have C11 := Lib.hid c11
                clear c11
                go_wp2_with fail
                refine C11.out.mono ?_
                rintro e w11 ⟨rfl, rfl⟩
                clear C11
                clear cz
                have c12 := awake_any w8
                have C12 := Lib.hid c12
                clear c12
                go_wp2_with fail
                refine C12.out.mono ?_
                rintro e w12 ⟨rfl, b⟩
                have B12 := Lib.hid (B8.out.trans (b.mono B8.out.size))
                clear b C12
                go_wp2
                go_ret
                exact ⟨rfl, B12.out⟩
              · obtain ⟨ep1, ep2⟩ := tick_ok HV.out p2 mp
                have Ep1 := Lib.hid ep1
                have Ep2 := Lib.hid ep2
                clear ep1 ep2
                obtain ⟨eq1, eq2⟩ := tick_ok HV.out q2 mq
                have Eq1 := Lib.hid eq1
                have Eq2 := Lib.hid eq2
                clear eq1 eq2
                obtain ⟨M, hM⟩ : ∃ x, tickL (xs.set p (gz xs p + 1)) (p : Int) = x := ⟨_, rfl⟩
                have T3 := Lib.hid hM
                have T4 := Lib.hid hM
                clear hM
                have t1 := (tick_ok (vcE_set HV.out p2 mp) (k := p) (by rw [List.length_set]; exact p2) hfull).1
                have T1 := Lib.hid t1
                have T2 := Lib.hid t1
                clear t1 hfull
                have TB := Lib.hid (tick_before HV.out p2 mp)
                obtain ⟨tc1, tc2⟩ := tick_covers HV.out p2 mp
                have TC1 := Lib.hid tc1
                have TC2 := Lib.hid tc2
                clear tc1 tc2
                obtain ⟨b9, o9, rfl⟩ := KlC.some_ U4.out (by omega)
                have hzz := (vcE_iff.1 HV.out).2 p p2
                obtain ⟨z, hz⟩ : ∃ z, gz xs p = z := ⟨_, rfl⟩
                have HZ := Lib.hid hz
                rw [hz] at hzz
                have wz : IntKind.i64.wrap (z + 1) = z + 1 := IntWalk.i64_in _ (by omega)
                clear hz hzz mp mq
                have pI : (p : Int) < (xs.length : Int) := by omega
                have c5 := vTick_at _ xs (p : Int) wd U4.out
                rw [Ep1.out, Ep2.out] at c5
                have C5 := Lib.hid c5
                clear c5
                go_wp2_with fail
                refine C5.out.mono ?_
                rintro e w5 ⟨v1, rfl, k1, b⟩
                have U5 := Lib.hid (U4.out.below b)
                have B5 := Lib.hid (B4.out.trans (b.mono B4.out.size))
                have A5 := Lib.hid k1
                clear k1
                clear b C5
                have c6 := vTick_at _ xs (p : Int) w5 U5.out
                rw [Ep1.out, Ep2.out] at c6
                have C6 := Lib.hid c6
                clear c6
                go_wp2_with fail
                refine C6.out.mono ?_
                rintro e w6 ⟨v2, rfl, k2, b⟩
                have U6 := Lib.hid (U5.out.below b)
                have A6 := Lib.hid (A5.out.below b)
                have B6 := Lib.hid (B5.out.trans (b.mono B5.out.size))
                have D6 := Lib.hid k2
                clear k2
                clear b C6
                have c7 := vTick_at _ _ (p : Int) w6 A6.out
                rw [T1.out, T3.out] at c7
                have C7 := Lib.hid c7
                clear c7
                go_wp2_with fail
                refine C7.out.mono ?_
                rintro e w7 ⟨v3, rfl, k3, b⟩
                have U7 := Lib.hid (U6.out.below b)
                have A7 := Lib.hid (A6.out.below b)
                have D7 := Lib.hid (D6.out.below b)
                have B7 := Lib.hid (B6.out.trans (b.mono B6.out.size))
                have X7 := Lib.hid k3
                clear k3
                clear b C7
                have c8 := vTick_at _ _ (p : Int) w7 D7.out
                rw [T2.out, T4.out] at c8
                have C8 := Lib.hid c8
                clear c8
                go_wp2_with fail
                refine C8.out.mono ?_
                rintro e w8 ⟨v4, rfl, k4, b⟩
                have U8 := Lib.hid (U7.out.below b)
                have A8 := Lib.hid (A7.out.below b)
                have D8 := Lib.hid (D7.out.below b)
                have X8 := Lib.hid (X7.out.below b)
                have B8 := Lib.hid (B7.out.trans (b.mono B7.out.size))
                have Y8 := Lib.hid k4
                clear k4
                clear b C8
                have c9 := vCompare_at _ _ _ _ w8 U8.out A8.out
                rw [TB.out] at c9
                have C9 := Lib.hid c9
                clear c9
                go_wp2_with fail
                refine C9.out.mono ?_
                rintro e w9 ⟨rfl, rfl⟩
                clear C9
                have cz := KlC.cell U8.out p2
                rw [HZ.out] at cz
                have c10 := vCovers_at _ _ (p : Int) (gz xs p + 1) w8 A8.out
                rw [TC1.out, HZ.out] at c10
                have C10 := Lib.hid c10
                clear c10
                go_wp2_with fail
                refine C10.out.mono ?_
                rintro e w10 ⟨rfl, rfl⟩
                clear C10
                have c11 := vCovers_at _ _ (p : Int) (gz xs p + 1) w8 U8.out
                rw [TC2.out, HZ.out] at c11
                have C11 := Lib.hid c11
                clear c11
                go_wp2_with fail
                refine C11.out.mono ?_
                rintro e w11 ⟨rfl, rfl⟩
                clear C11
                clear cz
                have c12 := rSame_yes _ _ M w8 X8.out Y8.out
                have C12 := Lib.hid c12
                clear c12
                go_wp2_with fail
                refine C12.out.mono ?_
                rintro e w12 ⟨rfl, b⟩
                have U12 := Lib.hid (U8.out.below b)
                have A12 := Lib.hid (A8.out.below b)
                have D12 := Lib.hid (D8.out.below b)
                have X12 := Lib.hid (X8.out.below b)
                have Y12 := Lib.hid (Y8.out.below b)
                have B12 := Lib.hid (B8.out.trans (b.mono B8.out.size))
                clear b C12
                have c13 := awake_any w12
                have C13 := Lib.hid c13
                clear c13
                go_wp2_with fail
                refine C13.out.mono ?_
                rintro e w13 ⟨rfl, b⟩
                have B13 := Lib.hid (B12.out.trans (b.mono B12.out.size))
                clear b C13
                go_wp2
                go_ret
                exact ⟨rfl, B13.out⟩
            · obtain ⟨ep1, ep2⟩ := tick_ok HV.out p2 mp
              have Ep1 := Lib.hid ep1
              have Ep2 := Lib.hid ep2
              clear ep1 ep2
              obtain ⟨eq1, eq2⟩ := tick_ok HV.out q2 mq
              have Eq1 := Lib.hid eq1
              have Eq2 := Lib.hid eq2
              clear eq1 eq2
              obtain ⟨t1, t2, t3⟩ := tick_two HV.out p2 q2 mp mq hne
              have T1 := Lib.hid t1
              have T2 := Lib.hid t2
              obtain ⟨M, hM⟩ : ∃ x, tickL (xs.set q (gz xs q + 1)) (p : Int) = x := ⟨_, rfl⟩
              rw [hM] at t3
              have T3 := Lib.hid t3
              have T4 := Lib.hid hM
              clear t1 t2 t3 hM
              have hpq : ((p : Int) == (q : Int)) = false := by rw [beq_eq_false_iff_ne]; omega
              have TB := Lib.hid (tick_before HV.out p2 mp)
              obtain ⟨tc1, tc2⟩ := tick_covers HV.out p2 mp
              have TC1 := Lib.hid tc1
              have TC2 := Lib.hid tc2
              clear tc1 tc2
              obtain ⟨b9, o9, rfl⟩ := KlC.some_ U4.out (by omega)
              have hzz := (vcE_iff.1 HV.out).2 p p2
              obtain ⟨z, hz⟩ : ∃ z, gz xs p = z := ⟨_, rfl⟩
              have HZ := Lib.hid hz
              rw [hz] at hzz
              have wz : IntKind.i64.wrap (z + 1) = z + 1 := IntWalk.i64_in _ (by omega)
              clear hz hzz mp mq
              have pI : (p : Int) < (xs.length : Int) := by omega
              have c5 := vTick_at _ xs (p : Int) wd U4.out
              rw [Ep1.out, Ep2.out] at c5
              have C5 := Lib.hid c5
              clear c5
              go_wp2_with fail
              refine C5.out.mono ?_
              rintro e w5 ⟨v1, rfl, k1, b⟩
              have U5 := Lib.hid (U4.out.below b)
              have B5 := Lib.hid (B4.out.trans (b.mono B4.out.size))
              have A5 := Lib.hid k1
              clear k1
              clear b C5
              have c6 := vTick_at _ xs (q : Int) w5 U5.out
              rw [Eq1.out, Eq2.out] at c6
              have C6 := Lib.hid c6
              clear c6
              go_wp2_with fail
              refine C6.out.mono ?_
              rintro e w6 ⟨v2, rfl, k2, b⟩
              have U6 := Lib.hid (U5.out.below b)
              have A6 := Lib.hid (A5.out.below b)
              have B6 := Lib.hid (B5.out.trans (b.mono B5.out.size))
              have D6 := Lib.hid k2
              clear k2
              clear b C6
              have c7 := vTick_at _ _ (q : Int) w6 A6.out
              rw [T1.out, T3.out] at c7
              have C7 := Lib.hid c7
              clear c7
              go_wp2_with fail
              refine C7.out.mono ?_
              rintro e w7 ⟨v3, rfl, k3, b⟩
              have U7 := Lib.hid (U6.out.below b)
              have A7 := Lib.hid (A6.out.below b)
              have D7 := Lib.hid (D6.out.below b)
              have B7 := Lib.hid (B6.out.trans (b.mono B6.out.size))
              have X7 := Lib.hid k3
              clear k3
              clear b C7
              have c8 := vTick_at _ _ (p : Int) w7 D7.out
              rw [T2.out, T4.out] at c8
              have C8 := Lib.hid c8
              clear c8
              go_wp2_with fail
              refine C8.out.mono ?_
              rintro e w8 ⟨v4, rfl, k4, b⟩
              have U8 := Lib.hid (U7.out.below b)
              have A8 := Lib.hid (A7.out.below b)
              have D8 := Lib.hid (D7.out.below b)
              have X8 := Lib.hid (X7.out.below b)
              have B8 := Lib.hid (B7.out.trans (b.mono B7.out.size))
              have Y8 := Lib.hid k4
              clear k4
              clear b C8
              have c9 := vCompare_at _ _ _ _ w8 U8.out A8.out
              rw [TB.out] at c9
              have C9 := Lib.hid c9
              clear c9
              go_wp2_with fail
              refine C9.out.mono ?_
              rintro e w9 ⟨rfl, rfl⟩
              clear C9
              have cz := KlC.cell U8.out p2
              rw [HZ.out] at cz
              have c10 := vCovers_at _ _ (p : Int) (gz xs p + 1) w8 A8.out
              rw [TC1.out, HZ.out] at c10
              have C10 := Lib.hid c10
              clear c10
              go_wp2_with fail
              refine C10.out.mono ?_
              rintro e w10 ⟨rfl, rfl⟩
              clear C10
              have c11 := vCovers_at _ _ (p : Int) (gz xs p + 1) w8 U8.out
              rw [TC2.out, HZ.out] at c11
              have C11 := Lib.hid c11
              clear c11
              go_wp2_with fail
              refine C11.out.mono ?_
              rintro e w11 ⟨rfl, rfl⟩
              clear C11
              clear cz
              have c12 := rSame_yes _ _ M w8 X8.out Y8.out
              have C12 := Lib.hid c12
              clear c12
              go_wp2_with fail
              refine C12.out.mono ?_
              rintro e w12 ⟨rfl, b⟩
              have U12 := Lib.hid (U8.out.below b)
              have A12 := Lib.hid (A8.out.below b)
              have D12 := Lib.hid (D8.out.below b)
              have X12 := Lib.hid (X8.out.below b)
              have Y12 := Lib.hid (Y8.out.below b)
              have B12 := Lib.hid (B8.out.trans (b.mono B8.out.size))
              clear b C12
              have c13 := awake_any w12
              have C13 := Lib.hid c13
              clear c13
              go_wp2_with fail
              refine C13.out.mono ?_
              rintro e w13 ⟨rfl, b⟩
              have B13 := Lib.hid (B12.out.trans (b.mono B12.out.size))
              clear b C13
              go_wp2
              go_ret
              exact ⟨rfl, B13.out⟩

end Go.Proofs.Ytpkmdonejmbnoaa
