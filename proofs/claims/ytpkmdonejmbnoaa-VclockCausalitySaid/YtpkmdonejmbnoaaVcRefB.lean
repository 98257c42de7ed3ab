/-
  What the reference's Compare, Covers, New, Tick and Same of vclock return, for every argument.
-/
import Derived.Test.YtpkmdonejmbnoaaVcRef
namespace Go.Proofs.Ytpkmdonejmbnoaa
open Go.RowKit

set_option maxRecDepth 100000 in
set_option maxHeartbeats 2000000 in
/-- Compare. -/
theorem rCompare_any (ad bd : Option Addr) (cap dap : Nat) (zs ds : List Int) (w : World) (hI : IntsA w.heap.size w ad zs) (hD : IntsA w.heap.size w bd ds) (hl : zs.length ≤ 9223372036854775807) (hm : ds.length ≤ 9223372036854775807) :
    Calls Try.prog 30 #[.slice ad zs.length cap, .slice bd ds.length dap] w fun e w' => e = .returned (.int .i64 (cmpK zs ds)) ∧ Below w.heap.size w w' := by
  have H1 := rCheck_any w.heap.size ad cap zs w hI hl
  have H2 := rCheck_any w.heap.size bd dap ds w hD hm
  by_cases h1 : vcE zs = 0
  · rw [h1] at H1
    by_cases h2 : vcE ds = 0
    · rw [h2] at H2
      by_cases h3 : zs.length = ds.length
      · have hp := pairE_of h1 h2 h3
        have hc : cmpK zs ds = if leB zs ds = true ∧ leB ds zs = true then 0 else if leB zs ds = true then 1 else if leB ds zs = true then 2 else 3 := by unfold cmpK; rw [if_neg (by simp [hp])]
        rw [hc]
        have h3' : ((zs.length : Int) != (ds.length : Int)) = false := by rw [h3]; simp
        have HI := Lib.hid hI
        have HD := Lib.hid hD
        have HLE := Lib.hid h3
        have HAB : Hid (∀ W, Below w.heap.size w W → Calls Try.prog 57 #[.slice ad zs.length cap, .slice bd ds.length dap] W fun e w' => e = .returned (.bool (leB zs ds)) ∧ Below W.heap.size W w') := Lib.hid (fun W h => rLeq_any w.heap.size ad bd cap dap zs ds W (HI.out.below h) (HD.out.below h) hl HLE.out)
        have HBA : Hid (∀ W, Below w.heap.size w W → Calls Try.prog 57 #[.slice bd ds.length dap, .slice ad zs.length cap] W fun e w' => e = .returned (.bool (leB ds zs)) ∧ Below W.heap.size W w') := Lib.hid (fun W h => rLeq_any w.heap.size bd ad dap cap ds zs W (HD.out.below h) (HI.out.below h) hm HLE.out.symm)
        have K1 := Lib.hid H1
        have K2 := Lib.hid H2
        clear h1 h2 h3 hp hc hI hD H1 H2
        generalize leB zs ds = p at *
        generalize leB ds zs = q at *
        cases p <;> cases q
        · go_enter Try.func30, Try.ntmps30
          go_wp2_with fail
          refine K1.out.mono ?_
          rintro e w4 ⟨rfl, rfl⟩
          go_wp2_with fail
          refine K2.out.mono ?_
          rintro e w4 ⟨rfl, rfl⟩
          have B0 := Lib.hid (Below.refl w.heap.size w)
          have C0 := Lib.hid (HAB.out _ B0.out)
          go_wp2_with fail
          refine C0.out.mono ?_
          rintro e w5 ⟨rfl, b0⟩
          have B1 := Lib.hid (B0.out.trans (b0.mono B0.out.size))
          clear b0
          have C1 := Lib.hid (HAB.out _ B1.out)
          go_wp2_with fail
          refine C1.out.mono ?_
          rintro e w6 ⟨rfl, b1⟩
          have B2 := Lib.hid (B1.out.trans (b1.mono B1.out.size))
          clear b1
          have C2 := Lib.hid (HBA.out _ B2.out)
          go_wp2_with fail
          refine C2.out.mono ?_
          rintro e w7 ⟨rfl, b2⟩
          have B3 := Lib.hid (B2.out.trans (b2.mono B2.out.size))
          clear b2
          go_wp2
          go_ret
          exact ⟨rfl, B3.out⟩
        · go_enter Try.func30, Try.ntmps30
          go_wp2_with fail
          refine K1.out.mono ?_
          rintro e w4 ⟨rfl, rfl⟩
          go_wp2_with fail
          refine K2.out.mono ?_
          rintro e w4 ⟨rfl, rfl⟩
          have B0 := Lib.hid (Below.refl w.heap.size w)
          have C0 := Lib.hid (HAB.out _ B0.out)
          go_wp2_with fail
          refine C0.out.mono ?_
          rintro e w5 ⟨rfl, b0⟩
          have B1 := Lib.hid (B0.out.trans (b0.mono B0.out.size))
          clear b0
          have C1 := Lib.hid (HAB.out _ B1.out)
          go_wp2_with fail
          refine C1.out.mono ?_
          rintro e w6 ⟨rfl, b1⟩
          have B2 := Lib.hid (B1.out.trans (b1.mono B1.out.size))
          clear b1
          have C2 := Lib.hid (HBA.out _ B2.out)
          go_wp2_with fail
          refine C2.out.mono ?_
          rintro e w7 ⟨rfl, b2⟩
          have B3 := Lib.hid (B2.out.trans (b2.mono B2.out.size))
          clear b2
          go_wp2
          go_ret
          exact ⟨rfl, B3.out⟩
        · go_enter Try.func30, Try.ntmps30
          go_wp2_with fail
          refine K1.out.mono ?_
          rintro e w4 ⟨rfl, rfl⟩
          go_wp2_with fail
          refine K2.out.mono ?_
          rintro e w4 ⟨rfl, rfl⟩
          have B0 := Lib.hid (Below.refl w.heap.size w)
          have C0 := Lib.hid (HAB.out _ B0.out)
          go_wp2_with fail
          refine C0.out.mono ?_
          rintro e w5 ⟨rfl, b0⟩
          have B1 := Lib.hid (B0.out.trans (b0.mono B0.out.size))
          clear b0
          have C1 := Lib.hid (HBA.out _ B1.out)
          go_wp2_with fail
          refine C1.out.mono ?_
          rintro e w6 ⟨rfl, b1⟩
          have B2 := Lib.hid (B1.out.trans (b1.mono B1.out.size))
          clear b1
          have C2 := Lib.hid (HAB.out _ B2.out)
          go_wp2_with fail
          refine C2.out.mono ?_
          rintro e w7 ⟨rfl, b2⟩
          have B3 := Lib.hid (B2.out.trans (b2.mono B2.out.size))
          clear b2
          go_wp2
          go_ret
          exact ⟨rfl, B3.out⟩
        · go_enter Try.func30, Try.ntmps30
          go_wp2_with fail
          refine K1.out.mono ?_
          rintro e w4 ⟨rfl, rfl⟩
          go_wp2_with fail
          refine K2.out.mono ?_
          rintro e w4 ⟨rfl, rfl⟩
          have B0 := Lib.hid (Below.refl w.heap.size w)
          have C0 := Lib.hid (HAB.out _ B0.out)
          go_wp2_with fail
          refine C0.out.mono ?_
          rintro e w5 ⟨rfl, b0⟩
          have B1 := Lib.hid (B0.out.trans (b0.mono B0.out.size))
          clear b0
          have C1 := Lib.hid (HBA.out _ B1.out)
          go_wp2_with fail
          refine C1.out.mono ?_
          rintro e w6 ⟨rfl, b1⟩
          have B2 := Lib.hid (B1.out.trans (b1.mono B1.out.size))
          clear b1
          go_wp2
          go_ret
          exact ⟨rfl, B2.out⟩
      · have h3' : ((zs.length : Int) != (ds.length : Int)) = true := by rw [bne_iff_ne]; omega
        have hp : pairE zs ds = 10 := by unfold pairE; rw [if_neg (by simp [h1, h2]), if_pos h3]
        rw [show cmpK zs ds = 3 by unfold cmpK; rw [hp]; rfl]
        have K1 := Lib.hid H1
        have K2 := Lib.hid H2
        clear h1 h2 h3 hp hI hD H1 H2
        go_enter Try.func30, Try.ntmps30
        go_wp2_with fail
        refine K1.out.mono ?_
        rintro e w4 ⟨rfl, rfl⟩
        go_wp2_with fail
        refine K2.out.mono ?_
        rintro e w4 ⟨rfl, rfl⟩
        go_wp2
        go_ret
        exact ⟨rfl, Below.refl _ _⟩
    · have hp : pairE zs ds = 1 := by unfold pairE; rw [if_pos (.inr h2)]
      rw [show cmpK zs ds = 3 by unfold cmpK; rw [hp]; rfl]
      have hb : (vcE ds != 0) = true := by simpa using h2
      have K1 := Lib.hid H1
      have K2 := Lib.hid H2
      clear h1 h2 hp hI hD H1 H2
      generalize vcE ds = x2 at *
      go_enter Try.func30, Try.ntmps30
      go_wp2_with fail
      refine K1.out.mono ?_
      rintro e w4 ⟨rfl, rfl⟩
      go_wp2_with fail
      refine K2.out.mono ?_
      rintro e w4 ⟨rfl, rfl⟩
      go_wp2
      go_ret
      exact ⟨rfl, Below.refl _ _⟩
  · have hp : pairE zs ds = 1 := by unfold pairE; rw [if_pos (.inl h1)]
    rw [show cmpK zs ds = 3 by unfold cmpK; rw [hp]; rfl]
    have hb : (vcE zs != 0) = true := by simpa using h1
    have K1 := Lib.hid H1
    clear h1 H2 hp hI hD H1
    generalize vcE zs = x1 at *
    go_enter Try.func30, Try.ntmps30
    go_wp2_with fail
    refine K1.out.mono ?_
    rintro e w4 ⟨rfl, rfl⟩
    go_wp2
    go_ret
    exact ⟨rfl, Below.refl _ _⟩

/-- Covers. -/
theorem rKovers_any (n₀ : Nat) (ad : Option Addr) (cap : Nat) (zs : List Int) (i n : Int) (w : World) (hI : IntsA n₀ w ad zs) (hl : zs.length ≤ 9223372036854775807) :
    Calls Try.prog 18 #[.slice ad zs.length cap, .int .i64 i, .int .i64 n] w fun e w' => e = .returned (.bool (kovB zs i n)) ∧ w = w' := by
  have HC := rCheck_any n₀ ad cap zs w hI hl
  by_cases h : vcE zs = 0
  · rw [show kovB zs i n = covB zs i n by unfold kovB; simp [h]]
    rw [h] at HC
    have HC := Lib.hid HC
    by_cases h1 : 0 ≤ i
    · obtain ⟨k, rfl⟩ : ∃ k : Nat, i = (k : Int) := ⟨i.toNat, by omega⟩
      by_cases h2 : k < zs.length
      · have h2' : (k : Int) < (zs.length : Int) := by omega
        obtain ⟨b, off, rfl, _, q1⟩ := hI k h2
        change w.cell? ⟨b, off + k, none⟩ = some (.int .i64 (gz zs k)) at q1
        have hcv : covB zs (k : Int) n = decide (n ≤ gz zs k) := by unfold covB; rw [inB_iff.2 ⟨h1, h2'⟩, Int.toNat_natCast]; rfl
        rw [hcv]
        generalize gz zs k = z at *
        clear hI h hcv
        go_enter Try.func18, Try.ntmps18
        go_wp2_with fail
        refine HC.out.mono ?_
        rintro e w4 ⟨rfl, rfl⟩
        go_wp2
        go_ret
        exact ⟨rfl, rfl⟩
      · have h2' : ¬ (k : Int) < (zs.length : Int) := by omega
        rw [show covB zs (k : Int) n = false by unfold covB inB; rw [decide_eq_false h2']; simp]
        clear hI h
        go_enter Try.func18, Try.ntmps18
        go_wp2_with fail
        refine HC.out.mono ?_
        rintro e w4 ⟨rfl, rfl⟩
        go_wp2
        go_ret
        exact ⟨rfl, rfl⟩
    · rw [show covB zs i n = false by unfold covB inB; rw [decide_eq_false h1]; simp]
      clear hI h
      go_enter Try.func18, Try.ntmps18
      go_wp2_with fail
      refine HC.out.mono ?_
      rintro e w4 ⟨rfl, rfl⟩
      go_wp2
      go_ret
      exact ⟨rfl, rfl⟩
  · rw [show kovB zs i n = false by unfold kovB; simp [h]]
    have hb : (vcE zs == 0) = false := by simpa using h
    have HC := Lib.hid HC
    clear hI h
    generalize vcE zs = x at *
    go_enter Try.func18, Try.ntmps18
    go_wp2_with fail
    refine HC.out.mono ?_
    rintro e w4 ⟨rfl, rfl⟩
    go_wp2
    go_ret
    exact ⟨rfl, rfl⟩

theorem newCellZ (w : World) (u : Value) (T : TypeId) : ∀ (j : Nat) (x : Value), [u][j]? = some x → (w.alloc (.cells #[u] T)).cell? ((⟨w.heap.size, 0, none⟩ : Addr).add j) = some x := by
  intro j x hj
  match j, hj with
  | 0, hj => simp at hj; subst hj; simp [Addr.add]
theorem one_oneZ (z : Int) : ∀ u ∈ [Value.int .i64 z], u.oneCell' = true := by
  intro u hu
  simp at hu
  subst hu
  rfl
theorem zeros_snoc (k : Nat) : intV (fnL k (fun _ => 0)) ++ [.int .i64 0] = intV (fnL (k + 1) (fun _ => 0)) := by simp [intV, fnL, List.range_succ]

set_option maxHeartbeats 2000000 in
/-- New. -/
theorem rNew_any (n : Int) (w : World) : Calls Try.prog 13 #[.int .i64 n] w (RetK (newL n) (newE n) w) := by
  by_cases h0 : n < 0
  · rw [show newL n = [] by unfold newL; rw [if_pos (.inl h0)], show newE n = 2 by unfold newE; rw [if_pos (.inl h0)]]
    go_enter Try.func13, Try.ntmps13
    go_wp2
    go_ret2
    exact ⟨_, rfl, KlC.nil _ _ _, (Below.refl _ w).alloc (Nat.le_refl _) _⟩
  · by_cases h1 : 32 < n
    · rw [show newL n = [] by unfold newL; rw [if_pos (.inr h1)], show newE n = 2 by unfold newE; rw [if_pos (.inr h1)]]
      go_enter Try.func13, Try.ntmps13
      go_wp2
      go_ret2
      exact ⟨_, rfl, KlC.nil _ _ _, (Below.refl _ w).alloc (Nat.le_refl _) _⟩
    · obtain ⟨N, rfl⟩ : ∃ N : Nat, n = (N : Int) := ⟨n.toNat, by omega⟩
      rw [show newL (N : Int) = fnL N (fun _ => 0) by unfold newL; rw [if_neg (by omega), Int.toNat_natCast], show newE (N : Int) = 0 by unfold newE; rw [if_neg (by omega)]]
      obtain ⟨i1, ji, jz0, jz1, jz2⟩ := info_parts infoZ
      have HR0 : Hid (RowV w.heap.size (.slice (some ⟨w.heap.size, 0, none⟩) 0 0) 0 (fun _ => 0) (w.alloc (.cells #[] TZ))) := Lib.hid (World.ownsRow_made w #[] 0 (Nat.le_refl _) (Nat.zero_le _) rfl)
      have HB0 : Hid (Below w.heap.size w (w.alloc (.cells #[] TZ))) := Lib.hid ((Below.refl _ w).alloc (Nat.le_refl _) _)
      go_enter Try.func13, Try.ntmps13
      go_wp2
      go_loopw [4, 5] (fun v i wr => ∃ k : Nat, k ≤ N ∧ i = .int .i64 k ∧ Hid (RowV w.heap.size v k (fun _ => 0) wr) ∧ Hid (Below w.heap.size w wr)) (fun _ i _ => N - (intOf i).toNat)
      case atStart => exact ⟨0, Nat.zero_le _, rfl, HR0, HB0⟩
      case round =>
        obtain ⟨k, hk, rfl, HR, HB⟩ := hrel
        by_cases hlt : k < N
        · have k1 : (k : Int) < (N : Int) := by omega
          have hs := HB.out.size
          go_wp2_with (at_builtin; refine wpList_append_own _ rfl _ _ 23 rfl w.heap.size TZ i1 (.int .i64 0) 1 8 Try.underlying23 ji jz0 jz1 jz2 rfl (by decide) _ _ _ rfl (World.ownsRow.alloc HR.out _) ⟨wr.heap.size, 0, none⟩ 1 1 [.int .i64 0] rfl rfl (newCellZ wr (.int .i64 0) TZ) (one_oneZ _) ?qc4 ?qc5 ?qc6 ?_)
          case qc4 => unfold maxLen; omega
          case qc5 => omega
          case qc6 => simp; omega
          intro v' w6 hown' hgrow hnil
          have HR6 : Hid (RowV w.heap.size v' (k + 1) (fun _ => 0) w6) := Lib.hid (by
            unfold RowV
            rw [← zeros_snoc]
            exact hown')
          have HB6 : Hid (Below w.heap.size w w6) := Lib.hid ((HB.out.alloc hs _).grown hgrow (by simp; omega) (fun i hi => (World.ownsRow.lt HR.out i hi).1))
          clear hown' hgrow hnil
          go_wp2
          go_roundw
          case rel => exact ⟨k + 1, by omega, by go_num, HR6, HB6⟩
          case measure => simp [intOf]; omega
        · obtain rfl : k = N := by omega
          have HK := Lib.hid HR.out.known
          go_wp2
          go_ret2
          exact ⟨_, rfl, HK.out, HB.out⟩

set_option maxRecDepth 100000 in
set_option maxHeartbeats 1000000 in
/-- Tick. -/
theorem rTick_any (ad : Option Addr) (cap : Nat) (zs : List Int) (i : Int) (w : World) (hI : IntsA w.heap.size w ad zs) (hl : zs.length ≤ 9223372036854775807) :
    Calls Try.prog 20 #[.slice ad zs.length cap, .int .i64 i] w (RetK (tickL zs i) (tickE zs i) w) := by
  have HC := rCheck_any w.heap.size ad cap zs w hI hl
  by_cases hv : vcE zs = 0
  · rw [hv] at HC
    cases hb : inB zs.length i with
    | true =>
      obtain ⟨b1, b2⟩ := inB_iff.1 hb
      obtain ⟨k, rfl⟩ : ∃ k : Nat, i = (k : Int) := ⟨i.toNat, by omega⟩
      obtain ⟨hl32, hrng⟩ := vcE_iff.1 hv
      have hk : k < zs.length := by omega
      have hz := hrng k hk
      obtain ⟨b, off, rfl, hbb, q1⟩ := hI k hk
      change w.cell? ⟨b, off + k, none⟩ = some (.int .i64 (gz zs k)) at q1
      have HC := Lib.hid HC
      by_cases hmax : gz zs k = 1099511627776
      · rw [show tickE zs (k : Int) = 14 by unfold tickE; rw [if_neg (by simp [hv]), hb, if_neg (by simp), Int.toNat_natCast, if_pos hmax], show tickL zs (k : Int) = [] by unfold tickL tickE; rw [if_neg (by simp [hv, hb, hmax])]]
        rw [hmax] at q1
        clear hI hv hb hrng hz hmax
        go_enter Try.func20, Try.ntmps20
        go_wp2_with fail
        refine HC.out.mono ?_
        rintro e w4 ⟨rfl, rfl⟩
        go_wp2
        go_ret2
        exact ⟨_, rfl, KlC.nil _ _ _, (Below.refl _ w).alloc (Nat.le_refl _) _⟩
      · have ht0 : tickE zs (k : Int) = 0 := by unfold tickE; rw [if_neg (by simp [hv]), hb, if_neg (by simp), Int.toNat_natCast, if_neg hmax]
        rw [ht0, show tickL zs (k : Int) = zs.set k (gz zs k + 1) by unfold tickL; rw [if_pos ht0, Int.toNat_natCast]]
        obtain ⟨u, w4, hrun, ho, hb4⟩ := appendCopyZ (cap := cap) hI (by omega)
        obtain ⟨z, hzz⟩ : ∃ z, gz zs k = z := ⟨_, rfl⟩
        obtain ⟨g, c, rfl, hg⟩ := ownZ_some (show w4.ownsRow w.heap.size TZ 1 u zs.length (intV zs) from ho) (by omega)
        have r1 := ho.cell hk
        rw [hzz] at q1 hmax hz r1 ⊢
        have r2 : w4.frozen? ⟨g, k, none⟩ = false := World.ownsRow.frozenAt ho k
        have HKK : Hid (KlC (w4.setCell ⟨g, k, none⟩ (.int .i64 (z + 1))) (.slice (some ⟨g, 0, none⟩) zs.length c) (zs.set k (z + 1))) := Lib.hid (tick_end ho (z + 1))
        have HB4 : Hid (Below w.heap.size w (w4.setCell ⟨g, k, none⟩ (.int .i64 (z + 1)))) := Lib.hid (hb4.setCell (p := ⟨g, k, none⟩) hg _)
        have HRUN := Lib.hid hrun
        have hz1 : (z == 1099511627776) = false := by simpa using hmax
        have hz2 : IntKind.i64.wrap (z + 1) = z + 1 := IntWalk.i64_in _ (by omega)
        clear hI hv hb hrng hmax hzz ht0 ho hb4 hrun hz
        go_enter Try.func20, Try.ntmps20
        go_wp2_with fail
        refine HC.out.mono ?_
        rintro e w5 ⟨rfl, rfl⟩
        go_wp2_with (at_builtin; refine append_by_run _ rfl _ _ _ rfl _ _ rfl rfl _ _ HRUN.out ?_)
        go_ret2
        exact ⟨_, rfl, HKK.out, HB4.out⟩
    | false =>
      rw [show tickE zs i = 2 by unfold tickE; rw [if_neg (by simp [hv]), if_pos hb], show tickL zs i = [] by unfold tickL tickE; rw [if_neg (by simp [hv, hb])]]
      have HC := Lib.hid HC
      by_cases h1 : 0 ≤ i
      · have h2 : ¬ i < (zs.length : Int) := fun h2 => by rw [inB_iff.2 ⟨h1, h2⟩] at hb; cases hb
        clear hI hv hb
        go_enter Try.func20, Try.ntmps20
        go_wp2_with fail
        refine HC.out.mono ?_
        rintro e w4 ⟨rfl, rfl⟩
        go_wp2
        go_ret2
        exact ⟨_, rfl, KlC.nil _ _ _, (Below.refl _ w).alloc (Nat.le_refl _) _⟩
      · clear hI hv hb
        go_enter Try.func20, Try.ntmps20
        go_wp2_with fail
        refine HC.out.mono ?_
        rintro e w4 ⟨rfl, rfl⟩
        go_wp2
        go_ret2
        exact ⟨_, rfl, KlC.nil _ _ _, (Below.refl _ w).alloc (Nat.le_refl _) _⟩
  · rw [show tickE zs i = 1 by unfold tickE; rw [if_pos hv], show tickL zs i = [] by unfold tickL tickE; rw [if_neg (by rw [if_pos hv]; decide)]]
    have hb : (vcE zs != 0) = true := by simpa using hv
    have HC := Lib.hid HC
    clear hI hv
    generalize vcE zs = x at *
    go_enter Try.func20, Try.ntmps20
    go_wp2_with fail
    refine HC.out.mono ?_
    rintro e w4 ⟨rfl, rfl⟩
    go_wp2
    go_ret2
    exact ⟨_, rfl, KlC.nil _ _ _, (Below.refl _ w).alloc (Nat.le_refl _) _⟩

/-- Same. -/
theorem rSame_at (u v : Value) (xs ys : List Int) (w : World) (hu : KlC w u xs) (hv : KlC w v ys) :
    Calls Try.prog 14 #[u, v] w fun e w' => e = .returned (.bool (decide (xs = ys))) ∧ Below w.heap.size w w' := by
  obtain ⟨a, c, rfl, h1, l1⟩ := hu
  obtain ⟨b, d, rfl, h2, l2⟩ := hv
  have HS := Lib.hid (same_any _ _ a b c d xs ys w h1 h2 l1 l2)
  clear h1 h2
  generalize decide (xs = ys) = q at *
  go_enter Try.func14, Try.ntmps14
  go_wp2_with fail
  refine HS.out.mono ?_
  rintro e w4 ⟨rfl, b4⟩
  go_wp2
  go_ret
  exact ⟨rfl, b4⟩
theorem rSame_yes (u v : Value) (xs : List Int) (w : World) (hu : KlC w u xs) (hv : KlC w v xs) :
    Calls Try.prog 14 #[u, v] w fun e w' => e = .returned (.bool true) ∧ Below w.heap.size w w' := by
  refine (rSame_at u v xs xs w hu hv).mono ?_
  rintro e w' ⟨rfl, h⟩
  exact ⟨by rw [decide_eq_true rfl], h⟩

end Go.Proofs.Ytpkmdonejmbnoaa
