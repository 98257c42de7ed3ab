/-
  What the reference's without, Remove, Find and Next of timers return.
-/
import Derived.Test.YtcmcgcogahkamaaTmRefChk
import Derived.Test.YtcmcgcogahkamaaTmExp
namespace Go.Proofs.Ytcmcgcogahkamaa
open Go.RowKit Go.Shelf

set_option maxRecDepth 100000 in
set_option maxHeartbeats 4000000 in
/-- without. -/
theorem rWithout_any (φ : Nat → Prop) (ad : Option Addr) (cap : Nat) (ts : List Tm) (k i : Int) (w : World) (hA : TmA φ w ad ts) (hl : ts.length ≤ 1000) :
    Calls Try.prog 43 #[.slice ad ts.length cap, .int .i64 k, .int .i64 i] w fun e w' => ∃ v, e = .returned v ∧ OwnT w.heap.size (woL ts k i) v w' ∧ Below w.heap.size w w' := by
  obtain ⟨i3, ki, kz0, kz1, kz2⟩ := info_parts infoT
  have HA := Lib.hid hA
  have H0 : Hid (OwnT w.heap.size (woL (ts.take 0) k i) (.slice (some ⟨w.heap.size, 0, none⟩) 0 0) (w.alloc (.cells #[] TT))) := Lib.hid (World.ownsRow_made w #[] 0 (Nat.le_refl _) (Nat.zero_le _) rfl)
  have HB0 : Hid (Below w.heap.size w (w.alloc (.cells #[] TT))) := Lib.hid ((Below.refl _ _).alloc (Nat.le_refl _) _)
  clear hA
  go_enter Try.func43, Try.ntmps43
  go_wp2
  go_loopw [7, 8] (fun y x wr => ∃ (j : Nat) (v : Value), v = y ∧ j ≤ ts.length ∧ x = .int .i64 j ∧ Hid (OwnT w.heap.size (woL (ts.take j) k i) v wr) ∧ Hid (Below w.heap.size w wr)) (fun _ x _ => ts.length - (intOf x).toNat)
  case atStart => exact ⟨0, _, rfl, Nat.zero_le _, rfl, H0, HB0⟩
  case round =>
    obtain ⟨j, v, rfl, hj, rfl, HO, HB⟩ := hrel
    by_cases hjt : j < ts.length
    · have k1 : (j : Int) < (ts.length : Int) := by omega
      obtain ⟨bk, off, rfl, _, hbk, c0, c1, c2⟩ := HA.out.below HB.out j hjt
      obtain ⟨⟨a, b, c⟩, ht⟩ : ∃ t, gt ts j = t := ⟨_, rfl⟩
      rw [ht] at c0 c1 c2
      simp only [] at c0 c1 c2
      have hlen : (woL (ts.take j) k i).length ≤ 1000 := by
        have := woL_length (ts.take j) k i
        rw [List.length_take] at this
        omega
      cases hp : keyB (a, b, c) k i with
      | true =>
        have hp2 := keyB_iff.1 hp
        dsimp only at hp2
        have b1 : (b != k) = false := by simp [hp2.1]
        have b2 : (c != i) = false := by simp [hp2.2]
        have HO' : Hid (OwnT w.heap.size (woL (ts.take (j + 1)) k i) v wr) := Lib.hid (by rw [take_snocT ts j hjt, ht, woL_snoc, if_pos hp]; exact HO.out)
        clear hp hp2 ht
        go_wp2
        go_roundw
        case rel => exact ⟨j + 1, v, rfl, by omega, by go_num, HO', HB⟩
        case measure => simp [intOf]; omega
      | false =>
        have hp2 := keyB_no.1 hp
        dsimp only at hp2
        have HW : Hid (woL (ts.take (j + 1)) k i = woL (ts.take j) k i ++ [(a, b, c)]) := Lib.hid (by rw [take_snocT ts j hjt, ht, woL_snoc, if_neg (by rw [hp]; simp)])
        have HNC := Lib.hid (newCellT wr (a, b, c))
        obtain ⟨q, hq⟩ : ∃ q, woL (ts.take j) k i = q := ⟨_, rfl⟩
        rw [hq] at HO HW hlen
        have HR := Lib.hid (show wr.ownsRow w.heap.size TT 3 v q.length (tmV q) from HO.out)
        have hOB : ∀ t, v.ownBlock = some t → w.heap.size ≤ t := fun t ht => (World.ownsRow.lt HR.out t ht).1
        have HOB := Lib.hid hOB
        have HX : Hid (∀ v' w4, w4.ownsRow w.heap.size TT 3 v' (q.length + 1) (tmV q ++ encT (a, b, c)) → OwnT w.heap.size (woL (ts.take (j + 1)) k i) v' w4) := Lib.hid (fun v' w4 h => by
          rw [HW.out]
          unfold OwnT
          rw [tmV_snoc, List.length_append]
          exact h)
        clear hp ht hq hOB
        by_cases hbk2 : b = k
        · have b1 : (b != k) = false := by simp [hbk2]
          have b2 : (c != i) = true := by
            rw [bne_iff_ne]
            exact fun e => hp2 ⟨hbk2, e⟩
          clear hp2 hbk2
          go_wp2_with (at_builtin; refine wpList_append_own _ rfl _ _ 22 rfl w.heap.size TT i3 (.agg #[.int .i64 0, .int .i64 0, .int .i64 0]) 3 24 Try.underlying22 ki kz0 kz1 kz2 rfl (by decide) _ _ _ rfl (HR.out.alloc _) ⟨wr.heap.size, 0, none⟩ 1 1 (encT (a, b, c)) rfl rfl HNC.out (encT_one _) ?qc4 ?qc5 ?qc6 ?_)
          case qc4 => unfold maxLen; omega
          case qc5 => omega
          case qc6 => have := HB.out.size; simp; omega
          intro v' w4 hown hgrow hnil
          have HO4 := Lib.hid (HX.out v' w4 hown)
          have HB4 := Lib.hid ((HB.out.alloc HB.out.size _).grown hgrow (by have := HB.out.size; simp; omega) HOB.out)
          clear hown hgrow hnil
          go_wp2
          go_roundw
          case rel => exact ⟨j + 1, v', rfl, by omega, by go_num, HO4, HB4⟩
          case measure => simp [intOf]; omega
        · have b1 : (b != k) = true := by simp [hbk2]
          clear hp2 hbk2
          go_wp2_with (at_builtin; refine wpList_append_own _ rfl _ _ 22 rfl w.heap.size TT i3 (.agg #[.int .i64 0, .int .i64 0, .int .i64 0]) 3 24 Try.underlying22 ki kz0 kz1 kz2 rfl (by decide) _ _ _ rfl (HR.out.alloc _) ⟨wr.heap.size, 0, none⟩ 1 1 (encT (a, b, c)) rfl rfl HNC.out (encT_one _) ?qd4 ?qd5 ?qd6 ?_)
          case qd4 => unfold maxLen; omega
          case qd5 => omega
          case qd6 => have := HB.out.size; simp; omega
          intro v' w4 hown hgrow hnil
          have HO4 := Lib.hid (HX.out v' w4 hown)
          have HB4 := Lib.hid ((HB.out.alloc HB.out.size _).grown hgrow (by have := HB.out.size; simp; omega) HOB.out)
          clear hown hgrow hnil
          go_wp2
          go_roundw
          case rel => exact ⟨j + 1, v', rfl, by omega, by go_num, HO4, HB4⟩
          case measure => simp [intOf]; omega
    · obtain rfl : j = ts.length := by omega
      have HE : Hid (OwnT w.heap.size (woL ts k i) v wr) := Lib.hid (by have := HO.out; rwa [List.take_length] at this)
      go_wp2
      go_ret
      exact ⟨_, rfl, HE.out, HB.out⟩

set_option maxRecDepth 100000 in
set_option maxHeartbeats 2000000 in
/-- Remove. -/
theorem rRemove_any (v : Value) (ts : List Tm) (k i : Int) (w : World) (hK : KtC w v ts) (hl : ts.length ≤ 1000) :
    Calls Try.prog 25 #[v, .int .i64 k, .int .i64 i] w fun e w' => ∃ v', e = .returned v' ∧ FtC w.heap.size w' v' (rmvL ts k i) ∧ Below w.heap.size w w' := by
  obtain ⟨ad, cap, rfl, hc1, hc2, hA⟩ := hK
  have hCK := rCheck_any _ ad cap ts w hA hl
  have HA := Lib.hid hA
  clear hA
  by_cases hc : chkE ts = 0
  · rw [hc] at hCK
    have HCK := Lib.hid hCK
    have hr : rmvL ts k i = woL ts k i := by unfold rmvL; rw [if_pos hc]
    rw [hr]
    clear hc hCK hr
    go_enter Try.func25, Try.ntmps25
    go_wp2_with fail
    refine HCK.out.mono ?_
    rintro e w2 ⟨rfl, b2⟩
    have HWO := Lib.hid (rWithout_any _ ad cap ts k i w2 (HA.out.below b2) hl)
    have HB2 := Lib.hid b2
    clear b2
    go_wp2_with fail
    refine HWO.out.mono ?_
    rintro e w3 ⟨v3, rfl, ho3, b3⟩
    have HF3 := Lib.hid (ho3.fresh.mono HB2.out.size)
    have HB3 := Lib.hid (HB2.out.trans (b3.mono HB2.out.size))
    clear ho3 b3
    go_wp2
    go_ret
    exact ⟨_, rfl, HF3.out, HB3.out⟩
  · have hr : rmvL ts k i = [] := by unfold rmvL; rw [if_neg hc]
    rw [hr]
    obtain ⟨x, hx⟩ : ∃ x, chkE ts = x := ⟨_, rfl⟩
    rw [hx] at hc hCK
    have hxb : (x != 0) = true := by simpa using hc
    have HCK := Lib.hid hCK
    clear hc hr hCK hx
    go_enter Try.func25, Try.ntmps25
    go_wp2_with fail
    refine HCK.out.mono ?_
    rintro e w2 ⟨rfl, b2⟩
    have HB2 := Lib.hid (b2.alloc b2.size (.cells #[] TT))
    clear b2
    go_wp2
    go_ret
    exact ⟨_, rfl, FtC.nil _ _ _ _ (by omega), HB2.out⟩

set_option maxRecDepth 100000 in
set_option maxHeartbeats 2000000 in
/-- Next. -/
theorem rNext_any (v : Value) (ts : List Tm) (w : World) (hK : KtC w v ts) (hl : ts.length ≤ 1000) :
    Calls Try.prog 21 #[v] w fun e w' => e = .returned (.tuple #[.int .i64 (nxtT ts), .bool (nxtB ts)]) ∧ Below w.heap.size w w' := by
  obtain ⟨ad, cap, rfl, hc1, hc2, hA⟩ := hK
  have hCK := rCheck_any _ ad cap ts w hA hl
  have HA := Lib.hid hA
  clear hA
  by_cases hc : chkE ts = 0
  · rw [hc] at hCK
    have HCK := Lib.hid hCK
    clear hCK
    by_cases h0 : 0 < ts.length
    · have hb : nxtB ts = true := by unfold nxtB; rw [decide_eq_true hc, decide_eq_true h0]; rfl
      have ht : nxtT ts = (gt ts 0).1 := by unfold nxtT; rw [if_pos hc]
      rw [hb, ht]
      clear hc hb ht
      obtain ⟨bk, off, rfl, _, hbk, c0, _, _⟩ := HA.out 0 h0
      obtain ⟨z, hz⟩ : ∃ z, (gt ts 0).1 = z := ⟨_, rfl⟩
      rw [hz] at c0 ⊢
      have hne : ((ts.length : Int) == 0) = false := by rw [beq_eq_false_iff_ne]; omega
      have k1 : (0 : Int) < (ts.length : Int) := by omega
      have HC0 := Lib.hid c0
      clear hz c0
      go_enter Try.func21, Try.ntmps21
      go_wp2_with fail
      refine HCK.out.mono ?_
      rintro e w2 ⟨rfl, b2⟩
      have d0 := (b2.cell (p := ⟨bk, off + 0 * 3, none⟩) hbk).trans HC0.out
      simp only [Nat.zero_mul, Nat.add_zero] at d0
      have HB2 := Lib.hid b2
      clear b2
      go_wp2
      go_ret2
      exact ⟨rfl, HB2.out⟩
    · have hz : ts = [] := List.eq_nil_of_length_eq_zero (by omega)
      subst hz
      clear hc h0
      go_enter Try.func21, Try.ntmps21
      go_wp2_with fail
      refine HCK.out.mono ?_
      rintro e w2 ⟨rfl, b2⟩
      have HB2 := Lib.hid b2
      clear b2
      go_wp2
      go_ret2
      exact ⟨rfl, HB2.out⟩
  · have hb : nxtB ts = false := by unfold nxtB; rw [decide_eq_false hc]; rfl
    have ht : nxtT ts = 0 := by unfold nxtT; rw [if_neg hc]
    rw [hb, ht]
    obtain ⟨x, hx⟩ : ∃ x, chkE ts = x := ⟨_, rfl⟩
    rw [hx] at hc hCK
    have hxb : (x != 0) = true := by simpa using hc
    have HCK := Lib.hid hCK
    clear hc hCK hx hb ht
    go_enter Try.func21, Try.ntmps21
    go_wp2_with fail
    refine HCK.out.mono ?_
    rintro e w2 ⟨rfl, b2⟩
    have HB2 := Lib.hid b2
    clear b2
    go_wp2
    go_ret2
    exact ⟨rfl, HB2.out⟩

set_option maxRecDepth 100000 in
set_option maxHeartbeats 2000000 in
/-- Find. -/
theorem rFind_any (v : Value) (ts : List Tm) (k i : Int) (w : World) (hK : KtC w v ts) (hl : ts.length ≤ 1000) :
    Calls Try.prog 19 #[v, .int .i64 k, .int .i64 i] w fun e w' => e = .returned (.tuple #[.int .i64 (fndT ts k i), .bool (fndB ts k i)]) ∧ Below w.heap.size w w' := by
  obtain ⟨ad, cap, rfl, hc1, hc2, hA⟩ := hK
  have hCK := rCheck_any _ ad cap ts w hA hl
  have HA := Lib.hid hA
  clear hA
  by_cases hc : chkE ts = 0
  · rw [hc] at hCK
    have HCK := Lib.hid hCK
    have HC0 := Lib.hid hc
    clear hc hCK
    go_enter Try.func19, Try.ntmps19
    go_wp2_with fail
    refine HCK.out.mono ?_
    rintro e w2 ⟨rfl, b2⟩
    have HA2 := Lib.hid (HA.out.below b2)
    have HB2 := Lib.hid b2
    clear b2
    go_wp2
    go_loopw [8] (fun x wr => ∃ j : Nat, j ≤ ts.length ∧ x = .int .i64 j ∧ Hid (∀ q, q < j → keyB (gt ts q) k i = false) ∧ w2 = wr) (fun x _ => ts.length - (intOf x).toNat)
    case atStart => exact ⟨0, Nat.zero_le _, rfl, Lib.hid (fun q hq => by omega), rfl⟩
    case round =>
      obtain ⟨j, hj, rfl, HN, rfl⟩ := hrel
      by_cases hjt : j < ts.length
      · have k1 : (j : Int) < (ts.length : Int) := by omega
        obtain ⟨bk, off, rfl, _, _, c0, c1, c2⟩ := HA2.out j hjt
        obtain ⟨⟨a, b, c⟩, ht⟩ : ∃ t, gt ts j = t := ⟨_, rfl⟩
        rw [ht] at c0 c1 c2
        simp only [] at c0 c1 c2
        cases hp : keyB (a, b, c) k i with
        | true =>
          have hp2 := keyB_iff.1 hp
          dsimp only at hp2
          have b1 : (b == k) = true := by simp [hp2.1]
          have b2 : (c == i) = true := by simp [hp2.2]
          have HBT : Hid (fndB ts k i = true) := Lib.hid (by
            unfold fndB
            rw [HC0.out, show hasK ts k i = true from List.any_eq_true.2 ⟨_, gt_mem hjt, by rw [ht]; exact hp⟩]
            rfl)
          have HTT : Hid (fndT ts k i = a) := Lib.hid (by
            unfold fndT
            rw [if_pos HC0.out, find_first (p := fun t => keyB t k i) hjt (by rw [ht]; exact hp) HN.out, ht]
            rfl)
          clear hp hp2 ht
          go_wp2
          go_ret2
          exact ⟨by rw [HBT.out, HTT.out]; rfl, HB2.out⟩
        | false =>
          have hp2 := keyB_no.1 hp
          dsimp only at hp2
          have HN' : Hid (∀ q, q < j + 1 → keyB (gt ts q) k i = false) := Lib.hid (fun q hq => by
            by_cases e : q = j
            · rw [e, ht]; exact hp
            · exact HN.out q (by omega))
          clear hp ht
          by_cases hbk2 : b = k
          · have b1 : (b == k) = true := by simp [hbk2]
            have b2 : (c == i) = false := by
              rw [beq_eq_false_iff_ne]
              exact fun e => hp2 ⟨hbk2, e⟩
            clear hp2 hbk2
            go_wp2
            go_roundw
            case rel => exact ⟨j + 1, by omega, by go_num, HN', trivial⟩
            case measure => simp [intOf]; omega
          · have b1 : (b == k) = false := by simp [hbk2]
            clear hp2 hbk2
            go_wp2
            go_roundw
            case rel => exact ⟨j + 1, by omega, by go_num, HN', trivial⟩
            case measure => simp [intOf]; omega
      · obtain rfl : j = ts.length := by omega
        have HBT : Hid (fndB ts k i = false) := Lib.hid (by
          unfold fndB
          rw [HC0.out, show hasK ts k i = false from List.any_eq_false.2 fun t ht => by
            obtain ⟨q, hq, rfl⟩ := mem_gt ht
            rw [HN.out q hq]
            simp]
          rfl)
        have HTT : Hid (fndT ts k i = 0) := Lib.hid (by
          unfold fndT
          rw [if_pos HC0.out, show ts.find? (fun t => keyB t k i) = none from by
            rw [List.find?_eq_none]
            intro t ht
            obtain ⟨q, hq, rfl⟩ := mem_gt ht
            rw [HN.out q hq]
            simp]
          rfl)
        go_wp2
        go_ret2
        exact ⟨by rw [HBT.out, HTT.out]; rfl, HB2.out⟩
  · have hb : fndB ts k i = false := by unfold fndB; rw [decide_eq_false hc]; rfl
    have ht : fndT ts k i = 0 := by unfold fndT; rw [if_neg hc]
    rw [hb, ht]
    obtain ⟨x, hx⟩ : ∃ x, chkE ts = x := ⟨_, rfl⟩
    rw [hx] at hc hCK
    have hxb : (x != 0) = true := by simpa using hc
    have HCK := Lib.hid hCK
    clear hc hCK hx hb ht
    go_enter Try.func19, Try.ntmps19
    go_wp2_with fail
    refine HCK.out.mono ?_
    rintro e w2 ⟨rfl, b2⟩
    have HB2 := Lib.hid b2
    clear b2
    go_wp2
    go_ret2
    exact ⟨rfl, HB2.out⟩

end Go.Proofs.Ytcmcgcogahkamaa
