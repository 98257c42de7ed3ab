/-
  What the program's Remove, Find and Next of timers return.
-/
import Derived.Test.YtcmcgcogahkamaaTmAdd
namespace Go.Proofs.Ytcmcgcogahkamaa
open Go.RowKit Go.Shelf

set_option maxRecDepth 100000 in
set_option maxHeartbeats 2000000 in
/-- Remove. -/
theorem tRemove_any (v : Value) (ts : List Tm) (k i : Int) (w : World) (hK : KtC w v ts) (hl : ts.length ≤ 1000) :
    Calls Try.prog 24 #[v, .int .i64 k, .int .i64 i] w fun e w' => ∃ v', e = .returned v' ∧ FtC w.heap.size w' v' (rmvL ts k i) ∧ Below w.heap.size w w' := by
  obtain ⟨ad, cap, rfl, hc1, hc2, hA⟩ := hK
  have hCK := tCheck_any _ ad cap ts w hA hl hc1
  have HA := Lib.hid hA
  clear hA
  by_cases hc : chkE ts = 0
  · rw [hc] at hCK
    have HCK := Lib.hid hCK
    have hr : rmvL ts k i = woL ts k i := by unfold rmvL; rw [if_pos hc]
    rw [hr]
    clear hc hCK hr
    go_enter Try.func24, Try.ntmps24
    go_wp2_with fail
    refine HCK.out.mono ?_
    rintro e w2 ⟨rfl, b2⟩
    have HWO := Lib.hid (tWithout_any _ ad cap ts k i w2 (HA.out.below b2) hl)
    have HB2 := Lib.hid b2
    clear b2
    go_wp2_with fail
    refine HWO.out.mono ?_
    rintro e w3 ⟨v3, rfl, ho3, b3⟩
    have HF3 := Lib.hid (ho3.fresh.mono HB2.out.size)
    have HB3 := Lib.hid (HB2.out.trans (b3.mono HB2.out.size))
    clear ho3 b3
    go_wp2
    go_ret
    exact ⟨_, rfl, HF3.out, HB3.out⟩
  · have hr : rmvL ts k i = [] := by unfold rmvL; rw [if_neg hc]
    rw [hr]
    obtain ⟨x, hx⟩ : ∃ x, chkE ts = x := ⟨_, rfl⟩
    rw [hx] at hc hCK
    have hxb : (x != 0) = true := by simpa using hc
    have HCK := Lib.hid hCK
    clear hc hr hCK hx
    go_enter Try.func24, Try.ntmps24
    go_wp2_with fail
    refine HCK.out.mono ?_
    rintro e w2 ⟨rfl, b2⟩
    have HB2 := Lib.hid b2
    clear b2
    go_wp2
    go_ret
    exact ⟨_, rfl, FtC.nil _ _ _ _ (by omega), HB2.out⟩

theorem find_first {ts : List Tm} {p : Tm → Bool} {i : Nat} (hi : i < ts.length) (h : p (gt ts i) = true) (hn : ∀ j, j < i → p (gt ts j) = false) : ts.find? p = some (gt ts i) := by
  have e : ts = ts.take i ++ ts.drop i := (List.take_append_drop i ts).symm
  conv => lhs; rw [e]
  rw [List.find?_append, drop_consT ts i hi, List.find?_cons_of_pos h]
  have : (ts.take i).find? p = none := by
    rw [List.find?_eq_none]
    intro t ht
    obtain ⟨j, hj, rfl⟩ := mem_gt ht
    rw [List.length_take] at hj
    rw [gt_take (by omega), hn j (by omega)]
    simp
  rw [this]
  rfl

set_option maxRecDepth 100000 in
set_option maxHeartbeats 2000000 in
/-- Find. -/
theorem tFind_any (v : Value) (ts : List Tm) (k i : Int) (w : World) (hK : KtC w v ts) (hl : ts.length ≤ 1000) :
    Calls Try.prog 18 #[v, .int .i64 k, .int .i64 i] w fun e w' => e = .returned (.tuple #[.int .i64 (fndT ts k i), .bool (fndB ts k i)]) ∧ Below w.heap.size w w' := by
  obtain ⟨ad, cap, rfl, hc1, hc2, hA⟩ := hK
  have hCK := tCheck_any _ ad cap ts w hA hl hc1
  have HA := Lib.hid hA
  clear hA
  by_cases hc : chkE ts = 0
  · rw [hc] at hCK
    have HCK := Lib.hid hCK
    have HC0 := Lib.hid hc
    clear hc hCK
    go_enter Try.func18, Try.ntmps18
    go_wp2_with fail
    refine HCK.out.mono ?_
    rintro e w2 ⟨rfl, b2⟩
    have HIX := Lib.hid (tIndex_any _ 46 #[.agg #[.int .i64 k, .int .i64 i]] #[] ad cap ts (fun t => keyB t k i) w2 (enters_of Try.func46 (by kernel_rfl) rfl) (HA.out.below b2) hl (fun a b c W _ => tIsOf_any k i a b c W))
    have HA2 := Lib.hid (HA.out.below b2)
    have HB2 := Lib.hid b2
    clear b2
    go_wp2_with fail
    refine HIX.out.mono ?_
    rintro e w3 ⟨x, rfl, hx, b3⟩
    have HA3 := Lib.hid (HA2.out.below b3)
    have HB3 := Lib.hid (HB2.out.trans (b3.mono HB2.out.size))
    clear b3
    rcases hx with ⟨rfl, hn⟩ | ⟨j, hj, rfl, hp, hn⟩
    · have hb : fndB ts k i = false := by
        unfold fndB
        rw [HC0.out]
        have : hasK ts k i = false := List.any_eq_false.2 fun t ht => by
          obtain ⟨j, hj, rfl⟩ := mem_gt ht
          rw [show keyB (gt ts j) k i = false from hn j hj]
          simp
        rw [this]
        rfl
      have ht : fndT ts k i = 0 := by
        unfold fndT
        rw [if_pos HC0.out]
        have : ts.find? (fun t => keyB t k i) = none := by
          rw [List.find?_eq_none]
          intro t ht
          obtain ⟨j, hj, rfl⟩ := mem_gt ht
          rw [show keyB (gt ts j) k i = false from hn j hj]
          simp
        rw [this]
        rfl
      have HBT := Lib.hid hb
      have HTT := Lib.hid ht
      clear hn hb ht
      go_wp2
      go_ret2
      exact ⟨by rw [HBT.out, HTT.out]; rfl, HB3.out⟩
    · have hb : fndB ts k i = true := by
        unfold fndB
        rw [HC0.out]
        have : hasK ts k i = true := List.any_eq_true.2 ⟨_, gt_mem hj, hp⟩
        rw [this]
        rfl
      have ht : fndT ts k i = (gt ts j).1 := by
        unfold fndT
        rw [if_pos HC0.out, find_first hj hp hn]
        rfl
      obtain ⟨bk, off, rfl, _, _, c0, _, _⟩ := HA3.out j hj
      obtain ⟨z, hz⟩ : ∃ z, (gt ts j).1 = z := ⟨_, rfl⟩
      rw [hz] at c0 ht
      have HBT := Lib.hid hb
      have HTT := Lib.hid ht
      have k1 : (j : Int) < (ts.length : Int) := by omega
      clear hn hb ht hp hz
      go_wp2
      go_ret2
      exact ⟨by rw [HBT.out, HTT.out]; rfl, HB3.out⟩
  · have hb : fndB ts k i = false := by unfold fndB; rw [decide_eq_false hc]; rfl
    have ht : fndT ts k i = 0 := by unfold fndT; rw [if_neg hc]
    rw [hb, ht]
    obtain ⟨x, hx⟩ : ∃ x, chkE ts = x := ⟨_, rfl⟩
    rw [hx] at hc hCK
    have hxb : (x != 0) = true := by simpa using hc
    have HCK := Lib.hid hCK
    clear hc hCK hx hb ht
    go_enter Try.func18, Try.ntmps18
    go_wp2_with fail
    refine HCK.out.mono ?_
    rintro e w2 ⟨rfl, b2⟩
    have HB2 := Lib.hid b2
    clear b2
    go_wp2
    go_ret2
    exact ⟨rfl, HB2.out⟩

set_option maxRecDepth 100000 in
set_option maxHeartbeats 2000000 in
/-- Next. -/
theorem tNext_any (v : Value) (ts : List Tm) (w : World) (hK : KtC w v ts) (hl : ts.length ≤ 1000) :
    Calls Try.prog 20 #[v] w fun e w' => e = .returned (.tuple #[.int .i64 (nxtT ts), .bool (nxtB ts)]) ∧ Below w.heap.size w w' := by
  obtain ⟨ad, cap, rfl, hc1, hc2, hA⟩ := hK
  have hCK := tCheck_any _ ad cap ts w hA hl hc1
  have HA := Lib.hid hA
  clear hA
  by_cases hc : chkE ts = 0
  · rw [hc] at hCK
    have HCK := Lib.hid hCK
    clear hCK
    by_cases h0 : 0 < ts.length
    · have hb : nxtB ts = true := by unfold nxtB; rw [decide_eq_true hc, decide_eq_true h0]; rfl
      have ht : nxtT ts = (gt ts 0).1 := by unfold nxtT; rw [if_pos hc]
      rw [hb, ht]
      clear hc hb ht
      obtain ⟨bk, off, rfl, _, hbk, c0, _, _⟩ := HA.out 0 h0
      obtain ⟨z, hz⟩ : ∃ z, (gt ts 0).1 = z := ⟨_, rfl⟩
      rw [hz] at c0 ⊢
      have hne : ((ts.length : Int) == 0) = false := by rw [beq_eq_false_iff_ne]; omega
      have k1 : (0 : Int) < (ts.length : Int) := by omega
      have HC0 := Lib.hid c0
      clear hz c0
      go_enter Try.func20, Try.ntmps20
      go_wp2_with fail
      refine HCK.out.mono ?_
      rintro e w2 ⟨rfl, b2⟩
      have d0 := (b2.cell (p := ⟨bk, off + 0 * 3, none⟩) hbk).trans HC0.out
      simp only [Nat.zero_mul, Nat.add_zero] at d0
      have HB2 := Lib.hid b2
      clear b2
      go_wp2
      go_ret2
      exact ⟨rfl, HB2.out⟩
    · have hz : ts = [] := List.eq_nil_of_length_eq_zero (by omega)
      subst hz
      clear hc h0
      go_enter Try.func20, Try.ntmps20
      go_wp2_with fail
      refine HCK.out.mono ?_
      rintro e w2 ⟨rfl, b2⟩
      have HB2 := Lib.hid b2
      clear b2
      go_wp2
      go_ret2
      exact ⟨rfl, HB2.out⟩
  · have hb : nxtB ts = false := by unfold nxtB; rw [decide_eq_false hc]; rfl
    have ht : nxtT ts = 0 := by unfold nxtT; rw [if_neg hc]
    rw [hb, ht]
    obtain ⟨x, hx⟩ : ∃ x, chkE ts = x := ⟨_, rfl⟩
    rw [hx] at hc hCK
    have hxb : (x != 0) = true := by simpa using hc
    have HCK := Lib.hid hCK
    clear hc hCK hx hb ht
    go_enter Try.func20, Try.ntmps20
    go_wp2_with fail
    refine HCK.out.mono ?_
    rintro e w2 ⟨rfl, b2⟩
    have HB2 := Lib.hid b2
    clear b2
    go_wp2
    go_ret2
    exact ⟨rfl, HB2.out⟩

end Go.Proofs.Ytcmcgcogahkamaa
