/-
  The library's IndexFunc, ContainsFunc, Index, Contains and Clone over timers.
-/
import Derived.Test.YtcmcgcogahkamaaTmPlace
namespace Go.Proofs.Ytcmcgcogahkamaa
open Go.RowKit

/-- A predicate on timers that is a function which keeps all that was there. -/
def PredT (f : Nat) (bnd caps : Array Value) (p : Tm → Bool) (w : World) : Prop := ∀ (a b c : Int) (W : World), Below w.heap.size w W → Calls Try.prog f (bnd.push (.agg #[.int .i64 a, .int .i64 b, .int .i64 c]) ++ caps) W fun e W' => e = .returned (.bool (p (a, b, c))) ∧ Below W.heap.size W W'
/-- The first place at which p holds, or -1. -/
def IxOf (ts : List Tm) (p : Tm → Bool) (k : Int) : Prop := (k = -1 ∧ ∀ j, j < ts.length → p (gt ts j) = false) ∨ ∃ i : Nat, i < ts.length ∧ k = i ∧ p (gt ts i) = true ∧ ∀ j, j < i → p (gt ts j) = false
theorem IxOf.any {ts : List Tm} {p : Tm → Bool} {k : Int} (h : IxOf ts p k) : decide (0 ≤ k) = ts.any p := by
  rcases h with ⟨rfl, h⟩ | ⟨i, hi, rfl, h, _⟩
  · rw [show ts.any p = false from List.any_eq_false.2 fun t ht => by
      obtain ⟨j, hj, rfl⟩ := mem_gt ht
      rw [h j hj]
      simp]
    rfl
  · rw [show ts.any p = true from List.any_eq_true.2 ⟨_, gt_mem hi, h⟩]
    simp

set_option maxRecDepth 100000 in
set_option maxHeartbeats 2000000 in
theorem tIndex_any (φ : Nat → Prop) (f : Nat) (bnd caps : Array Value) (ad : Option Addr) (cap : Nat) (ts : List Tm) (p : Tm → Bool) (w : World) (heg : ∀ args w, (callFunc f args).run Try.prog w = .ok (.enter f args) w) (hA : TmA φ w ad ts) (hl : ts.length ≤ 1000) (hp : PredT f bnd caps p w) :
    Calls Try.prog 48 #[.slice ad ts.length cap, .func (.func f) bnd caps] w fun e w' => ∃ k : Int, e = .returned (.int .i64 k) ∧ IxOf ts p k ∧ Below w.heap.size w w' := by
  have HL := Lib.hid hA
  have HP := Lib.hid hp
  clear hA hp
  go_enter Try.func48, Try.ntmps48
  go_wp2
  go_loopw [8] (fun x wr => ∃ k : Nat, k ≤ ts.length ∧ x = .int .i64 k ∧ Hid (∀ j, j < k → p (gt ts j) = false) ∧ Hid (Below w.heap.size w wr)) (fun x _ => ts.length - (intOf x).toNat)
  case atStart => exact ⟨0, Nat.zero_le _, rfl, Lib.hid (fun j hj => by omega), Lib.hid (Below.refl _ _)⟩
  case round =>
    obtain ⟨k, hk, rfl, HA, HB⟩ := hrel
    by_cases hkt : k < ts.length
    · have k1 : (k : Int) < (ts.length : Int) := by omega
      obtain ⟨b, off, rfl, _, hb, c0, c1, c2⟩ := HL.out.below HB.out k hkt
      obtain ⟨⟨x, y, z⟩, ht⟩ : ∃ t, gt ts k = t := ⟨_, rfl⟩
      rw [ht] at c0 c1 c2
      simp only [] at c0 c1 c2
      have HC := HP.out x y z wr HB.out
      cases hpk : p (x, y, z) with
      | true =>
        have HX : Hid (IxOf ts p (k : Int)) := Lib.hid (.inr ⟨k, hkt, rfl, by rw [ht]; exact hpk, HA.out⟩)
        rw [hpk] at HC
        have HC := Lib.hid HC
        clear hpk ht
        go_wp2_with fail
        refine HC.out.mono ?_
        rintro e w4 ⟨rfl, b4⟩
        have B4 := Lib.hid (HB.out.trans (b4.mono HB.out.size))
        clear b4
        go_wp2
        go_ret
        exact ⟨_, rfl, HX.out, B4.out⟩
      | false =>
        have HA' : Hid (∀ j, j < k + 1 → p (gt ts j) = false) := Lib.hid (fun j hj => by
          by_cases e : j = k
          · rw [e, ht]; exact hpk
          · exact HA.out j (by omega))
        rw [hpk] at HC
        have HC := Lib.hid HC
        clear hpk ht
        go_wp2_with fail
        refine HC.out.mono ?_
        rintro e w4 ⟨rfl, b4⟩
        have B4 := Lib.hid (HB.out.trans (b4.mono HB.out.size))
        clear b4
        go_wp2
        go_roundw
        case rel => exact ⟨k + 1, by omega, by go_num, HA', B4⟩
        case measure => simp [intOf]; omega
    · obtain rfl : k = ts.length := by omega
      have HX : Hid (IxOf ts p (-1)) := Lib.hid (.inl ⟨rfl, HA.out⟩)
      go_wp2
      go_ret
      exact ⟨_, rfl, HX.out, HB.out⟩

set_option maxRecDepth 100000 in
theorem tContainsF_any (φ : Nat → Prop) (f : Nat) (bnd caps : Array Value) (ad : Option Addr) (cap : Nat) (ts : List Tm) (p : Tm → Bool) (w : World) (heg : ∀ args w, (callFunc f args).run Try.prog w = .ok (.enter f args) w) (hA : TmA φ w ad ts) (hl : ts.length ≤ 1000) (hp : PredT f bnd caps p w) :
    Calls Try.prog 27 #[.slice ad ts.length cap, .func (.func f) bnd caps] w fun e w' => e = .returned (.bool (ts.any p)) ∧ Below w.heap.size w w' := by
  have HI := Lib.hid (tIndex_any φ f bnd caps ad cap ts p w heg hA hl hp)
  clear hA hp
  go_enter Try.func27, Try.ntmps27
  go_wp2_with fail
  refine HI.out.mono ?_
  rintro e w1 ⟨k, rfl, hk, b1⟩
  have hk := Lib.hid hk.any
  go_wp2
  go_ret
  exact ⟨by rw [← hk.out]; rfl, b1⟩

set_option maxRecDepth 100000 in
set_option maxHeartbeats 2000000 in
theorem tIndexE_any (φ : Nat → Prop) (ad : Option Addr) (cap : Nat) (ts : List Tm) (a b c : Int) (w : World) (hA : TmA φ w ad ts) (hl : ts.length ≤ 1000) :
    Calls Try.prog 51 #[.slice ad ts.length cap, tmA (a, b, c)] w fun e w' => ∃ k : Int, e = .returned (.int .i64 k) ∧ IxOf ts (fun t => decide (t = (a, b, c))) k ∧ Below w.heap.size w w' := by
  have HB0 : Hid (Below w.heap.size w (w.alloc (.cells #[.int .i64 a, .int .i64 b, .int .i64 c] TT))) := Lib.hid ((Below.refl _ _).alloc (Nat.le_refl _) _)
  have HL := Lib.hid (hA.below HB0.out)
  obtain ⟨w1, hw1⟩ : ∃ W, w.alloc (.cells #[.int .i64 a, .int .i64 b, .int .i64 c] TT) = W := ⟨_, rfl⟩
  have hcl : (w.alloc (.cells #[.int .i64 a, .int .i64 b, .int .i64 c] TT)).cell? ⟨w.heap.size, 0, none⟩ = some (.int .i64 a) ∧ (w.alloc (.cells #[.int .i64 a, .int .i64 b, .int .i64 c] TT)).cell? ⟨w.heap.size, 1, none⟩ = some (.int .i64 b) ∧ (w.alloc (.cells #[.int .i64 a, .int .i64 b, .int .i64 c] TT)).cell? ⟨w.heap.size, 2, none⟩ = some (.int .i64 c) := by
    clear hw1
    refine ⟨?_, ?_, ?_⟩ <;> go_simp
  rw [hw1] at HB0 HL hcl
  obtain ⟨e0, e1, e2⟩ := hcl
  have HW1 := Lib.hid hw1
  clear hA hw1
  unfold tmA encT
  dsimp only
  go_enter Try.func51, Try.ntmps51
  go_wp2
  rw [HW1.out]
  go_loopw [8] (fun x wr => ∃ k q : Nat, k ≤ ts.length ∧ x = .int .i64 k ∧ Hid (∀ j, j < k → decide (gt ts j = (a, b, c)) = false) ∧ wr = w1.drewN q) (fun x _ => ts.length - (intOf x).toNat)
  case atStart => exact ⟨0, 0, Nat.zero_le _, rfl, Lib.hid (fun j hj => by omega), rfl⟩
  case round =>
    obtain ⟨k, q, hk, rfl, HA, rfl⟩ := hrel
    by_cases hkt : k < ts.length
    · have k1 : (k : Int) < (ts.length : Int) := by omega
      have k0 : (0 : Int) ≤ (k : Int) := by omega
      obtain ⟨b', off, rfl, _, hb, c0, c1, c2⟩ := HL.out k hkt
      obtain ⟨⟨x, y, z⟩, ht⟩ : ∃ t, gt ts k = t := ⟨_, rfl⟩
      rw [ht] at c0 c1 c2
      simp only [] at c0 c1 c2
      have hq := run_eqT a b c x y z
      rw [sameT_eq] at hq
      cases hpk : decide ((a, b, c) = (x, y, z)) with
      | true =>
        have HX : Hid (IxOf ts (fun t => decide (t = (a, b, c))) (k : Int)) := Lib.hid (.inr ⟨k, hkt, rfl, by dsimp only; rw [ht, show decide ((x, y, z) = (a, b, c)) = decide ((a, b, c) = (x, y, z)) from decide_eq_decide.2 eq_comm]; exact hpk, HA.out⟩)
        rw [hpk] at hq
        clear hpk ht
        go_wp2_with fail
        go_quiet (fail)
        go_wp2
        go_ret
        exact ⟨_, rfl, HX.out, ⟨HB0.out.os, HB0.out.tape, HB0.out.output, HB0.out.size, HB0.out.block⟩⟩
      | false =>
        have HA' : Hid (∀ j, j < k + 1 → decide (gt ts j = (a, b, c)) = false) := Lib.hid (fun j hj => by
          by_cases e : j = k
          · rw [e, ht, show decide ((x, y, z) = (a, b, c)) = decide ((a, b, c) = (x, y, z)) from decide_eq_decide.2 eq_comm]; exact hpk
          · exact HA.out j (by omega))
        rw [hpk] at hq
        clear hpk ht
        go_wp2_with fail
        go_quiet (fail)
        go_wp2
        go_roundw
        case rel => exact ⟨k + 1, _, by omega, by go_num, HA', rfl⟩
        case measure => simp [intOf]; omega
    · obtain rfl : k = ts.length := by omega
      have HX : Hid (IxOf ts (fun t => decide (t = (a, b, c))) (-1)) := Lib.hid (.inl ⟨rfl, HA.out⟩)
      go_wp2
      go_ret
      exact ⟨_, rfl, HX.out, ⟨HB0.out.os, HB0.out.tape, HB0.out.output, HB0.out.size, HB0.out.block⟩⟩

theorem tContains_any (φ : Nat → Prop) (ad : Option Addr) (cap : Nat) (ts : List Tm) (a b c : Int) (w : World) (hA : TmA φ w ad ts) (hl : ts.length ≤ 1000) :
    Calls Try.prog 30 #[.slice ad ts.length cap, tmA (a, b, c)] w fun e w' => e = .returned (.bool (ts.any fun t => decide (t = (a, b, c)))) ∧ Below w.heap.size w w' := by
  have HB0 : Hid (Below w.heap.size w (w.alloc (.cells #[.int .i64 a, .int .i64 b, .int .i64 c] TT))) := Lib.hid ((Below.refl _ _).alloc (Nat.le_refl _) _)
  have HI := tIndexE_any φ ad cap ts a b c (w.alloc (.cells #[.int .i64 a, .int .i64 b, .int .i64 c] TT)) (hA.below HB0.out) hl
  unfold tmA encT at HI ⊢
  dsimp only at HI ⊢
  have HI := Lib.hid HI
  clear hA
  go_enter Try.func30, Try.ntmps30
  go_wp2_with fail
  refine HI.out.mono ?_
  rintro e w1 ⟨k, rfl, hk, b1⟩
  have hk := Lib.hid hk.any
  have B1 := Lib.hid (HB0.out.trans (b1.mono HB0.out.size))
  clear b1
  go_wp2
  go_ret
  exact ⟨by rw [← hk.out]; rfl, B1.out⟩

set_option maxRecDepth 100000 in
set_option maxHeartbeats 2000000 in
theorem tClone_any (φ : Nat → Prop) (ad : Option Addr) (cap : Nat) (ts : List Tm) (w : World) (hl : ts.length ≤ 1000) (hE : TmA φ w ad ts) :
    Calls Try.prog 50 #[.slice ad ts.length cap] w fun e w' => ∃ v, e = .returned v ∧ OwnT w.heap.size ts v w' ∧ Below w.heap.size w w' := by
  obtain ⟨i3, ki, kz0, kz1, kz2⟩ := info_parts infoT
  have q22 : ∀ (w : World) (a : Option Addr) (n c n' c' : Nat), (binOp .eql 22 (.slice a n c) (.slice none n' c')).run Try.prog w = .ok (.bool a.isNone) w := fun w a n c n' c' => Lib.run_eql_slice_nil w _ _ a n c n' c' Try.underlying22
  cases ad with
  | none =>
    have hz : ts = [] := by
      cases ts with
      | nil => rfl
      | cons x xs =>
        obtain ⟨b, off, e, _⟩ := hE 0 (by simp)
        cases e
    subst hz
    clear hE
    go_enter Try.func50, Try.ntmps50
    go_wp2
    go_ret
    exact ⟨_, rfl, OwnT.nil _ _, Below.refl _ _⟩
  | some q =>
    have hc : ∀ j u, (tmV ts)[j]? = some u → (w.alloc (.cells #[] TT)).cell? (q.add j) = some u := by
      intro j u hj
      have hlt : j < (tmV ts).length := (List.getElem?_eq_some_iff.1 hj).1
      rw [tmV_length] at hlt
      obtain ⟨b, off, e, _⟩ := hE 0 (by omega)
      cases e
      rw [Addr.add_lit]
      exact Lib.cell?_alloc_some _ (hE.cells j u hj)
    have HC := Lib.hid hc
    clear hc hE
    go_enter Try.func50, Try.ntmps50
    go_wp2_with (at_builtin; refine wpList_append_own _ rfl _ _ 22 rfl w.heap.size TT i3 (.agg #[.int .i64 0, .int .i64 0, .int .i64 0]) 3 24 Try.underlying22 ki kz0 kz1 kz2 rfl (by decide) _ _ _ rfl (World.ownsRow_made w #[] 0 (Nat.le_refl _) (Nat.zero_le _) rfl) q ts.length cap (tmV ts) rfl ?qc1 HC.out (tmV_one _) ?qc4 ?qc5 ?qc6 ?_)
    case qc1 => rw [tmV_length]
    case qc4 => unfold maxLen; omega
    case qc5 => omega
    case qc6 => simp
    intro v' w1 hown hgrow hnil
    go_wp2
    go_ret
    refine ⟨v', rfl, ?_, ((Below.refl _ w).alloc (Nat.le_refl _) _).grown hgrow (by simp) (by intro k hk; simp [Value.ownBlock] at hk; omega)⟩
    unfold OwnT
    simpa using hown

end Go.Proofs.Ytcmcgcogahkamaa
