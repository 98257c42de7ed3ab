/-
  What the program's Join, Meet, New and Tick of vclock return, for every argument.
-/
import Derived.Test.YtpkmdonejmbnoaaVcDev
namespace Go.Proofs.Ytpkmdonejmbnoaa
open Go.RowKit

/-- The row that is combined, as far as it is written. -/
def RowZ (B G L : Nat) (f : Nat → Int) (w : World) : Prop := w.ownsRow B TZ 1 (.slice (some ⟨G, 0, none⟩) L L) L (intV (fnL L f))
theorem RowZ.known {B G L : Nat} {f : Nat → Int} {w : World} (h : RowZ B G L f w) : KlC w (.slice (some ⟨G, 0, none⟩) L L) (fnL L f) := by
  refine OwnZ.known (B := B) ?_
  unfold OwnZ
  rw [fnL_length]
  exact h
theorem RowZ.cell {B G L : Nat} {f : Nat → Int} {w : World} (h : RowZ B G L f w) {k : Nat} (hk : k < L) : w.cell? ⟨G, k, none⟩ = some (.int .i64 (f k)) := by
  have h : w.ownsRow B TZ 1 (.slice (some ⟨G, 0, none⟩) L L) L (intV (fnL L f)) := h
  rw [World.ownsRow.cellAt h k (by omega), intV_get _ (by rw [fnL_length]; exact hk), gz_fnL hk]
theorem RowZ.free {B G L : Nat} {f : Nat → Int} {w : World} (h : RowZ B G L f w) (k : Nat) : w.frozen? ⟨G, k, none⟩ = false := World.ownsRow.frozenAt h k
theorem RowZ.store {B G L : Nat} {f g : Nat → Int} {w : World} (h : RowZ B G L f w) (k : Nat) (z : Int) (hz : g k = z) (hg : ∀ i, i ≠ k → g i = f i) : RowZ B G L g (w.setCell ⟨G, k, none⟩ (.int .i64 z)) := by
  have h1 := (World.ownsRow.stored h k (.int .i64 z)).1
  rw [intV_set, fnL_set hz hg] at h1
  exact h1
theorem RowZ.drewN {B G L n : Nat} {f : Nat → Int} {w : World} (h : RowZ B G L f w) : RowZ B G L f (w.drewN n) := World.ownsRow.kept (row := none) h ⟨rfl, rfl, rfl, Nat.le_refl _, fun _ _ _ => rfl⟩ (by simp [Value.ownBlock])
theorem RowZ.drew {B G L : Nat} {f : Nat → Int} {w : World} (h : RowZ B G L f w) : RowZ B G L f w.drew := World.ownsRow.kept (row := none) h ⟨rfl, rfl, rfl, Nat.le_refl _, fun _ _ _ => rfl⟩ (by simp [Value.ownBlock])
def upTo (k : Nat) (f : Nat → Int) (i : Nat) : Int := if i < k then f i else 0
theorem upTo_here (k : Nat) (f : Nat → Int) : upTo (k + 1) f k = f k := by simp [upTo]
theorem upTo_else (k : Nat) (f : Nat → Int) (i : Nat) (h : i ≠ k) : upTo (k + 1) f i = upTo k f i := by
  unfold upTo
  by_cases h1 : i < k
  · rw [if_pos h1, if_pos (by omega)]
  · rw [if_neg h1, if_neg (by omega)]
theorem upTo_zero (f : Nat → Int) : upTo 0 f = fun _ => 0 := by funext i; simp [upTo]
theorem fnL_upTo (n : Nat) (f : Nat → Int) : fnL n (upTo n f) = fnL n f := gz_ext (by simp [fnL_length]) (fun i hi => by rw [fnL_length] at hi; rw [gz_fnL hi, gz_fnL hi, upTo, if_pos hi])
theorem RowZ.upTo_all {B G L : Nat} {f : Nat → Int} {w : World} (h : RowZ B G L (upTo L f) w) : KlC w (.slice (some ⟨G, 0, none⟩) L L) (fnL L f) := by
  have := h.known
  rwa [fnL_upTo] at this

theorem vMax_any (m n : Int) (w : World) : Calls Try.prog 52 #[.int .i64 m, .int .i64 n] w fun e w' => e = .returned (.int .i64 (max m n)) ∧ w' = w := by
  rcases Int.lt_trichotomy m n with h | rfl | h
  · have h1 : ¬ n < m := by omega
    have h2 : m ≤ n := by omega
    have h3 : ¬ n ≤ m := by omega
    rw [show max m n = n by omega]
    go_enter Try.func52, Try.ntmps52
    go_wp2
    go_ret
    exact ⟨rfl, rfl⟩
  · rw [show max m m = m by omega]
    go_enter Try.func52, Try.ntmps52
    go_wp2
    go_ret
    exact ⟨rfl, rfl⟩
  · have h1 : ¬ m < n := by omega
    have h2 : n ≤ m := by omega
    have h3 : ¬ m ≤ n := by omega
    rw [show max m n = m by omega]
    go_enter Try.func52, Try.ntmps52
    go_wp2
    go_ret
    exact ⟨rfl, rfl⟩

set_option maxRecDepth 100000 in
set_option maxHeartbeats 2000000 in
theorem combineJoin_any (ad bd : Option Addr) (cap dap : Nat) (zs ds : List Int) (w : World) (hI : IntsA w.heap.size w ad zs) (hD : IntsA w.heap.size w bd ds) (hl : zs.length ≤ 9223372036854775807) (hm : ds.length ≤ 9223372036854775807) :
    Calls Try.prog 51 #[.slice ad zs.length cap, .slice bd ds.length dap, .func (.func 52) #[] #[]] w (RetK (joinL zs ds) (pairE zs ds) w) := by
  have HP := vPair_any w.heap.size ad bd cap dap zs ds w hI hD hl hm
  by_cases hp : pairE zs ds = 0
  · obtain ⟨hv, _, hle⟩ := pairE_ok hp
    obtain ⟨hlz, _⟩ := vcE_iff.1 hv
    rw [show joinL zs ds = fnL zs.length (fun i => max (gz zs i) (gz ds i)) by unfold joinL; rw [if_pos hp], hp]
    rw [hp] at HP
    obtain ⟨i1, ji, jz0, jz1, jz2⟩ := info_parts infoZ
    have HP := Lib.hid HP
    have HI := Lib.hid hI
    have HD := Lib.hid hD
    have HLE := Lib.hid hle
    clear hI hD hp hv hle
    go_enter Try.func51, Try.ntmps51
    go_wp2_with fail
    refine HP.out.mono ?_
    rintro e w4 ⟨rfl, rfl⟩
    go_wp2_with (at_make; refine wpList_make_full _ rfl (.tmp 18) (.tmp 18) 23 rfl w.heap.size TZ i1 (.int .i64 0) 1 Try.underlying23 ji jz0 jz1 .i64 .i64 _ _ zs.length rfl rfl rfl rfl (by rw [jz2]; omega) (by unfold maxLen; omega) (Nat.le_refl _) ?_)
    intro w1 ho1 hg1
    rw [made_zeros, ← upTo_zero (fun i => max (gz zs i) (gz ds i))] at ho1
    obtain ⟨G, hG⟩ : ∃ G, w.heap.size = G := ⟨_, rfl⟩
    have HR1 : Hid (RowZ G G zs.length (upTo 0 fun i => max (gz zs i) (gz ds i)) w1) := Lib.hid (by rw [← hG]; exact ho1)
    have HB1 : Hid (Below G w w1) := Lib.hid (by rw [← hG]; exact (Below.refl _ w).grown hg1 (Nat.le_refl _) (fun j hj => by cases hj))
    rw [hG] at HI HD ⊢
    have HG := Lib.hid hG
    clear ho1 hg1 hG
    go_wp2
    go_loopw [22] (fun i wr => ∃ k : Nat, k ≤ zs.length ∧ i = .int .i64 k ∧ Hid (RowZ G G zs.length (upTo k fun i => max (gz zs i) (gz ds i)) wr) ∧ Hid (Below G w wr)) (fun i _ => zs.length - (intOf i).toNat)
    case atStart => exact ⟨0, Nat.zero_le _, rfl, HR1, HB1⟩
    case round =>
      obtain ⟨k, hk, rfl, HR, HB⟩ := hrel
      by_cases hlt : k < zs.length
      · have k1 : (k : Int) < (zs.length : Int) := by omega
        have k2 : (k : Int) < (ds.length : Int) := by have := HLE.out; omega
        have k3 : (0 : Int) ≤ (k : Int) := by omega
        obtain ⟨b1, o1, rfl, hb1, q1⟩ := HI.out k hlt
        obtain ⟨b2, o2, rfl, hb2, q2⟩ := HD.out k (by have := HLE.out; omega)
        have q1 : wr.cell? ⟨b1, o1 + k, none⟩ = some (.int .i64 (gz zs k)) := (HB.out.cell (p := ⟨b1, o1 + k, none⟩) hb1).trans q1
        have q2 : wr.cell? ⟨b2, o2 + k, none⟩ = some (.int .i64 (gz ds k)) := (HB.out.cell (p := ⟨b2, o2 + k, none⟩) hb2).trans q2
        have q3 := HR.out.cell hlt
        have q4 := HR.out.free k
        obtain ⟨x, hx⟩ : ∃ x, gz zs k = x := ⟨_, rfl⟩
        obtain ⟨y, hy⟩ : ∃ y, gz ds k = y := ⟨_, rfl⟩
        rw [hx] at q1
        rw [hy] at q2
        have HXY : Hid ((fun i => max (gz zs i) (gz ds i)) k = max x y) := Lib.hid (by rw [← hx, ← hy])
        have HC : Hid (∀ W, Calls Try.prog 52 #[.int .i64 x, .int .i64 y] W fun e w' => e = .returned (.int .i64 (max x y)) ∧ w' = W) := Lib.hid (fun W => vMax_any x y W)
        clear hx hy
        go_wp2_with fail
        refine wp_region_still_tail 13 (by kernel_rfl) (by kernel_rfl) ?_
        obtain ⟨we, hwe⟩ : ∃ we, wr.drew = we := ⟨_, rfl⟩
        change wpStill _ _ wr.drew (fun a' => wpList _ _ _ _ a' wr.drew) _ _
        rw [hwe]
        have p1 : we.cell? ⟨b1, o1 + k, none⟩ = some (.int .i64 x) := by rw [← hwe]; exact q1
        have p2 : we.cell? ⟨b2, o2 + k, none⟩ = some (.int .i64 y) := by rw [← hwe]; exact q2
        have p3 : we.cell? ⟨G, k, none⟩ = some (.int .i64 (upTo k (fun i => max (gz zs i) (gz ds i)) k)) := by rw [← hwe]; exact q3
        have p4 : we.frozen? ⟨G, k, none⟩ = false := by rw [← hwe]; exact q4
        have HRe : Hid (RowZ G G zs.length (upTo k fun i => max (gz zs i) (gz ds i)) we) := Lib.hid (by rw [← hwe]; exact HR.out.drew)
        have HBe : Hid (Below G w we) := Lib.hid (by rw [← hwe]; exact HB.out.drew)
        clear hwe q1 q2 q3 q4
        simp only [List.take_succ_cons, List.take_zero, List.drop_succ_cons, List.drop_zero]
        repeat still_step
        still_call (HC.out _)
        repeat still_step
        refine wpStill_nil ?_
        have HS : Hid (RowZ G G zs.length (upTo (k + 1) fun i => max (gz zs i) (gz ds i)) (we.setCell ⟨G, k, none⟩ (.int .i64 (max x y)))) := Lib.hid (HRe.out.store k _ (by rw [upTo_here]; exact HXY.out) (fun i hi => upTo_else _ _ _ hi))
        have HBs : Hid (Below G w (we.setCell ⟨G, k, none⟩ (.int .i64 (max x y)))) := Lib.hid (HBe.out.setCell (p := ⟨G, k, none⟩) (Nat.le_refl _) _)
        go_wp2
        go_roundw
        case rel => exact ⟨k + 1, by omega, by go_num, HS, HBs⟩
        case measure => simp [intOf]; omega
      · obtain rfl : k = zs.length := by omega
        have HK := Lib.hid HR.out.upTo_all
        go_wp2
        go_ret2
        exact ⟨_, rfl, HK.out, by rw [HG.out]; exact HB.out⟩
  · rw [show joinL zs ds = [] by unfold joinL; rw [if_neg hp]]
    have hb : (pairE zs ds != 0) = true := by simpa using hp
    have HP := Lib.hid HP
    clear hI hD hp
    generalize pairE zs ds = x at *
    go_enter Try.func51, Try.ntmps51
    go_wp2_with fail
    refine HP.out.mono ?_
    rintro e w4 ⟨rfl, rfl⟩
    go_wp2
    go_ret2
    exact ⟨_, rfl, KlC.nil _ _ _, Below.refl _ _⟩

/-- Join. -/
theorem vJoin_any (ad bd : Option Addr) (cap dap : Nat) (zs ds : List Int) (w : World) (hI : IntsA w.heap.size w ad zs) (hD : IntsA w.heap.size w bd ds) (hl : zs.length ≤ 9223372036854775807) (hm : ds.length ≤ 9223372036854775807) :
    Calls Try.prog 25 #[.slice ad zs.length cap, .slice bd ds.length dap] w (RetK (joinL zs ds) (pairE zs ds) w) := by
  have HC := Lib.hid (combineJoin_any ad bd cap dap zs ds w hI hD hl hm)
  clear hI hD
  go_enter Try.func25, Try.ntmps25
  go_wp2_with fail
  refine HC.out.mono ?_
  rintro e w4 ⟨v, rfl, hk, hb⟩
  have HK := Lib.hid hk
  clear hk
  go_wp2
  go_ret2
  exact ⟨_, rfl, HK.out, hb⟩

theorem vMin_any (m n : Int) (w : World) : Calls Try.prog 54 #[.int .i64 m, .int .i64 n] w fun e w' => e = .returned (.int .i64 (min m n)) ∧ w' = w := by
  rcases Int.lt_trichotomy m n with h | rfl | h
  · have h1 : ¬ n < m := by omega
    have h2 : m ≤ n := by omega
    have h3 : ¬ n ≤ m := by omega
    rw [show min m n = m by omega]
    go_enter Try.func54, Try.ntmps54
    go_wp2
    go_ret
    exact ⟨rfl, rfl⟩
  · rw [show min m m = m by omega]
    go_enter Try.func54, Try.ntmps54
    go_wp2
    go_ret
    exact ⟨rfl, rfl⟩
  · have h1 : ¬ m < n := by omega
    have h2 : n ≤ m := by omega
    have h3 : ¬ m ≤ n := by omega
    rw [show min m n = n by omega]
    go_enter Try.func54, Try.ntmps54
    go_wp2
    go_ret
    exact ⟨rfl, rfl⟩

set_option maxRecDepth 100000 in
set_option maxHeartbeats 2000000 in
theorem combineMeet_any (ad bd : Option Addr) (cap dap : Nat) (zs ds : List Int) (w : World) (hI : IntsA w.heap.size w ad zs) (hD : IntsA w.heap.size w bd ds) (hl : zs.length ≤ 9223372036854775807) (hm : ds.length ≤ 9223372036854775807) :
    Calls Try.prog 51 #[.slice ad zs.length cap, .slice bd ds.length dap, .func (.func 54) #[] #[]] w (RetK (meetL zs ds) (pairE zs ds) w) := by
  have HP := vPair_any w.heap.size ad bd cap dap zs ds w hI hD hl hm
  by_cases hp : pairE zs ds = 0
  · obtain ⟨hv, _, hle⟩ := pairE_ok hp
    obtain ⟨hlz, _⟩ := vcE_iff.1 hv
    rw [show meetL zs ds = fnL zs.length (fun i => min (gz zs i) (gz ds i)) by unfold meetL; rw [if_pos hp], hp]
    rw [hp] at HP
    obtain ⟨i1, ji, jz0, jz1, jz2⟩ := info_parts infoZ
    have HP := Lib.hid HP
    have HI := Lib.hid hI
    have HD := Lib.hid hD
    have HLE := Lib.hid hle
    clear hI hD hp hv hle
    go_enter Try.func51, Try.ntmps51
    go_wp2_with fail
    refine HP.out.mono ?_
    rintro e w4 ⟨rfl, rfl⟩
    go_wp2_with (at_make; refine wpList_make_full _ rfl (.tmp 18) (.tmp 18) 23 rfl w.heap.size TZ i1 (.int .i64 0) 1 Try.underlying23 ji jz0 jz1 .i64 .i64 _ _ zs.length rfl rfl rfl rfl (by rw [jz2]; omega) (by unfold maxLen; omega) (Nat.le_refl _) ?_)
    intro w1 ho1 hg1
    rw [made_zeros, ← upTo_zero (fun i => min (gz zs i) (gz ds i))] at ho1
    obtain ⟨G, hG⟩ : ∃ G, w.heap.size = G := ⟨_, rfl⟩
    have HR1 : Hid (RowZ G G zs.length (upTo 0 fun i => min (gz zs i) (gz ds i)) w1) := Lib.hid (by rw [← hG]; exact ho1)
    have HB1 : Hid (Below G w w1) := Lib.hid (by rw [← hG]; exact (Below.refl _ w).grown hg1 (Nat.le_refl _) (fun j hj => by cases hj))
    rw [hG] at HI HD ⊢
    have HG := Lib.hid hG
    clear ho1 hg1 hG
    go_wp2
    go_loopw [22] (fun i wr => ∃ k : Nat, k ≤ zs.length ∧ i = .int .i64 k ∧ Hid (RowZ G G zs.length (upTo k fun i => min (gz zs i) (gz ds i)) wr) ∧ Hid (Below G w wr)) (fun i _ => zs.length - (intOf i).toNat)
    case atStart => exact ⟨0, Nat.zero_le _, rfl, HR1, HB1⟩
    case round =>
      obtain ⟨k, hk, rfl, HR, HB⟩ := hrel
      by_cases hlt : k < zs.length
      · have k1 : (k : Int) < (zs.length : Int) := by omega
        have k2 : (k : Int) < (ds.length : Int) := by have := HLE.out; omega
        have k3 : (0 : Int) ≤ (k : Int) := by omega
        obtain ⟨b1, o1, rfl, hb1, q1⟩ := HI.out k hlt
        obtain ⟨b2, o2, rfl, hb2, q2⟩ := HD.out k (by have := HLE.out; omega)
        have q1 : wr.cell? ⟨b1, o1 + k, none⟩ = some (.int .i64 (gz zs k)) := (HB.out.cell (p := ⟨b1, o1 + k, none⟩) hb1).trans q1
        have q2 : wr.cell? ⟨b2, o2 + k, none⟩ = some (.int .i64 (gz ds k)) := (HB.out.cell (p := ⟨b2, o2 + k, none⟩) hb2).trans q2
        have q3 := HR.out.cell hlt
        have q4 := HR.out.free k
        obtain ⟨x, hx⟩ : ∃ x, gz zs k = x := ⟨_, rfl⟩
        obtain ⟨y, hy⟩ : ∃ y, gz ds k = y := ⟨_, rfl⟩
        rw [hx] at q1
        rw [hy] at q2
        have HXY : Hid ((fun i => min (gz zs i) (gz ds i)) k = min x y) := Lib.hid (by rw [← hx, ← hy])
        have HC : Hid (∀ W, Calls Try.prog 54 #[.int .i64 x, .int .i64 y] W fun e w' => e = .returned (.int .i64 (min x y)) ∧ w' = W) := Lib.hid (fun W => vMin_any x y W)
        clear hx hy
        go_wp2_with fail
        refine wp_region_still_tail 13 (by kernel_rfl) (by kernel_rfl) ?_
        obtain ⟨we, hwe⟩ : ∃ we, wr.drew = we := ⟨_, rfl⟩
        change wpStill _ _ wr.drew (fun a' => wpList _ _ _ _ a' wr.drew) _ _
        rw [hwe]
        have p1 : we.cell? ⟨b1, o1 + k, none⟩ = some (.int .i64 x) := by rw [← hwe]; exact q1
        have p2 : we.cell? ⟨b2, o2 + k, none⟩ = some (.int .i64 y) := by rw [← hwe]; exact q2
        have p3 : we.cell? ⟨G, k, none⟩ = some (.int .i64 (upTo k (fun i => min (gz zs i) (gz ds i)) k)) := by rw [← hwe]; exact q3
        have p4 : we.frozen? ⟨G, k, none⟩ = false := by rw [← hwe]; exact q4
        have HRe : Hid (RowZ G G zs.length (upTo k fun i => min (gz zs i) (gz ds i)) we) := Lib.hid (by rw [← hwe]; exact HR.out.drew)
        have HBe : Hid (Below G w we) := Lib.hid (by rw [← hwe]; exact HB.out.drew)
        clear hwe q1 q2 q3 q4
        simp only [List.take_succ_cons, List.take_zero, List.drop_succ_cons, List.drop_zero]
        repeat still_step
        still_call (HC.out _)
        repeat still_step
        refine wpStill_nil ?_
        have HS : Hid (RowZ G G zs.length (upTo (k + 1) fun i => min (gz zs i) (gz ds i)) (we.setCell ⟨G, k, none⟩ (.int .i64 (min x y)))) := Lib.hid (HRe.out.store k _ (by rw [upTo_here]; exact HXY.out) (fun i hi => upTo_else _ _ _ hi))
        have HBs : Hid (Below G w (we.setCell ⟨G, k, none⟩ (.int .i64 (min x y)))) := Lib.hid (HBe.out.setCell (p := ⟨G, k, none⟩) (Nat.le_refl _) _)
        go_wp2
        go_roundw
        case rel => exact ⟨k + 1, by omega, by go_num, HS, HBs⟩
        case measure => simp [intOf]; omega
      · obtain rfl : k = zs.length := by omega
        have HK := Lib.hid HR.out.upTo_all
        go_wp2
        go_ret2
        exact ⟨_, rfl, HK.out, by rw [HG.out]; exact HB.out⟩
  · rw [show meetL zs ds = [] by unfold meetL; rw [if_neg hp]]
    have hb : (pairE zs ds != 0) = true := by simpa using hp
    have HP := Lib.hid HP
    clear hI hD hp
    generalize pairE zs ds = x at *
    go_enter Try.func51, Try.ntmps51
    go_wp2_with fail
    refine HP.out.mono ?_
    rintro e w4 ⟨rfl, rfl⟩
    go_wp2
    go_ret2
    exact ⟨_, rfl, KlC.nil _ _ _, Below.refl _ _⟩

/-- Meet. -/
theorem vMeet_any (ad bd : Option Addr) (cap dap : Nat) (zs ds : List Int) (w : World) (hI : IntsA w.heap.size w ad zs) (hD : IntsA w.heap.size w bd ds) (hl : zs.length ≤ 9223372036854775807) (hm : ds.length ≤ 9223372036854775807) :
    Calls Try.prog 27 #[.slice ad zs.length cap, .slice bd ds.length dap] w (RetK (meetL zs ds) (pairE zs ds) w) := by
  have HC := Lib.hid (combineMeet_any ad bd cap dap zs ds w hI hD hl hm)
  clear hI hD
  go_enter Try.func27, Try.ntmps27
  go_wp2_with fail
  refine HC.out.mono ?_
  rintro e w4 ⟨v, rfl, hk, hb⟩
  have HK := Lib.hid hk
  clear hk
  go_wp2
  go_ret2
  exact ⟨_, rfl, HK.out, hb⟩

/-- New. -/
theorem vNew_any (n : Int) (w : World) : Calls Try.prog 12 #[.int .i64 n] w (RetK (newL n) (newE n) w) := by
  by_cases h0 : n < 0
  · rw [show newL n = [] by unfold newL; rw [if_pos (.inl h0)], show newE n = 2 by unfold newE; rw [if_pos (.inl h0)]]
    go_enter Try.func12, Try.ntmps12
    go_wp2
    go_ret2
    exact ⟨_, rfl, KlC.nil _ _ _, Below.refl _ _⟩
  · by_cases h1 : 32 < n
    · rw [show newL n = [] by unfold newL; rw [if_pos (.inr h1)], show newE n = 2 by unfold newE; rw [if_pos (.inr h1)]]
      go_enter Try.func12, Try.ntmps12
      go_wp2
      go_ret2
      exact ⟨_, rfl, KlC.nil _ _ _, Below.refl _ _⟩
    · obtain ⟨N, rfl⟩ : ∃ N : Nat, n = (N : Int) := ⟨n.toNat, by omega⟩
      rw [show newL (N : Int) = fnL N (fun _ => 0) by unfold newL; rw [if_neg (by omega), Int.toNat_natCast], show newE (N : Int) = 0 by unfold newE; rw [if_neg (by omega)]]
      obtain ⟨i1, ji, jz0, jz1, jz2⟩ := info_parts infoZ
      go_enter Try.func12, Try.ntmps12
      go_wp2_with (at_make; refine wpList_make_full _ rfl (.tmp 10) (.tmp 10) 23 rfl w.heap.size TZ i1 (.int .i64 0) 1 Try.underlying23 ji jz0 jz1 .i64 .i64 _ _ N rfl rfl rfl rfl (by rw [jz2]; omega) (by unfold maxLen; omega) (Nat.le_refl _) ?_)
      intro w1 ho1 hg1
      rw [made_zeros] at ho1
      have HR1 : Hid (RowZ w.heap.size w.heap.size N (fun _ => 0) w1) := Lib.hid ho1
      have HB1 : Hid (Below w.heap.size w w1) := Lib.hid ((Below.refl _ w).grown hg1 (Nat.le_refl _) (fun j hj => by cases hj))
      clear ho1 hg1
      go_wp2
      go_ret2
      exact ⟨_, rfl, HR1.out.known, HB1.out⟩

/-- The library's Clone. -/
theorem vClone_any (n₀ : Nat) (ad : Option Addr) (cap : Nat) (zs : List Int) (w : World) (hI : IntsA n₀ w ad zs) (hl : zs.length ≤ 100000) :
    Calls Try.prog 46 #[.slice ad zs.length cap] w fun e w' => ∃ v, e = .returned v ∧ OwnZ w.heap.size zs v w' ∧ Below w.heap.size w w' := by
  obtain ⟨i1, ji, jz0, jz1, jz2⟩ := info_parts infoZ
  have q22 : ∀ (w : World) (a : Option Addr) (n c n' c' : Nat), (binOp .eql 23 (.slice a n c) (.slice none n' c')).run Try.prog w = .ok (.bool a.isNone) w := fun w a n c n' c' => Lib.run_eql_slice_nil w _ _ a n c n' c' Try.underlying23
  cases ad with
  | none =>
    have hz : zs = [] := by
      cases zs with
      | nil => rfl
      | cons x xs =>
        obtain ⟨b, off, e, _⟩ := hI 0 (by simp)
        cases e
    subst hz
    clear hI
    go_enter Try.func46, Try.ntmps46
    go_wp2
    go_ret
    exact ⟨_, rfl, OwnZ.nil _ _, Below.refl _ _⟩
  | some q =>
    have hc : ∀ j u, (intV zs)[j]? = some u → (w.alloc (.cells #[] TZ)).cell? (q.add j) = some u := by
      intro j u hj
      have hlt : j < (intV zs).length := (List.getElem?_eq_some_iff.1 hj).1
      rw [intV_length] at hlt
      obtain ⟨b, off, e, _, h1⟩ := hI j hlt
      cases e
      rw [intV_get _ hlt] at hj
      cases hj
      rw [Addr.add_lit]
      exact Lib.cell?_alloc_some _ h1
    have HC := Lib.hid hc
    clear hc hI
    go_enter Try.func46, Try.ntmps46
    go_wp2_with (at_builtin; refine wpList_append_own _ rfl _ _ 23 rfl w.heap.size TZ i1 (.int .i64 0) 1 8 Try.underlying23 ji jz0 jz1 jz2 rfl (by decide) _ _ _ rfl (World.ownsRow_made w #[] 0 (Nat.le_refl _) (Nat.zero_le _) rfl) q zs.length cap (intV zs) rfl ?qc1 HC.out (intV_one _) ?qc4 ?qc5 ?qc6 ?_)
    case qc1 => rw [intV_length]; omega
    case qc4 => unfold maxLen; omega
    case qc5 => omega
    case qc6 => simp
    intro v' w1 hown hgrow hnil
    go_wp2
    go_ret
    refine ⟨v', rfl, ?_, ((Below.refl _ w).alloc (Nat.le_refl _) _).grown hgrow (by simp) (by intro k hk; simp [Value.ownBlock] at hk; omega)⟩
    unfold OwnZ
    simpa using hown

theorem tick_end {zs : List Int} {k : Nat} {B : Nat} {g cap : Nat} {w : World} (h : OwnZ B zs (.slice (some ⟨g, 0, none⟩) zs.length cap) w) (z : Int) : KlC (w.setCell ⟨g, k, none⟩ (.int .i64 z)) (.slice (some ⟨g, 0, none⟩) zs.length cap) (zs.set k z) := by
  have h1 := (World.ownsRow.stored h k (.int .i64 z)).1
  rw [intV_set] at h1
  refine OwnZ.known (B := B) ?_
  unfold OwnZ
  rw [List.length_set]
  exact h1
theorem OwnZ.cell {zs : List Int} {k : Nat} {B : Nat} {g cap : Nat} {w : World} (h : OwnZ B zs (.slice (some ⟨g, 0, none⟩) zs.length cap) w) (hk : k < zs.length) : w.cell? ⟨g, k, none⟩ = some (.int .i64 (gz zs k)) := by
  have h : w.ownsRow B TZ 1 (.slice (some ⟨g, 0, none⟩) zs.length cap) zs.length (intV zs) := h
  rw [World.ownsRow.cellAt h k (by omega), intV_get zs hk]

/-- Tick. -/
theorem vTick_any (ad : Option Addr) (cap : Nat) (zs : List Int) (i : Int) (w : World) (hI : IntsA w.heap.size w ad zs) (hl : zs.length ≤ 9223372036854775807) :
    Calls Try.prog 19 #[.slice ad zs.length cap, .int .i64 i] w (RetK (tickL zs i) (tickE zs i) w) := by
  have HC := vCheck_any w.heap.size ad cap zs w hI hl
  have HH := vHas_any ad zs.length cap i w
  by_cases hv : vcE zs = 0
  · rw [hv] at HC
    cases hb : inB zs.length i with
    | true =>
      obtain ⟨b1, b2⟩ := inB_iff.1 hb
      obtain ⟨k, rfl⟩ : ∃ k : Nat, i = (k : Int) := ⟨i.toNat, by omega⟩
      obtain ⟨hl32, hrng⟩ := vcE_iff.1 hv
      have hk : k < zs.length := by omega
      have hz := hrng k hk
      obtain ⟨b, off, rfl, hbb, q1⟩ := hI k hk
      change w.cell? ⟨b, off + k, none⟩ = some (.int .i64 (gz zs k)) at q1
      rw [hb] at HH
      have HC := Lib.hid HC
      have HH := Lib.hid HH
      by_cases hmax : gz zs k = 1099511627776
      · rw [show tickE zs (k : Int) = 14 by unfold tickE; rw [if_neg (by simp [hv]), hb, if_neg (by simp), Int.toNat_natCast, if_pos hmax], show tickL zs (k : Int) = [] by unfold tickL tickE; rw [if_neg (by simp [hv, hb, hmax])]]
        rw [hmax] at q1
        clear hI hv hb hrng hz hmax
        go_enter Try.func19, Try.ntmps19
        go_wp2_with fail
        refine HC.out.mono ?_
        rintro e w4 ⟨rfl, rfl⟩
        go_wp2_with fail
        refine HH.out.mono ?_
        rintro e w4 ⟨rfl, rfl⟩
        go_wp2
        go_ret2
        exact ⟨_, rfl, KlC.nil _ _ _, Below.refl _ _⟩
      · have ht0 : tickE zs (k : Int) = 0 := by unfold tickE; rw [if_neg (by simp [hv]), hb, if_neg (by simp), Int.toNat_natCast, if_neg hmax]
        rw [ht0, show tickL zs (k : Int) = zs.set k (gz zs k + 1) by unfold tickL; rw [if_pos ht0, Int.toNat_natCast]]
        have HCL := Lib.hid (vClone_any w.heap.size (some ⟨b, off, none⟩) cap zs w hI (by omega))
        obtain ⟨z, hzz⟩ : ∃ z, gz zs k = z := ⟨_, rfl⟩
        have HZ := Lib.hid hzz
        rw [hzz] at q1 hmax hz ⊢
        have hz1 : (z == 1099511627776) = false := by simpa using hmax
        have hz2 : IntKind.i64.wrap (z + 1) = z + 1 := IntWalk.i64_in _ (by omega)
        clear hI hv hb hrng hmax hzz ht0
        go_enter Try.func19, Try.ntmps19
        go_wp2_with fail
        refine HC.out.mono ?_
        rintro e w4 ⟨rfl, rfl⟩
        go_wp2_with fail
        refine HH.out.mono ?_
        rintro e w4 ⟨rfl, rfl⟩
        go_wp2_with fail
        refine HCL.out.mono ?_
        rintro e w4 ⟨v, rfl, ho, hb4⟩
        obtain ⟨g, c, rfl, hg⟩ := ownZ_some (show w4.ownsRow w.heap.size TZ 1 v zs.length (intV zs) from ho) (by omega)
        have r1 := ho.cell hk
        rw [HZ.out] at r1
        have r2 : w4.frozen? ⟨g, k, none⟩ = false := World.ownsRow.frozenAt ho k
        have HKK : Hid (KlC (w4.setCell ⟨g, k, none⟩ (.int .i64 (z + 1))) (.slice (some ⟨g, 0, none⟩) zs.length c) (zs.set k (z + 1))) := Lib.hid (tick_end ho (z + 1))
        have HB4 : Hid (Below w.heap.size w (w4.setCell ⟨g, k, none⟩ (.int .i64 (z + 1)))) := Lib.hid (hb4.setCell (p := ⟨g, k, none⟩) hg _)
        have k1 : (k : Int) < (zs.length : Int) := by omega
        clear ho hb4 hz
        go_wp2
        go_ret2
        exact ⟨_, rfl, HKK.out, HB4.out⟩
    | false =>
      rw [show tickE zs i = 2 by unfold tickE; rw [if_neg (by simp [hv]), if_pos hb], show tickL zs i = [] by unfold tickL tickE; rw [if_neg (by simp [hv, hb])]]
      rw [hb] at HH
      have HC := Lib.hid HC
      have HH := Lib.hid HH
      clear hI hv hb
      go_enter Try.func19, Try.ntmps19
      go_wp2_with fail
      refine HC.out.mono ?_
      rintro e w4 ⟨rfl, rfl⟩
      go_wp2_with fail
      refine HH.out.mono ?_
      rintro e w4 ⟨rfl, rfl⟩
      go_wp2
      go_ret2
      exact ⟨_, rfl, KlC.nil _ _ _, Below.refl _ _⟩
  · rw [show tickE zs i = 1 by unfold tickE; rw [if_pos hv], show tickL zs i = [] by unfold tickL tickE; rw [if_neg (by rw [if_pos hv]; decide)]]
    have hb : (vcE zs != 0) = true := by simpa using hv
    have HC := Lib.hid HC
    clear hI hv HH
    generalize vcE zs = x at *
    go_enter Try.func19, Try.ntmps19
    go_wp2_with fail
    refine HC.out.mono ?_
    rintro e w4 ⟨rfl, rfl⟩
    go_wp2
    go_ret2
    exact ⟨_, rfl, KlC.nil _ _ _, Below.refl _ _⟩

end Go.Proofs.Ytpkmdonejmbnoaa
