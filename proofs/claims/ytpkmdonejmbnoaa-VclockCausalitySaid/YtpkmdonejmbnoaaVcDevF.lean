/-
  The results of Join and Meet lie in blocks of their own.
-/
import Derived.Test.YtpkmdonejmbnoaaVcDevB
namespace Go.Proofs.Ytpkmdonejmbnoaa
open Go.RowKit

/-- A slice value that leads to these integers, in a block that φ allows. -/
def KlP (φ : Nat → Prop) (w : World) (v : Value) (zs : List Int) : Prop := ∃ a c, v = .slice a zs.length c ∧ (∀ j, j < zs.length → ∃ b off, a = some ⟨b, off, none⟩ ∧ φ b ∧ b < w.heap.size ∧ w.cell? ⟨b, off + j, none⟩ = some (.int .i64 (gz zs j))) ∧ zs.length ≤ 9223372036854775807
theorem KlP.known {φ : Nat → Prop} {w : World} {v : Value} {zs : List Int} (h : KlP φ w v zs) : KlC w v zs := by
  obtain ⟨a, c, e, h1, h2⟩ := h
  refine ⟨a, c, e, fun j hj => ?_, h2⟩
  obtain ⟨b, off, e1, _, e3, e4⟩ := h1 j hj
  exact ⟨b, off, e1, e3, e4⟩
theorem KlP.mono {φ ψ : Nat → Prop} {w : World} {v : Value} {zs : List Int} (h : KlP φ w v zs) (hp : ∀ b, b < w.heap.size → φ b → ψ b) : KlP ψ w v zs := by
  obtain ⟨a, c, e, h1, h2⟩ := h
  refine ⟨a, c, e, fun j hj => ?_, h2⟩
  obtain ⟨b, off, e1, e2, e3, e4⟩ := h1 j hj
  exact ⟨b, off, e1, hp b e3 e2, e3, e4⟩
/-- Steps that turn no block that φ allows. -/
theorem KlP.keep {φ : Nat → Prop} {w w' : World} {v : Value} {zs : List Int} (h : KlP φ w v zs) (hs : w.heap.size ≤ w'.heap.size) (hk : ∀ b, b < w.heap.size → φ b → w'.heap[b]? = w.heap[b]?) : KlP φ w' v zs := by
  obtain ⟨a, c, e, h1, h2⟩ := h
  refine ⟨a, c, e, fun j hj => ?_, h2⟩
  obtain ⟨b, off, e1, e2, e3, e4⟩ := h1 j hj
  exact ⟨b, off, e1, e2, by omega, (World.cell?_of_block (hk b e3 e2)).trans e4⟩
theorem KlP.below {φ : Nat → Prop} {w w' : World} {v : Value} {zs : List Int} (h : KlP φ w v zs) (hb : Below w.heap.size w w') : KlP φ w' v zs := h.keep hb.size (fun b hb' _ => hb.block b hb')
theorem KlC.all {w : World} {v : Value} {zs : List Int} (h : KlC w v zs) : KlP (fun b => b < w.heap.size) w v zs := by
  obtain ⟨a, c, e, h1, h2⟩ := h
  refine ⟨a, c, e, fun j hj => ?_, h2⟩
  obtain ⟨b, off, e1, e3, e4⟩ := h1 j hj
  exact ⟨b, off, e1, e3, e3, e4⟩
def KlF (n : Nat) (w : World) (v : Value) (zs : List Int) : Prop := KlP (fun b => n ≤ b) w v zs
theorem KlF.nil (n : Nat) (w : World) (a : Option Addr) (c : Nat) : KlF n w (.slice a 0 c) [] := ⟨a, c, rfl, fun j hj => by simp at hj, by simp⟩
theorem OwnZ.fresh {B : Nat} {zs : List Int} {v : Value} {w : World} (h : OwnZ B zs v w) : KlF B w v zs := by
  have h : w.ownsRow B TZ 1 v zs.length (intV zs) := h
  obtain ⟨a, c, rfl, h1, h2⟩ := ownZ_slice h
  refine ⟨a, c, rfl, fun j hj => ?_, by omega⟩
  obtain ⟨g, cap, e, hB⟩ := ownZ_some h (by omega)
  injection e with e1 e2 e3
  subst e1
  refine ⟨g, 0, rfl, hB, (World.ownsRow.lt h g rfl).2, ?_⟩
  rw [Nat.zero_add, World.ownsRow.cellAt h j (by omega), intV_get zs hj]
theorem RowZ.upTo_allF {B G L : Nat} {f : Nat → Int} {w : World} (h : RowZ B G L (upTo L f) w) : KlF B w (.slice (some ⟨G, 0, none⟩) L L) (fnL L f) := by
  have h2 : KlF B w (.slice (some ⟨G, 0, none⟩) L L) (fnL L (upTo L f)) := by
    refine OwnZ.fresh (B := B) ?_
    unfold OwnZ
    rw [fnL_length]
    exact h
  rwa [fnL_upTo] at h2
/-- A call that returns integers in a block of its own and an error. -/
def RetF (zs : List Int) (x : Int) (w : World) (e : Ending) (w' : World) : Prop := ∃ v, e = .returned (.tuple #[v, .int .i64 x]) ∧ KlF w.heap.size w' v zs ∧ Below w.heap.size w w'

set_option maxRecDepth 100000 in
set_option maxHeartbeats 2000000 in
theorem combineJoinF (ad bd : Option Addr) (cap dap : Nat) (zs ds : List Int) (w : World) (hI : IntsA w.heap.size w ad zs) (hD : IntsA w.heap.size w bd ds) (hl : zs.length ≤ 9223372036854775807) (hm : ds.length ≤ 9223372036854775807) :
    Calls Try.prog 51 #[.slice ad zs.length cap, .slice bd ds.length dap, .func (.func 52) #[] #[]] w (RetF (joinL zs ds) (pairE zs ds) w) := by
  have HP := vPair_any w.heap.size ad bd cap dap zs ds w hI hD hl hm
  by_cases hp : pairE zs ds = 0
  · obtain ⟨hv, _, hle⟩ := pairE_ok hp
    obtain ⟨hlz, _⟩ := vcE_iff.1 hv
    rw [show joinL zs ds = fnL zs.length (fun i => max (gz zs i) (gz ds i)) by unfold joinL; rw [if_pos hp], hp]
    rw [hp] at HP
    obtain ⟨i1, ji, jz0, jz1, jz2⟩ := info_parts infoZ
    have HP := Lib.hid HP
    have HI := Lib.hid hI
    have HD := Lib.hid hD
    have HLE := Lib.hid hle
    clear hI hD hp hv hle
    go_enter Try.func51, Try.ntmps51
    go_wp2_with fail
    refine HP.out.mono ?_
    rintro e w4 ⟨rfl, rfl⟩
    go_wp2_with (at_make; refine wpList_make_full _ rfl (.tmp 18) (.tmp 18) 23 rfl w.heap.size TZ i1 (.int .i64 0) 1 Try.underlying23 ji jz0 jz1 .i64 .i64 _ _ zs.length rfl rfl rfl rfl (by rw [jz2]; omega) (by unfold maxLen; omega) (Nat.le_refl _) ?_)
    intro w1 ho1 hg1
    rw [made_zeros, ← upTo_zero (fun i => max (gz zs i) (gz ds i))] at ho1
    obtain ⟨G, hG⟩ : ∃ G, w.heap.size = G := ⟨_, rfl⟩
    have HR1 : Hid (RowZ G G zs.length (upTo 0 fun i => max (gz zs i) (gz ds i)) w1) := Lib.hid (by rw [← hG]; exact ho1)
    have HB1 : Hid (Below G w w1) := Lib.hid (by rw [← hG]; exact (Below.refl _ w).grown hg1 (Nat.le_refl _) (fun j hj => by cases hj))
    rw [hG] at HI HD ⊢
    have HG := Lib.hid hG
    clear ho1 hg1 hG
    go_wp2
    go_loopw [22] (fun i wr => ∃ k : Nat, k ≤ zs.length ∧ i = .int .i64 k ∧ Hid (RowZ G G zs.length (upTo k fun i => max (gz zs i) (gz ds i)) wr) ∧ Hid (Below G w wr)) (fun i _ => zs.length - (intOf i).toNat)
    case atStart => exact ⟨0, Nat.zero_le _, rfl, HR1, HB1⟩
    case round =>
      obtain ⟨k, hk, rfl, HR, HB⟩ := hrel
      by_cases hlt : k < zs.length
      · have k1 : (k : Int) < (zs.length : Int) := by omega
        have k2 : (k : Int) < (ds.length : Int) := by have := HLE.out; omega
        have k3 : (0 : Int) ≤ (k : Int) := by omega
        obtain ⟨b1, o1, rfl, hb1, q1⟩ := HI.out k hlt
        obtain ⟨b2, o2, rfl, hb2, q2⟩ := HD.out k (by have := HLE.out; omega)
        have q1 : wr.cell? ⟨b1, o1 + k, none⟩ = some (.int .i64 (gz zs k)) := (HB.out.cell (p := ⟨b1, o1 + k, none⟩) hb1).trans q1
        have q2 : wr.cell? ⟨b2, o2 + k, none⟩ = some (.int .i64 (gz ds k)) := (HB.out.cell (p := ⟨b2, o2 + k, none⟩) hb2).trans q2
        have q3 := HR.out.cell hlt
        have q4 := HR.out.free k
        obtain ⟨x, hx⟩ : ∃ x, gz zs k = x := ⟨_, rfl⟩
        obtain ⟨y, hy⟩ : ∃ y, gz ds k = y := ⟨_, rfl⟩
        rw [hx] at q1
        rw [hy] at q2
        have HXY : Hid ((fun i => max (gz zs i) (gz ds i)) k = max x y) := Lib.hid (by rw [← hx, ← hy])
        have HC : Hid (∀ W, Calls Try.prog 52 #[.int .i64 x, .int .i64 y] W fun e w' => e = .returned (.int .i64 (max x y)) ∧ w' = W) := Lib.hid (fun W => vMax_any x y W)
        clear hx hy
        go_wp2_with fail
        refine wp_region_still_tail 13 (by kernel_rfl) (by kernel_rfl) ?_
        obtain ⟨we, hwe⟩ : ∃ we, wr.drew = we := ⟨_, rfl⟩
        change wpStill _ _ wr.drew (fun a' => wpList _ _ _ _ a' wr.drew) _ _
        rw [hwe]
        have p1 : we.cell? ⟨b1, o1 + k, none⟩ = some (.int .i64 x) := by rw [← hwe]; exact q1
        have p2 : we.cell? ⟨b2, o2 + k, none⟩ = some (.int .i64 y) := by rw [← hwe]; exact q2
        have p3 : we.cell? ⟨G, k, none⟩ = some (.int .i64 (upTo k (fun i => max (gz zs i) (gz ds i)) k)) := by rw [← hwe]; exact q3
        have p4 : we.frozen? ⟨G, k, none⟩ = false := by rw [← hwe]; exact q4
        have HRe : Hid (RowZ G G zs.length (upTo k fun i => max (gz zs i) (gz ds i)) we) := Lib.hid (by rw [← hwe]; exact HR.out.drew)
        have HBe : Hid (Below G w we) := Lib.hid (by rw [← hwe]; exact HB.out.drew)
        clear hwe q1 q2 q3 q4
        simp only [List.take_succ_cons, List.take_zero, List.drop_succ_cons, List.drop_zero]
        repeat still_step
        still_call (HC.out _)
        repeat still_step
        refine wpStill_nil ?_
        have HS : Hid (RowZ G G zs.length (upTo (k + 1) fun i => max (gz zs i) (gz ds i)) (we.setCell ⟨G, k, none⟩ (.int .i64 (max x y)))) := Lib.hid (HRe.out.store k _ (by rw [upTo_here]; exact HXY.out) (fun i hi => upTo_else _ _ _ hi))
        have HBs : Hid (Below G w (we.setCell ⟨G, k, none⟩ (.int .i64 (max x y)))) := Lib.hid (HBe.out.setCell (p := ⟨G, k, none⟩) (Nat.le_refl _) _)
        go_wp2
        go_roundw
        case rel => exact ⟨k + 1, by omega, by go_num, HS, HBs⟩
        case measure => simp [intOf]; omega
      · obtain rfl : k = zs.length := by omega
        have HK := Lib.hid HR.out.upTo_allF
        go_wp2
        go_ret2
        exact ⟨_, rfl, by rw [HG.out]; exact HK.out, by rw [HG.out]; exact HB.out⟩
  · rw [show joinL zs ds = [] by unfold joinL; rw [if_neg hp]]
    have hb : (pairE zs ds != 0) = true := by simpa using hp
    have HP := Lib.hid HP
    clear hI hD hp
    generalize pairE zs ds = x at *
    go_enter Try.func51, Try.ntmps51
    go_wp2_with fail
    refine HP.out.mono ?_
    rintro e w4 ⟨rfl, rfl⟩
    go_wp2
    go_ret2
    exact ⟨_, rfl, KlF.nil _ _ _ _, Below.refl _ _⟩

theorem vJoinF (ad bd : Option Addr) (cap dap : Nat) (zs ds : List Int) (w : World) (hI : IntsA w.heap.size w ad zs) (hD : IntsA w.heap.size w bd ds) (hl : zs.length ≤ 9223372036854775807) (hm : ds.length ≤ 9223372036854775807) :
    Calls Try.prog 25 #[.slice ad zs.length cap, .slice bd ds.length dap] w (RetF (joinL zs ds) (pairE zs ds) w) := by
  have HC := Lib.hid (combineJoinF ad bd cap dap zs ds w hI hD hl hm)
  clear hI hD
  go_enter Try.func25, Try.ntmps25
  go_wp2_with fail
  refine HC.out.mono ?_
  rintro e w4 ⟨v, rfl, hk, hb⟩
  have HK := Lib.hid hk
  clear hk
  go_wp2
  go_ret2
  exact ⟨_, rfl, HK.out, hb⟩
set_option maxRecDepth 100000 in
set_option maxHeartbeats 2000000 in
theorem combineMeetF (ad bd : Option Addr) (cap dap : Nat) (zs ds : List Int) (w : World) (hI : IntsA w.heap.size w ad zs) (hD : IntsA w.heap.size w bd ds) (hl : zs.length ≤ 9223372036854775807) (hm : ds.length ≤ 9223372036854775807) :
    Calls Try.prog 51 #[.slice ad zs.length cap, .slice bd ds.length dap, .func (.func 54) #[] #[]] w (RetF (meetL zs ds) (pairE zs ds) w) := by
  have HP := vPair_any w.heap.size ad bd cap dap zs ds w hI hD hl hm
  by_cases hp : pairE zs ds = 0
  · obtain ⟨hv, _, hle⟩ := pairE_ok hp
    obtain ⟨hlz, _⟩ := vcE_iff.1 hv
    rw [show meetL zs ds = fnL zs.length (fun i => min (gz zs i) (gz ds i)) by unfold meetL; rw [if_pos hp], hp]
    rw [hp] at HP
    obtain ⟨i1, ji, jz0, jz1, jz2⟩ := info_parts infoZ
    have HP := Lib.hid HP
    have HI := Lib.hid hI
    have HD := Lib.hid hD
    have HLE := Lib.hid hle
    clear hI hD hp hv hle
    go_enter Try.func51, Try.ntmps51
    go_wp2_with fail
    refine HP.out.mono ?_
    rintro e w4 ⟨rfl, rfl⟩
    go_wp2_with (at_make; refine wpList_make_full _ rfl (.tmp 18) (.tmp 18) 23 rfl w.heap.size TZ i1 (.int .i64 0) 1 Try.underlying23 ji jz0 jz1 .i64 .i64 _ _ zs.length rfl rfl rfl rfl (by rw [jz2]; omega) (by unfold maxLen; omega) (Nat.le_refl _) ?_)
    intro w1 ho1 hg1
    rw [made_zeros, ← upTo_zero (fun i => min (gz zs i) (gz ds i))] at ho1
    obtain ⟨G, hG⟩ : ∃ G, w.heap.size = G := ⟨_, rfl⟩
    have HR1 : Hid (RowZ G G zs.length (upTo 0 fun i => min (gz zs i) (gz ds i)) w1) := Lib.hid (by rw [← hG]; exact ho1)
    have HB1 : Hid (Below G w w1) := Lib.hid (by rw [← hG]; exact (Below.refl _ w).grown hg1 (Nat.le_refl _) (fun j hj => by cases hj))
    rw [hG] at HI HD ⊢
    have HG := Lib.hid hG
    clear ho1 hg1 hG
    go_wp2
    go_loopw [22] (fun i wr => ∃ k : Nat, k ≤ zs.length ∧ i = .int .i64 k ∧ Hid (RowZ G G zs.length (upTo k fun i => min (gz zs i) (gz ds i)) wr) ∧ Hid (Below G w wr)) (fun i _ => zs.length - (intOf i).toNat)
    case atStart => exact ⟨0, Nat.zero_le _, rfl, HR1, HB1⟩
    case round =>
      obtain ⟨k, hk, rfl, HR, HB⟩ := hrel
      by_cases hlt : k < zs.length
      · have k1 : (k : Int) < (zs.length : Int) := by omega
        have k2 : (k : Int) < (ds.length : Int) := by have := HLE.out; omega
        have k3 : (0 : Int) ≤ (k : Int) := by omega
        obtain ⟨b1, o1, rfl, hb1, q1⟩ := HI.out k hlt
        obtain ⟨b2, o2, rfl, hb2, q2⟩ := HD.out k (by have := HLE.out; omega)
        have q1 : wr.cell? ⟨b1, o1 + k, none⟩ = some (.int .i64 (gz zs k)) := (HB.out.cell (p := ⟨b1, o1 + k, none⟩) hb1).trans q1
        have q2 : wr.cell? ⟨b2, o2 + k, none⟩ = some (.int .i64 (gz ds k)) := (HB.out.cell (p := ⟨b2, o2 + k, none⟩) hb2).trans q2
        have q3 := HR.out.cell hlt
        have q4 := HR.out.free k
        obtain ⟨x, hx⟩ : ∃ x, gz zs k = x := ⟨_, rfl⟩
        obtain ⟨y, hy⟩ : ∃ y, gz ds k = y := ⟨_, rfl⟩
        rw [hx] at q1
        rw [hy] at q2
        have HXY : Hid ((fun i => min (gz zs i) (gz ds i)) k = min x y) := Lib.hid (by rw [← hx, ← hy])
        have HC : Hid (∀ W, Calls Try.prog 54 #[.int .i64 x, .int .i64 y] W fun e w' => e = .returned (.int .i64 (min x y)) ∧ w' = W) := Lib.hid (fun W => vMin_any x y W)
        clear hx hy
        go_wp2_with fail
        refine wp_region_still_tail 13 (by kernel_rfl) (by kernel_rfl) ?_
        obtain ⟨we, hwe⟩ : ∃ we, wr.drew = we := ⟨_, rfl⟩
        change wpStill _ _ wr.drew (fun a' => wpList _ _ _ _ a' wr.drew) _ _
        rw [hwe]
        have p1 : we.cell? ⟨b1, o1 + k, none⟩ = some (.int .i64 x) := by rw [← hwe]; exact q1
        have p2 : we.cell? ⟨b2, o2 + k, none⟩ = some (.int .i64 y) := by rw [← hwe]; exact q2
        have p3 : we.cell? ⟨G, k, none⟩ = some (.int .i64 (upTo k (fun i => min (gz zs i) (gz ds i)) k)) := by rw [← hwe]; exact q3
        have p4 : we.frozen? ⟨G, k, none⟩ = false := by rw [← hwe]; exact q4
        have HRe : Hid (RowZ G G zs.length (upTo k fun i => min (gz zs i) (gz ds i)) we) := Lib.hid (by rw [← hwe]; exact HR.out.drew)
        have HBe : Hid (Below G w we) := Lib.hid (by rw [← hwe]; exact HB.out.drew)
        clear hwe q1 q2 q3 q4
        simp only [List.take_succ_cons, List.take_zero, List.drop_succ_cons, List.drop_zero]
        repeat still_step
        still_call (HC.out _)
        repeat still_step
        refine wpStill_nil ?_
        have HS : Hid (RowZ G G zs.length (upTo (k + 1) fun i => min (gz zs i) (gz ds i)) (we.setCell ⟨G, k, none⟩ (.int .i64 (min x y)))) := Lib.hid (HRe.out.store k _ (by rw [upTo_here]; exact HXY.out) (fun i hi => upTo_else _ _ _ hi))
        have HBs : Hid (Below G w (we.setCell ⟨G, k, none⟩ (.int .i64 (min x y)))) := Lib.hid (HBe.out.setCell (p := ⟨G, k, none⟩) (Nat.le_refl _) _)
        go_wp2
        go_roundw
        case rel => exact ⟨k + 1, by omega, by go_num, HS, HBs⟩
        case measure => simp [intOf]; omega
      · obtain rfl : k = zs.length := by omega
        have HK := Lib.hid HR.out.upTo_allF
        go_wp2
        go_ret2
        exact ⟨_, rfl, by rw [HG.out]; exact HK.out, by rw [HG.out]; exact HB.out⟩
  · rw [show meetL zs ds = [] by unfold meetL; rw [if_neg hp]]
    have hb : (pairE zs ds != 0) = true := by simpa using hp
    have HP := Lib.hid HP
    clear hI hD hp
    generalize pairE zs ds = x at *
    go_enter Try.func51, Try.ntmps51
    go_wp2_with fail
    refine HP.out.mono ?_
    rintro e w4 ⟨rfl, rfl⟩
    go_wp2
    go_ret2
    exact ⟨_, rfl, KlF.nil _ _ _ _, Below.refl _ _⟩

theorem vMeetF (ad bd : Option Addr) (cap dap : Nat) (zs ds : List Int) (w : World) (hI : IntsA w.heap.size w ad zs) (hD : IntsA w.heap.size w bd ds) (hl : zs.length ≤ 9223372036854775807) (hm : ds.length ≤ 9223372036854775807) :
    Calls Try.prog 27 #[.slice ad zs.length cap, .slice bd ds.length dap] w (RetF (meetL zs ds) (pairE zs ds) w) := by
  have HC := Lib.hid (combineMeetF ad bd cap dap zs ds w hI hD hl hm)
  clear hI hD
  go_enter Try.func27, Try.ntmps27
  go_wp2_with fail
  refine HC.out.mono ?_
  rintro e w4 ⟨v, rfl, hk, hb⟩
  have HK := Lib.hid hk
  clear hk
  go_wp2
  go_ret2
  exact ⟨_, rfl, HK.out, hb⟩

end Go.Proofs.Ytpkmdonejmbnoaa
