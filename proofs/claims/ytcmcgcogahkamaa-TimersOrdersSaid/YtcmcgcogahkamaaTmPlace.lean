/-
  What the program's isOf, isBehind and place of timers return, by the library's Search.
-/
import Derived.Test.YtcmcgcogahkamaaTmCmp
namespace Go.Proofs.Ytcmcgcogahkamaa
open Go.RowKit

/-- Two boxed values that stay as they are. -/
theorem keepK {B b b' : Nat} {u0 u1 v0 v1 v2 : Value} {w w' w'' : World} (h : w'.cell? ⟨b, 0, none⟩ = some u0 ∧ w'.cell? ⟨b, 1, none⟩ = some u1 ∧ w'.cell? ⟨b', 0, none⟩ = some v0 ∧ w'.cell? ⟨b', 1, none⟩ = some v1 ∧ w'.cell? ⟨b', 2, none⟩ = some v2 ∧ Below B w w' ∧ B ≤ w'.heap.size ∧ b < w'.heap.size ∧ b' < w'.heap.size) (hb : Below w'.heap.size w' w'') :
    w''.cell? ⟨b, 0, none⟩ = some u0 ∧ w''.cell? ⟨b, 1, none⟩ = some u1 ∧ w''.cell? ⟨b', 0, none⟩ = some v0 ∧ w''.cell? ⟨b', 1, none⟩ = some v1 ∧ w''.cell? ⟨b', 2, none⟩ = some v2 ∧ Below B w w'' ∧ B ≤ w''.heap.size ∧ b < w''.heap.size ∧ b' < w''.heap.size := by
  obtain ⟨h0, h1, h2, h3, h4, h5, h6, h7, h8⟩ := h
  have hs := hb.size
  exact ⟨(hb.cell (p := ⟨b, 0, none⟩) h7).trans h0, (hb.cell (p := ⟨b, 1, none⟩) h7).trans h1, (hb.cell (p := ⟨b', 0, none⟩) h8).trans h2, (hb.cell (p := ⟨b', 1, none⟩) h8).trans h3, (hb.cell (p := ⟨b', 2, none⟩) h8).trans h4, h5.trans (hb.mono h6), by omega, by omega, by omega⟩
theorem keepK_below {B b b' : Nat} {u0 u1 v0 v1 v2 : Value} {w w' : World} (h : w'.cell? ⟨b, 0, none⟩ = some u0 ∧ w'.cell? ⟨b, 1, none⟩ = some u1 ∧ w'.cell? ⟨b', 0, none⟩ = some v0 ∧ w'.cell? ⟨b', 1, none⟩ = some v1 ∧ w'.cell? ⟨b', 2, none⟩ = some v2 ∧ Below B w w' ∧ B ≤ w'.heap.size ∧ b < w'.heap.size ∧ b' < w'.heap.size) : Below B w w' := h.2.2.2.2.2.1
theorem key_boxes (w : World) (k i x y z : Int) : ((w.alloc (.cells #[.int .i64 k, .int .i64 i] TK)).alloc (.cells #[.int .i64 x, .int .i64 y, .int .i64 z] TT)).drew.cell? ⟨w.heap.size, 0, none⟩ = some (.int .i64 k) ∧ ((w.alloc (.cells #[.int .i64 k, .int .i64 i] TK)).alloc (.cells #[.int .i64 x, .int .i64 y, .int .i64 z] TT)).drew.cell? ⟨w.heap.size, 1, none⟩ = some (.int .i64 i) ∧
    ((w.alloc (.cells #[.int .i64 k, .int .i64 i] TK)).alloc (.cells #[.int .i64 x, .int .i64 y, .int .i64 z] TT)).drew.cell? ⟨w.heap.size + 1, 0, none⟩ = some (.int .i64 x) ∧ ((w.alloc (.cells #[.int .i64 k, .int .i64 i] TK)).alloc (.cells #[.int .i64 x, .int .i64 y, .int .i64 z] TT)).drew.cell? ⟨w.heap.size + 1, 1, none⟩ = some (.int .i64 y) ∧ ((w.alloc (.cells #[.int .i64 k, .int .i64 i] TK)).alloc (.cells #[.int .i64 x, .int .i64 y, .int .i64 z] TT)).drew.cell? ⟨w.heap.size + 1, 2, none⟩ = some (.int .i64 z) ∧
    Below w.heap.size w ((w.alloc (.cells #[.int .i64 k, .int .i64 i] TK)).alloc (.cells #[.int .i64 x, .int .i64 y, .int .i64 z] TT)).drew ∧ w.heap.size ≤ ((w.alloc (.cells #[.int .i64 k, .int .i64 i] TK)).alloc (.cells #[.int .i64 x, .int .i64 y, .int .i64 z] TT)).drew.heap.size ∧ w.heap.size < ((w.alloc (.cells #[.int .i64 k, .int .i64 i] TK)).alloc (.cells #[.int .i64 x, .int .i64 y, .int .i64 z] TT)).drew.heap.size ∧ w.heap.size + 1 < ((w.alloc (.cells #[.int .i64 k, .int .i64 i] TK)).alloc (.cells #[.int .i64 x, .int .i64 y, .int .i64 z] TT)).drew.heap.size := by
  refine ⟨?_, ?_, ?_, ?_, ?_, (((Below.refl _ w).alloc (Nat.le_refl _) _).alloc (by simp) _).drew, by simp; omega, by simp; omega, by simp⟩ <;> go_simp

set_option maxHeartbeats 1000000 in
/-- isOf. -/
theorem tIsOf_any (k i a b c : Int) (w : World) : Calls Try.prog 46 #[.agg #[.int .i64 k, .int .i64 i], tmA (a, b, c)] w fun e w' => e = .returned (.bool (keyB (a, b, c) k i)) ∧ Below w.heap.size w w' := by
  have HK : Hid (∀ W, Calls Try.prog 39 #[.agg #[.int .i64 a, .int .i64 b, .int .i64 c]] W fun e w' => e = .returned (.agg #[.int .i64 b, .int .i64 c]) ∧ Below W.heap.size W w') := Lib.hid (fun W => tKeyOf_any a b c W)
  have hq := run_eqK b c k i
  have hbx := Lib.hid (key_boxes w k i a b c)
  obtain ⟨r, hr⟩ : ∃ r, (b == k && c == i) = r := ⟨_, rfl⟩
  have HR : Hid (keyB (a, b, c) k i = r) := Lib.hid hr
  simp only [hr] at hq
  rw [HR.out]
  clear hr
  unfold tmA encT
  dsimp only
  go_enter Try.func46, Try.ntmps46
  go_wp2_with fail
  go_region_held3 (fun w' => w'.cell? ⟨w.heap.size, 0, none⟩ = some (.int .i64 k) ∧ w'.cell? ⟨w.heap.size, 1, none⟩ = some (.int .i64 i) ∧ w'.cell? ⟨w.heap.size + 1, 0, none⟩ = some (.int .i64 a) ∧ w'.cell? ⟨w.heap.size + 1, 1, none⟩ = some (.int .i64 b) ∧ w'.cell? ⟨w.heap.size + 1, 2, none⟩ = some (.int .i64 c) ∧ Below w.heap.size w w' ∧ w.heap.size ≤ w'.heap.size ∧ w.heap.size < w'.heap.size ∧ w.heap.size + 1 < w'.heap.size)
    (first | exact hbx.out | exact keepK (by assumption) (by assumption))
    (first | (go_at_call 39; refine (HK.out _).mono ?_; rintro e w4 ⟨rfl, b4⟩))
  all_goals
    have hb5 : Below w.heap.size w w4 := keepK_below (by assumption)
    go_wp2
    go_ret
    exact ⟨rfl, hb5⟩

theorem q_boxes (w : World) (v : Value) (a b c : Int) : (w.alloc (.cells #[v, .int .i64 a, .int .i64 b, .int .i64 c] 57)).drew.cell? ⟨w.heap.size, 0, none⟩ = some v ∧ (w.alloc (.cells #[v, .int .i64 a, .int .i64 b, .int .i64 c] 57)).drew.cell? ⟨w.heap.size, 1, none⟩ = some (.int .i64 a) ∧ (w.alloc (.cells #[v, .int .i64 a, .int .i64 b, .int .i64 c] 57)).drew.cell? ⟨w.heap.size, 2, none⟩ = some (.int .i64 b) ∧ (w.alloc (.cells #[v, .int .i64 a, .int .i64 b, .int .i64 c] 57)).drew.cell? ⟨w.heap.size, 3, none⟩ = some (.int .i64 c) := by
  refine ⟨?_, ?_, ?_, ?_⟩ <;> go_simp

set_option maxHeartbeats 1000000 in
/-- isBehind. -/
theorem tBehind_any (φ : Nat → Prop) (ad : Option Addr) (cap : Nat) (ts : List Tm) (a b c : Int) (j : Nat) (w : World) (hA : TmA φ w ad ts) (hj : j < ts.length) :
    Calls Try.prog 58 #[.agg #[.slice ad ts.length cap, .int .i64 a, .int .i64 b, .int .i64 c], .int .i64 (j : Int)] w fun e w' => e = .returned (.bool (lesB (a, b, c) (gt ts j))) ∧ Below w.heap.size w w' := by
  obtain ⟨bk, off, rfl, _, hbk, c0, c1, c2⟩ := hA j hj
  obtain ⟨⟨x, y, z⟩, ht⟩ : ∃ t, gt ts j = t := ⟨_, rfl⟩
  rw [ht] at c0 c1 c2 ⊢
  simp only [] at c0 c1 c2
  have HC : Hid (∀ W, Calls Try.prog 45 #[.agg #[.int .i64 x, .int .i64 y, .int .i64 z], .agg #[.int .i64 a, .int .i64 b, .int .i64 c]] W fun e w' => e = .returned (.int .i64 (cmpT (x, y, z) (a, b, c))) ∧ Below W.heap.size W w') := Lib.hid (fun W => tCompare_any x y z a b c W)
  have hr : decide (0 < cmpT (x, y, z) (a, b, c)) = lesB (a, b, c) (x, y, z) := by
    unfold lesB
    rw [decide_eq_decide]
    exact cmpT_pos
  obtain ⟨m, hm⟩ : ∃ m, cmpT (x, y, z) (a, b, c) = m := ⟨_, rfl⟩
  rw [hm] at HC hr
  obtain ⟨r, hr2⟩ : ∃ r, lesB (a, b, c) (x, y, z) = r := ⟨_, rfl⟩
  rw [hr2] at hr ⊢
  have hjI : (j : Int) < (ts.length : Int) := by omega
  clear hA hm hr2 ht
  go_enter Try.func58, Try.ntmps58
  go_wp2_with fail
  refine wp_region_still_tail 7 (by kernel_rfl) (by kernel_rfl) ?_
  obtain ⟨w2, hw2⟩ : ∃ W, (w.alloc (.cells #[.slice (some ⟨bk, off, none⟩) ts.length cap, .int .i64 a, .int .i64 b, .int .i64 c] 57)).drew = W := ⟨_, rfl⟩
  change wpStill _ _ (w.alloc (.cells #[.slice (some ⟨bk, off, none⟩) ts.length cap, .int .i64 a, .int .i64 b, .int .i64 c] 57)).drew (fun a' => wpList _ _ _ _ a' (w.alloc (.cells #[.slice (some ⟨bk, off, none⟩) ts.length cap, .int .i64 a, .int .i64 b, .int .i64 c] 57)).drew) _ _
  have p := q_boxes w (.slice (some ⟨bk, off, none⟩) ts.length cap) a b c
  have hb : Below w.heap.size w (w.alloc (.cells #[.slice (some ⟨bk, off, none⟩) ts.length cap, .int .i64 a, .int .i64 b, .int .i64 c] 57)).drew := ((Below.refl _ w).alloc (Nat.le_refl _) _).drew
  have d0 := (hb.cell (p := ⟨bk, off + j * 3, none⟩) hbk).trans c0
  have d1 := (hb.cell (p := ⟨bk, off + j * 3 + 1, none⟩) hbk).trans c1
  have d2 := (hb.cell (p := ⟨bk, off + j * 3 + 2, none⟩) hbk).trans c2
  rw [hw2] at p hb d0 d1 d2 ⊢
  obtain ⟨p0, p1, p2, p3⟩ := p
  have HB := Lib.hid hb
  have HZ := Lib.hid hb.size
  clear hb hw2 c0 c1 c2
  simp only [List.take_succ_cons, List.take_zero, List.drop_succ_cons, List.drop_zero]
  repeat still_step
  refine wpStill_nil ?_
  go_wp2_with fail
  refine (HC.out _).mono ?_
  rintro e w4 ⟨rfl, b4⟩
  have HB4 := Lib.hid (HB.out.trans (b4.mono HZ.out))
  clear b4
  go_wp2
  go_ret
  exact ⟨rfl, HB4.out⟩

/-- Where a search stands. -/
def Betw (p : Nat → Bool) (n lo hi : Nat) : Prop := (∀ j, j < lo → p j = false) ∧ ∀ j, hi ≤ j → j < n → p j = true

set_option maxRecDepth 100000 in
set_option maxHeartbeats 2000000 in
/-- sort.Search for the place of a timer. -/
theorem tSearch_any (φ : Nat → Prop) (ad : Option Addr) (cap : Nat) (ts : List Tm) (a b c : Int) (w : World) (hA : TmA φ w ad ts) (hl : ts.length ≤ 1000) (hs : ts.Pairwise LesP) (hk : ∀ s ∈ ts, KeyNe s (a, b, c)) :
    Calls Try.prog 57 #[.int .i64 (ts.length : Int), .func (.func 58) #[.agg #[.slice ad ts.length cap, .int .i64 a, .int .i64 b, .int .i64 c]] #[]] w fun e w' => e = .returned (.int .i64 (plc ts (a, b, c) : Int)) ∧ Below w.heap.size w w' := by
  have hmono : ∀ i j, i < j → j < ts.length → LesP (gt ts i) (gt ts j) := by
    intro i j hij hj
    have := List.pairwise_iff_getElem.1 hs i j (by omega) hj hij
    unfold gt
    rw [List.getElem?_eq_getElem hj, List.getElem?_eq_getElem (by omega : i < ts.length)]
    exact this
  have HUP : Hid (∀ lo hi h, lo ≤ h → h < hi → hi ≤ ts.length → lesB (a, b, c) (gt ts h) = false → Betw (fun j => lesB (a, b, c) (gt ts j)) ts.length lo hi → Betw (fun j => lesB (a, b, c) (gt ts j)) ts.length (h + 1) hi) := Lib.hid (by
    intro lo hi h h1 h2 h3 h4 h5
    refine ⟨fun j hj => ?_, h5.2⟩
    by_cases e : j = h
    · rw [e]; exact h4
    · rw [lesB_no] at h4 ⊢
      exact fun h6 => h4 (les_trans h6 (hmono j h (by omega) (by omega))))
  have HDN : Hid (∀ lo hi h, lo ≤ h → h < hi → hi ≤ ts.length → lesB (a, b, c) (gt ts h) = true → Betw (fun j => lesB (a, b, c) (gt ts j)) ts.length lo hi → Betw (fun j => lesB (a, b, c) (gt ts j)) ts.length lo h) := Lib.hid (by
    intro lo hi h h1 h2 h3 h4 h5
    refine ⟨h5.1, fun j hj hjn => ?_⟩
    by_cases e : j = h
    · rw [e]; exact h4
    · rw [lesB_iff] at h4 ⊢
      exact les_trans h4 (hmono h j (by omega) (by omega)))
  have HEND : Hid (∀ lo, lo ≤ ts.length → Betw (fun j => lesB (a, b, c) (gt ts j)) ts.length lo lo → plc ts (a, b, c) = lo) := Lib.hid (fun lo h1 h2 => plc_of hk h1 (fun j hj => lesB_no.1 (h2.1 j hj)) (fun h => lesB_iff.1 (h2.2 lo (Nat.le_refl _) h)))
  have H0 : Hid (Betw (fun j => lesB (a, b, c) (gt ts j)) ts.length 0 ts.length) := Lib.hid ⟨fun j hj => by omega, fun j h1 h2 => by omega⟩
  have HA := Lib.hid hA
  clear hA hs hk hmono
  go_enter Try.func57, Try.ntmps57
  go_wp2
  go_loopw [5, 6] (fun i j wr => ∃ lo hi : Nat, lo ≤ hi ∧ hi ≤ ts.length ∧ i = .int .i64 lo ∧ j = .int .i64 hi ∧ Hid (Below w.heap.size w wr) ∧ Hid (Betw (fun j => lesB (a, b, c) (gt ts j)) ts.length lo hi)) (fun i j _ => (intOf j).toNat - (intOf i).toNat)
  case atStart => exact ⟨0, ts.length, Nat.zero_le _, Nat.le_refl _, rfl, rfl, Lib.hid (Below.refl _ _), H0⟩
  case round =>
    obtain ⟨lo, hi, h1, h2, rfl, rfl, hb, HB⟩ := hrel
    by_cases hlt : lo < hi
    · obtain ⟨h, hh⟩ : ∃ h, (lo + hi) / 2 = h := ⟨_, rfl⟩
      have hlo : lo ≤ h := by omega
      have hhi : h < hi := by omega
      have CE := tBehind_any φ ad cap ts a b c h wr (HA.out.below hb.out) (by omega)
      have s0 : (0 : Int) ≤ (lo : Int) + (hi : Int) := by omega
      have s1 : (lo : Int) + (hi : Int) ≤ 4000 := by omega
      have s2 : ((lo : Int) + (hi : Int)) / 2 = (h : Int) := by omega
      have s3 : (h : Int) < (ts.length : Int) := by omega
      cases hp : lesB (a, b, c) (gt ts h) with
      | false =>
        have HN := Lib.hid (HUP.out lo hi h hlo hhi h2 hp HB.out)
        rw [hp] at CE
        have CE := Lib.hid CE
        clear hp hh
        go_wp2_with fail
        refine CE.out.mono ?_
        rintro e w1 ⟨rfl, b1⟩
        have B1 := Lib.hid (hb.out.trans (b1.mono hb.out.size))
        clear b1
        go_wp2
        go_roundw
        case rel => exact ⟨h + 1, hi, by omega, by omega, by go_num, rfl, B1, HN⟩
        case measure => simp [intOf]; omega
      | true =>
        have HN := Lib.hid (HDN.out lo hi h hlo hhi h2 hp HB.out)
        rw [hp] at CE
        have CE := Lib.hid CE
        clear hp hh
        go_wp2_with fail
        refine CE.out.mono ?_
        rintro e w1 ⟨rfl, b1⟩
        have B1 := Lib.hid (hb.out.trans (b1.mono hb.out.size))
        clear b1
        go_wp2
        go_roundw
        case rel => exact ⟨lo, h, by omega, by omega, rfl, rfl, B1, HN⟩
        case measure => simp [intOf]; omega
    · obtain rfl : lo = hi := by omega
      have HF := Lib.hid (HEND.out lo h2 HB.out)
      have hnl : ¬ (lo : Int) < (lo : Int) := by omega
      go_wp2
      go_ret
      exact ⟨by rw [HF.out]; rfl, hb.out⟩

set_option maxHeartbeats 1000000 in
/-- place. -/
theorem tPlace_any (φ : Nat → Prop) (ad : Option Addr) (cap : Nat) (ts : List Tm) (a b c : Int) (w : World) (hA : TmA φ w ad ts) (hl : ts.length ≤ 1000) (hs : ts.Pairwise LesP) (hk : ∀ s ∈ ts, KeyNe s (a, b, c)) :
    Calls Try.prog 41 #[.agg #[.slice ad ts.length cap, .int .i64 a, .int .i64 b, .int .i64 c]] w fun e w' => e = .returned (.int .i64 (plc ts (a, b, c) : Int)) ∧ Below w.heap.size w w' := by
  have hb : Below w.heap.size w (w.alloc (.cells #[.slice ad ts.length cap, .int .i64 a, .int .i64 b, .int .i64 c] 57)) := (Below.refl _ w).alloc (Nat.le_refl _) _
  have HS := Lib.hid (tSearch_any φ ad cap ts a b c (w.alloc (.cells #[.slice ad ts.length cap, .int .i64 a, .int .i64 b, .int .i64 c] 57)) (hA.below hb) hl hs hk)
  have HB := Lib.hid hb
  clear hA hb hs hk
  go_enter Try.func41, Try.ntmps41
  go_wp2_with fail
  refine HS.out.mono ?_
  rintro e w4 ⟨rfl, b4⟩
  have B4 := Lib.hid (HB.out.trans (b4.mono HB.out.size))
  clear b4
  go_wp2
  go_ret
  exact ⟨rfl, B4.out⟩

end Go.Proofs.Ytcmcgcogahkamaa
