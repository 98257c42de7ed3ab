/-
  The library's DeleteFunc of a row of timers, by isOf; the program's without.
-/
import Derived.Lib.SliceRun
import Derived.Shelf.Abstract
import Derived.Test.YtcmcgcogahkamaaTmSeq
import Derived.Test.YtcmcgcogahkamaaTmMath0
namespace Go.Proofs.Ytcmcgcogahkamaa
open Go.RowKit Go.Shelf

theorem grown_trans' {w w' w'' : World} {row : Option Nat} (h : w.grownBy w' row) (k : w'.grownBy w'' row) : w.grownBy w'' row :=
  ⟨k.os.trans h.os, k.tape.trans h.tape, k.output.trans h.output, Nat.le_trans h.size k.size, fun j hj hne => (k.block j (Nat.lt_of_lt_of_le hj h.size) hne).trans (h.block j hj hne)⟩
theorem grown_of {w w' : World} (h : Below w.heap.size w w') (row : Option Nat) : w.grownBy w' row := ⟨h.os, h.tape, h.output, h.size, fun k hk _ => h.block k hk⟩
theorem below_of {w w' : World} (h : w.grownBy w' none) : Below w.heap.size w w' := ⟨h.os, h.tape, h.output, h.size, fun k hk => h.block k hk (by simp)⟩
/-- A timer is stored at a place of a row. -/
theorem own_store {w : World} {B g cap n : Nat} {L : List Tm} (h : w.ownsRow B TT 3 (.slice (some ⟨g, 0, none⟩) n cap) n (tmV L)) (hL : L.length = n) (m : Nat) (t : Tm) :
    (((w.setCell ⟨g, m * 3, none⟩ (.int .i64 t.1)).setCell ⟨g, m * 3 + 1, none⟩ (.int .i64 t.2.1)).setCell ⟨g, m * 3 + 2, none⟩ (.int .i64 t.2.2)).ownsRow B TT 3 (.slice (some ⟨g, 0, none⟩) n cap) n (tmV (L.set m t)) ∧
    w.grownBy (((w.setCell ⟨g, m * 3, none⟩ (.int .i64 t.1)).setCell ⟨g, m * 3 + 1, none⟩ (.int .i64 t.2.1)).setCell ⟨g, m * 3 + 2, none⟩ (.int .i64 t.2.2)) (some g) := by
  obtain ⟨h1, g1⟩ := World.ownsRow.stored h (m * 3) (.int .i64 t.1)
  obtain ⟨h2, g2⟩ := World.ownsRow.stored h1 (m * 3 + 1) (.int .i64 t.2.1)
  obtain ⟨h3, g3⟩ := World.ownsRow.stored h2 (m * 3 + 2) (.int .i64 t.2.2)
  refine ⟨?_, grown_trans' (grown_trans' g1 g2) g3⟩
  have e : (((tmV L).set (m * 3) (.int .i64 t.1)).set (m * 3 + 1) (.int .i64 t.2.1)).set (m * 3 + 2) (.int .i64 t.2.2) = tmV (L.set m t) := by
    apply List.ext_getElem?
    intro j
    have hl := tmV_length L
    have hl2 := tmV_length (L.set m t)
    rw [List.length_set] at hl2
    by_cases hj : j < L.length * 3
    · have hgl : ∀ q, q < L.length → gt (L.set m t) q = if q = m then t else gt L q := by
        intro q hq
        unfold gt
        rw [List.getElem?_set]
        by_cases e : m = q
        · subst e; simp [hq]
        · rw [if_neg e, if_neg (Ne.symm e)]
      obtain ⟨a1, a2, a3⟩ := tmV_get L (j / 3) (by omega)
      obtain ⟨b1, b2, b3⟩ := tmV_get (L.set m t) (j / 3) (by rw [List.length_set]; omega)
      rw [hgl _ (by omega)] at b1 b2 b3
      rcases (show j % 3 = 0 ∨ j % 3 = 1 ∨ j % 3 = 2 by omega) with hm3 | hm3 | hm3
      · have ej : j = j / 3 * 3 := by omega
        rw [List.getElem?_set_ne (by omega), List.getElem?_set_ne (by omega), List.getElem?_set]
        by_cases e : m = j / 3
        · rw [if_pos (by omega), ej, b1, if_pos e.symm]
          simp; omega
        · rw [if_neg (by omega), ej, a1, b1, if_neg (Ne.symm e)]
      · have ej : j = j / 3 * 3 + 1 := by omega
        rw [List.getElem?_set_ne (by omega), List.getElem?_set]
        by_cases e : m = j / 3
        · rw [if_pos (by omega), ej, b2, if_pos e.symm]
          simp; omega
        · rw [if_neg (by omega), List.getElem?_set_ne (by omega), ej, a2, b2, if_neg (Ne.symm e)]
      · have ej : j = j / 3 * 3 + 2 := by omega
        rw [List.getElem?_set]
        by_cases e : m = j / 3
        · rw [if_pos (by omega), ej, b3, if_pos e.symm]
          simp; omega
        · rw [if_neg (by omega), List.getElem?_set_ne (by omega), List.getElem?_set_ne (by omega), ej, a3, b3, if_neg (Ne.symm e)]
    · rw [List.getElem?_eq_none (by simp; omega), List.getElem?_eq_none (by omega)]
  rw [← e]
  exact h3
theorem box3 (w : World) (a b c : Int) : (w.alloc (.cells #[.int .i64 a, .int .i64 b, .int .i64 c] TT)).cell? ⟨w.heap.size, 0, none⟩ = some (.int .i64 a) ∧ (w.alloc (.cells #[.int .i64 a, .int .i64 b, .int .i64 c] TT)).cell? ⟨w.heap.size, 1, none⟩ = some (.int .i64 b) ∧ (w.alloc (.cells #[.int .i64 a, .int .i64 b, .int .i64 c] TT)).cell? ⟨w.heap.size, 2, none⟩ = some (.int .i64 c) := by
  refine ⟨?_, ?_, ?_⟩ <;> go_simp
theorem own_prefix {w : World} {B n g cap i s : Nat} {T : TypeId} {xs : List Value} (h : w.ownsRow B T s (.slice (some ⟨g, 0, none⟩) n cap) n xs) (hi : i ≤ n) : w.ownsRow B T s (.slice (some ⟨g, 0, none⟩) i cap) i (xs.take (i * s)) := by
  obtain ⟨h1, h2⟩ := h
  have hm : i * s ≤ n * s := Nat.mul_le_mul_right _ hi
  refine ⟨by rw [List.length_take]; omega, ?_⟩
  rcases h2 with ⟨e, _⟩ | ⟨g', cap', cur, e, hB, hg, hn, hc, hcs, ht⟩
  · cases e
  · cases e
    refine .inr ⟨g, cap, cur, rfl, hB, hg, by omega, hc, hcs, ?_⟩
    rw [← ht, List.take_take]
    congr 1
    omega
theorem own_spare {w : World} {B n g cap s : Nat} {T : TypeId} {xs : List Value} (h : w.ownsRow B T s (.slice (some ⟨g, 0, none⟩) n cap) n xs) {x : Nat} (hx : x < cap * s) : (w.cell? ⟨g, x, none⟩).isSome = true := by
  rcases h.2 with ⟨e, _⟩ | ⟨g', cap', cur, e, _, hg, _, _, hcs, _⟩
  · cases e
  · cases e
    rw [Lib.cell_of_heap hg, Array.getElem?_eq_getElem (by omega)]
    rfl
/-- Stores behind the elements of a row. -/
theorem own_past {B g cap n : Nat} {xs : List Value} : ∀ (zs : List Value) (o : Nat) (w : World), w.ownsRow B TT 3 (.slice (some ⟨g, 0, none⟩) n cap) n xs → n * 3 ≤ o → (w.setCells g o zs).ownsRow B TT 3 (.slice (some ⟨g, 0, none⟩) n cap) n xs ∧ w.grownBy (w.setCells g o zs) (some g)
  | [], o, w, h, _ => ⟨h, ⟨rfl, rfl, rfl, Nat.le_refl _, fun _ _ _ => rfl⟩⟩
  | z :: zs, o, w, h, ho => by
    have hl := h.1
    obtain ⟨h1, g1⟩ := World.ownsRow.stored h o z
    rw [List.set_eq_of_length_le (by omega)] at h1
    obtain ⟨h2, g2⟩ := own_past zs (o + 1) _ h1 (by omega)
    exact ⟨h2, grown_trans' g1 g2⟩
theorem run_clearT (w : World) (b o m c : Nat) (h0 : 0 < m) (hc : ∀ j, j < m * 3 → (w.cell? ⟨b, o + j, none⟩).isSome = true) (hf : ∀ j, j < m * 3 → w.frozen? ⟨b, o + j, none⟩ = false) :
    ∃ zs, ∀ ty, (Builtin.clear_ #[22] ty #[.slice (some ⟨b, o, none⟩) m c]).run Try.prog w = .ok (.tuple #[]) (w.setCells b o zs) := by
  obtain ⟨zs, hz⟩ : ∃ zs, (Builtin.zeroCells (Value.agg #[.int .i64 0, .int .i64 0, .int .i64 0]).cells m).toList = zs := ⟨_, rfl⟩
  have hzl : zs.length = m * 3 := by rw [← hz, Array.length_toList, size_zeroCells]; rfl
  have hz1 : ∀ v ∈ zs, v.oneCell' = true := by
    intro v hv
    rw [← hz] at hv
    simp [Builtin.zeroCells, Value.cells] at hv
    obtain ⟨k, hk, rfl⟩ := hv
    rcases (show k % 3 = 0 ∨ k % 3 = 1 ∨ k % 3 = 2 by omega) with e | e | e <;> simp [e, Value.oneCell']
  refine ⟨zs, fun ty => ?_⟩
  have hst := run_storeCells_cells (P := Try.prog) b o zs 0 w (by intro j hj; rw [Nat.add_zero]; exact hc j (by omega)) (by intro j hj; rw [Nat.add_zero]; exact hf j (by omega)) hz1
  simp only [Nat.add_zero] at hst
  have hzero : ∀ w, (zeroValue TT).run Try.prog w = .ok (.agg #[.int .i64 0, .int .i64 0, .int .i64 0]) w := fun w => by kernel_rfl
  cases m with
  | zero => omega
  | succ m => simp [Builtin.clear_, run_underlying Try.underlying22, hzero, hz, hst]

/-- The row in the middle of a deletion: what is kept stands in front, what has not been looked at stands where it stood. -/
def Mid (ts L : List Tm) (p : Tm → Bool) (m j : Nat) : Prop := L.length = ts.length ∧ m = (kept p ts j).length ∧ m < j ∧ L.take m = kept p ts j ∧ L.drop j = ts.drop j
theorem Mid.gone {ts L : List Tm} {p : Tm → Bool} {m j : Nat} (h : Mid ts L p m j) (hj : j < ts.length) (hp : p (gt ts j) = true) : Mid ts L p m (j + 1) := by
  obtain ⟨h1, h2, h3, h4, h5⟩ := h
  have e : kept p ts (j + 1) = kept p ts j := by rw [kept_succ hj, hp]; simp
  refine ⟨h1, by rw [e]; exact h2, by omega, by rw [e]; exact h4, ?_⟩
  rw [← List.drop_drop, h5, List.drop_drop]
theorem Mid.held {ts L : List Tm} {p : Tm → Bool} {m j : Nat} (h : Mid ts L p m j) (hj : j < ts.length) (hp : p (gt ts j) = false) : Mid ts (L.set m (gt ts j)) p (m + 1) (j + 1) := by
  obtain ⟨h1, h2, h3, h4, h5⟩ := h
  have e : kept p ts (j + 1) = kept p ts j ++ [gt ts j] := by rw [kept_succ hj, hp]; simp
  refine ⟨by rw [List.length_set]; exact h1, by rw [e, List.length_append, ← h2]; rfl, by omega, ?_, ?_⟩
  · rw [e, ← h4]
    have hm : m < L.length := by omega
    rw [List.take_succ_eq_append_getElem (by rw [List.length_set]; exact hm), List.getElem_set_self, List.take_set_of_le (Nat.le_refl _)]
  · rw [List.drop_set_of_lt (by omega), ← List.drop_drop, h5, List.drop_drop]
theorem Mid.start {ts : List Tm} {p : Tm → Bool} {i : Nat} (hi : i < ts.length) (h : p (gt ts i) = true) (hn : ∀ j, j < i → p (gt ts j) = false) : Mid ts ts p i (i + 1) := by
  have e : kept p ts (i + 1) = ts.take i := by rw [kept_succ hi, h, if_pos rfl, List.append_nil, kept_none hn (by omega)]
  refine ⟨rfl, by rw [e, List.length_take]; omega, by omega, e.symm, rfl⟩
theorem Mid.at_ {ts L : List Tm} {p : Tm → Bool} {m j : Nat} (h : Mid ts L p m j) : gt L j = gt ts j := by
  have := congrArg (fun l => gt l 0) h.2.2.2.2
  simpa [gt_drop] using this
theorem Mid.done {ts L : List Tm} {p : Tm → Bool} {m : Nat} (h : Mid ts L p m ts.length) : L.take m = (ts.filter fun t => !p t) ∧ m = (ts.filter fun t => !p t).length := by
  obtain ⟨h1, h2, h3, h4, h5⟩ := h
  rw [kept_all] at h4 h2
  exact ⟨h4, h2⟩

set_option maxRecDepth 100000 in
set_option maxHeartbeats 4000000 in
theorem tDelete_any (B : Nat) (k i : Int) (v : Value) (ts : List Tm) (w : World) (hO : OwnT B ts v w) (hl : ts.length ≤ 1000) :
    Calls Try.prog 54 #[v, .func (.func 46) #[.agg #[.int .i64 k, .int .i64 i]] #[]] w fun e w' => ∃ v', e = .returned v' ∧ OwnT B (woL ts k i) v' w' ∧ w.grownBy w' v.ownBlock := by
  have hK := hO.fresh
  obtain ⟨ad, cap, rfl, hc1, hc2, hA⟩ := hK
  have HI := Lib.hid (tIndex_any _ 46 #[.agg #[.int .i64 k, .int .i64 i]] #[] ad cap ts (fun t => keyB t k i) w (enters_of Try.func46 (by kernel_rfl) rfl) hA hl (fun a b c W _ => tIsOf_any k i a b c W))
  have HO := Lib.hid hO
  clear hO hA
  go_enter Try.func54, Try.ntmps54
  go_wp2_with fail
  refine HI.out.mono ?_
  rintro e w1 ⟨x, rfl, hx, b1⟩
  rcases hx with ⟨rfl, hx⟩ | ⟨i0, hi0, rfl, hp0, hn0⟩
  · have HG := Lib.hid (grown_of b1 (Value.slice ad ts.length cap).ownBlock)
    have HE : Hid (OwnT B (woL ts k i) (.slice ad ts.length cap) w1) := Lib.hid (by
      unfold woL
      rw [filter_none hx]
      exact World.ownsRow.kept (show w.ownsRow B TT 3 (.slice ad ts.length cap) ts.length (tmV ts) from HO.out) (grown_of b1 none) (by cases (Value.slice ad ts.length cap).ownBlock <;> simp))
    clear b1 hx
    go_wp2
    go_ret
    exact ⟨_, rfl, HE.out, HG.out⟩
  · obtain ⟨g, cap', e, hB⟩ := ownZ_some (show w.ownsRow B TT 3 (.slice ad ts.length cap) ts.length (tmV ts) from HO.out) (by omega)
    injection e with e1 e2 e3
    subst e1
    have ho1 : w1.ownsRow B TT 3 (.slice (some ⟨g, 0, none⟩) ts.length cap) ts.length (tmV ts) := World.ownsRow.kept (show w.ownsRow B TT 3 (.slice (some ⟨g, 0, none⟩) ts.length cap) ts.length (tmV ts) from HO.out) (grown_of b1 none) (by simp [Value.ownBlock])
    have HO1 := Lib.hid ho1
    have HG1 := Lib.hid (grown_of b1 (some g))
    have HM := Lib.hid (Mid.start (p := fun t => keyB t k i) hi0 hp0 hn0)
    have j1 : ((i0 : Int) == -1) = false := by simp
    have hgw := (World.ownsRow.lt ho1 g rfl).2
    clear b1 hp0 hn0 ho1 e2 e3
    go_wp2
    go_loopw [5, 6] (fun x y wr => ∃ (m j : Nat) (L : List Tm), i0 < j ∧ j ≤ ts.length ∧ m < j ∧ x = .int .i64 m ∧ y = .int .i64 j ∧ Hid (Mid ts L (fun t => keyB t k i) m j) ∧ Hid (wr.ownsRow B TT 3 (.slice (some ⟨g, 0, none⟩) ts.length cap) ts.length (tmV L)) ∧ Hid (w.grownBy wr (some g))) (fun _ y _ => ts.length - (intOf y).toNat)
    case atStart => exact ⟨i0, i0 + 1, ts, by omega, by omega, by omega, rfl, rfl, HM, HO1, HG1⟩
    case round =>
      obtain ⟨m, j, L, hj0, hj, hmj, rfl, rfl, HMr, HOr, HGr⟩ := hrel
      by_cases hlt : j < ts.length
      · have k1 : (j : Int) < (ts.length : Int) := by omega
        have k2 : (m : Int) < (ts.length : Int) := by omega
        obtain ⟨c0, c1, c2⟩ : wr.cell? ⟨g, j * 3, none⟩ = some (.int .i64 (gt ts j).1) ∧ wr.cell? ⟨g, j * 3 + 1, none⟩ = some (.int .i64 (gt ts j).2.1) ∧ wr.cell? ⟨g, j * 3 + 2, none⟩ = some (.int .i64 (gt ts j).2.2) := by
          have hLl := HMr.out.1
          have hl3 := tmV_length L
          obtain ⟨q0, q1, q2⟩ := tmV_get L j (by omega)
          rw [HMr.out.at_] at q0 q1 q2
          exact ⟨by rw [World.ownsRow.cellAt HOr.out (j * 3) (by omega), q0], by rw [World.ownsRow.cellAt HOr.out (j * 3 + 1) (by omega), q1], by rw [World.ownsRow.cellAt HOr.out (j * 3 + 2) (by omega), q2]⟩
        obtain ⟨⟨a, b, c⟩, ht⟩ : ∃ t, gt ts j = t := ⟨_, rfl⟩
        rw [ht] at c0 c1 c2
        simp only [] at c0 c1 c2
        have hgr := (World.ownsRow.lt HOr.out g rfl).2
        have HC := fun W => tIsOf_any k i a b c W
        unfold tmA encT at HC
        dsimp only at HC
        have hb0 : (wr.alloc (.cells #[.int .i64 a, .int .i64 b, .int .i64 c] TT)).cell? ⟨wr.heap.size, 0, none⟩ = some (.int .i64 a) ∧ (wr.alloc (.cells #[.int .i64 a, .int .i64 b, .int .i64 c] TT)).cell? ⟨wr.heap.size, 1, none⟩ = some (.int .i64 b) ∧ (wr.alloc (.cells #[.int .i64 a, .int .i64 b, .int .i64 c] TT)).cell? ⟨wr.heap.size, 2, none⟩ = some (.int .i64 c) := box3 wr a b c
        have HB0 := Lib.hid hb0
        clear hb0
        cases hp : keyB (a, b, c) k i with
        | true =>
          simp only [hp] at HC
          have HC := Lib.hid HC
          have HM' := Lib.hid (HMr.out.gone hlt (by rw [ht]; exact hp))
          clear hp ht
          go_wp2_with fail
          refine (HC.out _).mono ?_
          rintro e w4 ⟨rfl, b4⟩
          have hg4 : wr.grownBy w4 (some g) := grown_trans' (World.grownBy_alloc wr _ _) (grown_of b4 _)
          have HO4 : Hid (w4.ownsRow B TT 3 (.slice (some ⟨g, 0, none⟩) ts.length cap) ts.length (tmV L)) := Lib.hid (World.ownsRow.kept (HOr.out.alloc _) (grown_of b4 none) (by simp [Value.ownBlock]))
          have HG4 : Hid (w.grownBy w4 (some g)) := Lib.hid (grown_trans' HGr.out hg4)
          clear b4 hg4
          go_wp2
          go_roundw
          case rel => exact ⟨m, j + 1, L, by omega, by omega, by omega, rfl, by go_num, HM', HO4, HG4⟩
          case measure => simp [intOf]; omega
        | false =>
          simp only [hp] at HC
          have HC := Lib.hid HC
          have HM' := Lib.hid (HMr.out.held hlt (by rw [ht]; exact hp))
          rw [ht] at HM'
          clear hp ht
          go_wp2_with fail
          refine (HC.out _).mono ?_
          rintro e w4 ⟨rfl, b4⟩
          have hg4 : wr.grownBy w4 (some g) := grown_trans' (World.grownBy_alloc wr _ _) (grown_of b4 _)
          have hO4 : w4.ownsRow B TT 3 (.slice (some ⟨g, 0, none⟩) ts.length cap) ts.length (tmV L) := World.ownsRow.kept (HOr.out.alloc _) (grown_of b4 none) (by simp [Value.ownBlock])
          have HG4 : Hid (w.grownBy w4 (some g)) := Lib.hid (grown_trans' HGr.out hg4)
          have e0 := (b4.cell (p := ⟨wr.heap.size, 0, none⟩) (by simp)).trans HB0.out.1
          have e1 := (b4.cell (p := ⟨wr.heap.size, 1, none⟩) (by simp)).trans HB0.out.2.1
          have e2 := (b4.cell (p := ⟨wr.heap.size, 2, none⟩) (by simp)).trans HB0.out.2.2
          have hLl := HMr.out.1
          have hl3 := tmV_length L
          obtain ⟨q0, q1, q2⟩ := tmV_get L m (by omega)
          have d0 := (World.ownsRow.cellAt hO4 (m * 3) (by omega)).trans q0
          have d1 := (World.ownsRow.cellAt hO4 (m * 3 + 1) (by omega)).trans q1
          have d2 := (World.ownsRow.cellAt hO4 (m * 3 + 2) (by omega)).trans q2
          have f0 := World.ownsRow.frozenAt hO4 (m * 3)
          have f1 := World.ownsRow.frozenAt hO4 (m * 3 + 1)
          have f2 := World.ownsRow.frozenAt hO4 (m * 3 + 2)
          generalize (gt L m).1 = y0 at d0
          generalize (gt L m).2.1 = y1 at d1
          generalize (gt L m).2.2 = y2 at d2
          obtain ⟨hO5, hg5⟩ := own_store hO4 hLl m (a, b, c)
          have HO5 := Lib.hid hO5
          have HG5 := Lib.hid (grown_trans' HG4.out hg5)
          clear b4 hg4 hO4 hLl hl3 q0 q1 q2 hO5 hg5
          go_wp2
          go_roundw
          case rel => exact ⟨m + 1, j + 1, L.set m (a, b, c), by omega, by omega, by omega, by go_num, by go_num, HM', HO5, HG5⟩
          case measure => simp [intOf]; omega
      · obtain rfl : j = ts.length := by omega
        obtain ⟨z1, z2⟩ := HMr.out.done
        have hml : m < ts.length := hmj
        obtain ⟨zs, hcl⟩ := run_clearT wr g (m * 3) (ts.length - m) (cap - m) (by omega) (fun t ht => own_spare HOr.out (by omega)) (fun t _ => World.ownsRow.frozenAt HOr.out _)
        have hP := own_prefix HOr.out (i := m) (by omega)
        rw [tmV_take, z1] at hP
        obtain ⟨hQ, gQ⟩ := own_past zs (m * 3) wr hP (Nat.le_refl _)
        have HQ : Hid ((wr.setCells g (m * 3) zs).ownsRow B TT 3 (.slice (some ⟨g, 0, none⟩) m cap) m (tmV (woL ts k i))) := Lib.hid hQ
        have HGQ := Lib.hid (grown_trans' HGr.out gQ)
        have HZ2 : Hid ((woL ts k i).length = m) := Lib.hid z2.symm
        have k1 : ¬ cap = m := by omega
        have k2 : (m : Int) ≤ (ts.length : Int) := by omega
        have k3 : (m : Int) ≤ (cap : Int) := by omega
        have k4 : m ≤ cap := by omega
        have k5 : m ≤ ts.length := by omega
        clear hP hQ gQ z1 z2 HOr
        go_wp2
        go_ret
        exact ⟨_, rfl, by unfold OwnT; rw [HZ2.out]; exact HQ.out, HGQ.out⟩

theorem key_cells (w : World) (k i : Int) : (w.alloc (.cells #[.int .i64 k, .int .i64 i] TK)).drew.cell? ⟨w.heap.size, 0, none⟩ = some (.int .i64 k) ∧ (w.alloc (.cells #[.int .i64 k, .int .i64 i] TK)).drew.cell? ⟨w.heap.size, 1, none⟩ = some (.int .i64 i) := by
  refine ⟨?_, ?_⟩ <;> go_simp

set_option maxRecDepth 100000 in
set_option maxHeartbeats 2000000 in
/-- without. -/
theorem tWithout_any (φ : Nat → Prop) (ad : Option Addr) (cap : Nat) (ts : List Tm) (k i : Int) (w : World) (hA : TmA φ w ad ts) (hl : ts.length ≤ 1000) :
    Calls Try.prog 38 #[.slice ad ts.length cap, .agg #[.int .i64 k, .int .i64 i]] w fun e w' => ∃ v, e = .returned v ∧ OwnT w.heap.size (woL ts k i) v w' ∧ Below w.heap.size w w' := by
  have hb1 : Below w.heap.size w (w.alloc (.cells #[.int .i64 k, .int .i64 i] TK)).drew := ((Below.refl _ w).alloc (Nat.le_refl _) _).drew
  have hs1 : (w.alloc (.cells #[.int .i64 k, .int .i64 i] TK)).drew.heap.size = w.heap.size + 1 := by simp
  have hk := key_cells w k i
  have HCL := Lib.hid (tClone_any φ ad cap ts (w.alloc (.cells #[.int .i64 k, .int .i64 i] TK)).drew hl (hA.below hb1))
  have HB1 := Lib.hid hb1
  have HS1 := Lib.hid hs1
  have HK := Lib.hid hk
  clear hA hb1 hs1 hk
  go_enter Try.func38, Try.ntmps38
  go_wp2_with fail
  refine wp_region_held (S := fun w' => w'.cell? ⟨w.heap.size, 0, none⟩ = some (.int .i64 k) ∧ w'.cell? ⟨w.heap.size, 1, none⟩ = some (.int .i64 i)) (by kernel_rfl) ?_
  change wpAnyH _ _ _ _ _ _ _ _ (w.alloc (.cells #[.int .i64 k, .int .i64 i] TK)).drew
  refine wpAnyH_read (i := 0) (v := .slice ad ts.length cap) rfl (by kernel_rfl) (by kernel_rfl) (by kernel_rfl) (fun _ _ _ h => h) (by rfl) (fun _ _ => rfl) HK.out ?_
  simp only [Act.put, List.setIfInBounds_toArray, List.set_cons_zero, List.set_cons_succ]
  refine wpAnyH_read (i := 2) (v := .agg #[.int .i64 k, .int .i64 i]) rfl (by kernel_rfl) (by kernel_rfl) (by kernel_rfl) (fun _ _ _ h => h) (by rfl) ?_ HK.out ?_
  · rintro w' ⟨h1, h2⟩
    go_simp
  simp only [Act.put, List.setIfInBounds_toArray, List.set_cons_zero, List.set_cons_succ]
  refine wpAnyH_read (i := 3) (v := .func (.func 46) #[.agg #[.int .i64 k, .int .i64 i]] #[]) rfl (by kernel_rfl) (by kernel_rfl) (by kernel_rfl) (fun _ _ _ h => h) (by rfl) ?_ HK.out ?_
  · rintro w' -
    go_simp
  simp only [Act.put, List.setIfInBounds_toArray, List.set_cons_zero, List.set_cons_succ]
  refine wpAnyH_next (i := 1) rfl (by kernel_rfl) ?_
  go_wp2_with fail
  refine HCL.out.mono ?_
  rintro e w2 ⟨v, rfl, ho, b2⟩
  have hb2 := HB1.out.trans (b2.mono (by have := HS1.out; omega))
  have h1 := (b2.cell (p := ⟨w.heap.size, 0, none⟩) (by have := HS1.out; show w.heap.size < _; omega)).trans HK.out.1
  have h2 := (b2.cell (p := ⟨w.heap.size, 1, none⟩) (by have := HS1.out; show w.heap.size < _; omega)).trans HK.out.2
  have HD := Lib.hid (tDelete_any _ k i v ts w2 ho hl)
  have HV : Hid (∀ b, v.ownBlock = some b → w.heap.size < b) := Lib.hid (fun b hb => by have := (World.ownsRow.lt ho b hb).1; have := HS1.out; omega)
  have HB2 := Lib.hid hb2
  have HSz := Lib.hid hb2.size
  clear ho b2 hb2
  go_wp2_with fail
  refine ⟨⟨h1, h2⟩, ?_⟩
  refine wpAnyH_next (i := 4) rfl (by kernel_rfl) ?_
  go_wp2_with fail
  refine HD.out.mono ?_
  rintro e w3 ⟨v', rfl, ho, g3⟩
  have HO := Lib.hid (show OwnT w.heap.size (woL ts k i) v' w3 from ownZ_base (by have := HS1.out; omega) ho)
  have HB3 := Lib.hid (HB2.out.grown g3 HSz.out (fun b hb => Nat.le_of_lt (HV.out b hb)))
  have h3 : w3.cell? ⟨w.heap.size, 0, none⟩ = some (.int .i64 k) ∧ w3.cell? ⟨w.heap.size, 1, none⟩ = some (.int .i64 i) := by
    have hblk : w3.heap[w.heap.size]? = w2.heap[w.heap.size]? := g3.block _ (World.block_lt_of_cell? w2 ⟨w.heap.size, 0, none⟩ h1) (fun e => by have := HV.out _ e.symm; omega)
    exact ⟨(World.cell?_of_block hblk).trans h1, (World.cell?_of_block hblk).trans h2⟩
  clear ho g3
  go_wp2_with fail
  refine ⟨h3, ?_⟩
  refine wpAnyH_next (i := 5) rfl (by kernel_rfl) ?_
  go_wp2
  refine ⟨h3, ?_⟩
  refine wpAnyH_done (by kernel_rfl) ?_ _
  go_wp2
  go_ret
  exact ⟨_, rfl, HO.out, HB3.out⟩

end Go.Proofs.Ytcmcgcogahkamaa
