/-
  What the program's isElement, isPair, comparePairs and checkSize of partialorder return.
-/
import Derived.RangeFuncNested
import Derived.RangeFuncBound
import Derived.RangeFuncCalls
import Derived.RangeFuncLeaves
import Derived.Shelf.Abstract
import Derived.OwnWalkIn
import Derived.TacticsInMore
import Derived.LoopNIn
import Derived.LoopIn
import Derived.StillTailTactics
import Derived.Test.YtbfeiegjhcjbnaaMem4
namespace Go.Proofs.Ytbfeiegjhcjbnaa
open Go.RowKit

theorem isElement_any (n x : Int) (w : World) :
    Calls Try.prog 47 #[.int .i64 n, .int .i64 x] w fun e w' => e = .returned (.bool (decide (0 ≤ x ∧ x < n))) ∧ w = w' := by
  by_cases h1 : 0 ≤ x
  · by_cases h2 : x < n
    · have hd : decide (0 ≤ x ∧ x < n) = true := by simp [h1, h2]
      rw [hd]
      clear hd
      go_enter Try.func47, Try.ntmps47
      go_wp2
      go_ret
      exact ⟨rfl, rfl⟩
    · have hd : decide (0 ≤ x ∧ x < n) = false := by simp [h2]
      rw [hd]
      clear hd
      go_enter Try.func47, Try.ntmps47
      go_wp2
      go_ret
      exact ⟨rfl, rfl⟩
  · have hd : decide (0 ≤ x ∧ x < n) = false := by simp [h1]
    rw [hd]
    clear hd
    go_enter Try.func47, Try.ntmps47
    go_wp2
    go_ret
    exact ⟨rfl, rfl⟩

theorem isNaN_any (x : Int) (w : World) :
    Calls Try.prog 71 #[.int .i64 x] w fun e w' => e = .returned (.bool false) ∧ w = w' := by
  go_enter Try.func71, Try.ntmps71
  go_wp2
  go_ret
  exact ⟨rfl, rfl⟩
def cmpI (a b : Int) : Int := if a < b then -1 else if b < a then 1 else 0
theorem cmpI_lo {a b : Int} (h : a < b) : cmpI a b = -1 := by unfold cmpI; rw [if_pos h]
theorem cmpI_hi {a b : Int} (h : b < a) : cmpI a b = 1 := by unfold cmpI; rw [if_neg (by omega), if_pos h]
theorem cmpI_eq (a : Int) : cmpI a a = 0 := by unfold cmpI; rw [if_neg (by omega), if_neg (by omega)]
theorem cmp_any (a b : Int) (w : World) :
    Calls Try.prog 62 #[.int .i64 a, .int .i64 b] w fun e w' => e = .returned (.int .i64 (cmpI a b)) ∧ w = w' := by
  have N1 := Lib.hid (isNaN_any a)
  have N2 := Lib.hid (isNaN_any b)
  by_cases h1 : a < b
  · rw [cmpI_lo h1]
    go_enter Try.func62, Try.ntmps62
    go_wp2_with fail
    refine (N1.out _).mono ?_
    rintro e w1 ⟨rfl, rfl⟩
    go_wp2_with fail
    refine (N2.out _).mono ?_
    rintro e w1 ⟨rfl, rfl⟩
    go_wp2
    go_ret
    exact ⟨rfl, rfl⟩
  · by_cases h2 : b < a
    · rw [cmpI_hi h2]
      go_enter Try.func62, Try.ntmps62
      go_wp2_with fail
      refine (N1.out _).mono ?_
      rintro e w1 ⟨rfl, rfl⟩
      go_wp2_with fail
      refine (N2.out _).mono ?_
      rintro e w1 ⟨rfl, rfl⟩
      go_wp2
      go_ret
      exact ⟨rfl, rfl⟩
    · have hab : a = b := by omega
      subst hab
      rw [cmpI_eq]
      clear h1 h2
      have h1 : ¬ a < a := by omega
      go_enter Try.func62, Try.ntmps62
      go_wp2_with fail
      refine (N1.out _).mono ?_
      rintro e w1 ⟨rfl, rfl⟩
      go_wp2_with fail
      refine (N2.out _).mono ?_
      rintro e w1 ⟨rfl, rfl⟩
      go_wp2
      go_ret
      exact ⟨rfl, rfl⟩

theorem or_any (b o c : Nat) (x y : Int) (w : World) (h1 : w.cell? ⟨b, o, none⟩ = some (.int .i64 x)) (h2 : w.cell? ⟨b, o + 1, none⟩ = some (.int .i64 y)) :
    Calls Try.prog 72 #[.slice (some ⟨b, o, none⟩) 2 c] w fun e w' => e = .returned (.int .i64 (if x = 0 then y else x)) ∧ w = w' := by
  have H1 := Lib.hid h1
  have H2 := Lib.hid h2
  clear h1 h2
  by_cases hx : x = 0
  · have hxb : (x != 0) = false := by simp [hx]
    have HR : Hid ((if x = 0 then y else x) = y) := Lib.hid (if_pos hx)
    have HX := Lib.hid hx
    rw [HR.out]
    clear hx
    by_cases hy : y = 0
    · have hyb : (y != 0) = false := by simp [hy]
      have HY := Lib.hid hy
      clear hy
      go_enter Try.func72, Try.ntmps72
      go_wp2
      go_loop [8] (fun i => ∃ k : Nat, k ≤ 2 ∧ i = .int .i64 k) (fun i => 2 - (intOf i).toNat)
      case atStart => exact ⟨0, Nat.zero_le _, rfl⟩
      case round =>
        obtain ⟨k, hk, rfl⟩ := hrel
        by_cases hlt : k < 2
        · have hc : k = 0 ∨ k = 1 := by omega
          have c1 : w.cell? ⟨b, o + k, none⟩ = some (.int .i64 (if k = 0 then x else y)) := by
            rcases hc with rfl | rfl
            · exact H1.out
            · exact H2.out
          have hz : ((if k = 0 then x else y) != 0) = false := by split <;> assumption
          clear hc
          obtain ⟨z, hzz⟩ : ∃ z, (if k = 0 then x else y) = z := ⟨_, rfl⟩
          rw [hzz] at c1 hz
          clear hzz
          go_wp2
          go_round
          case rel => exact ⟨k + 1, by omega, by go_num⟩
          case measure => simp [intOf]; omega
        · go_wp2
          go_ret
          rw [HY.out]
          exact ⟨rfl, rfl⟩
    · have hyb : (y != 0) = true := by simpa using hy
      clear hy
      go_enter Try.func72, Try.ntmps72
      go_wp2
      go_loop [8] (fun i => ∃ k : Nat, k ≤ 1 ∧ i = .int .i64 k) (fun i => 2 - (intOf i).toNat)
      case atStart => exact ⟨0, Nat.zero_le _, rfl⟩
      case round =>
        obtain ⟨k, hk, rfl⟩ := hrel
        by_cases hk0 : k = 0
        · subst hk0
          have c1 := H1.out
          go_wp2
          go_round
          case rel => exact ⟨1, by omega, by go_num⟩
          case measure => simp [intOf]
        · have hk1 : k = 1 := by omega
          subst hk1
          have c1 := H2.out
          clear hk0
          go_wp2
          go_ret
          exact ⟨rfl, rfl⟩
  · have hxb : (x != 0) = true := by simpa using hx
    rw [if_neg hx]
    have c1 := H1.out
    clear hx
    go_enter Try.func72, Try.ntmps72
    go_wp2
    go_loop [8] (fun i => i = .int .i64 0) (fun i => 2 - (intOf i).toNat)
    case atStart => exact rfl
    case round =>
      subst hrel
      go_wp2
      go_ret
      exact ⟨rfl, rfl⟩

theorem new_cell0 (w : World) (x y : Value) : (w.alloc (.cells #[x, y] 3)).cell? ⟨w.heap.size, 0, none⟩ = some x := by rw [Lib.cell_of_heap (World.alloc_heap_new w _)]; rfl
theorem new_cell1 (w : World) (x y : Value) : (w.alloc (.cells #[x, y] 3)).cell? ⟨w.heap.size, 0 + 1, none⟩ = some y := by rw [Lib.cell_of_heap (World.alloc_heap_new w _)]; rfl
def cmpE (a b : Int × Int) : Int := if cmpI a.1 b.1 = 0 then cmpI a.2 b.2 else cmpI a.1 b.1
set_option maxRecDepth 100000 in
theorem comparePairs_any (a b : Int × Int) (w : World) :
    Calls Try.prog 64 #[.agg #[.int .i64 a.1, .int .i64 a.2], .agg #[.int .i64 b.1, .int .i64 b.2]] w fun e w' => e = .returned (.int .i64 (cmpE a b)) ∧ Below w.heap.size w w' := by
  have C1 := Lib.hid (fun w => (cmp_any a.1 b.1 w).mono (fun e w' h => (⟨h.1, h.2.symm⟩ : e = .returned (.int .i64 (cmpI a.1 b.1)) ∧ w' = w)))
  have C2 := Lib.hid (fun w => (cmp_any a.2 b.2 w).mono (fun e w' h => (⟨h.1, h.2.symm⟩ : e = .returned (.int .i64 (cmpI a.2 b.2)) ∧ w' = w)))
  unfold cmpE
  obtain ⟨x, hx⟩ : ∃ x, cmpI a.1 b.1 = x := ⟨_, rfl⟩
  obtain ⟨y, hy⟩ : ∃ y, cmpI a.2 b.2 = y := ⟨_, rfl⟩
  rw [hx, hy]
  obtain ⟨r, hr⟩ : ∃ r, (if x = 0 then y else x) = r := ⟨_, rfl⟩
  have HRR := Lib.hid hr
  rw [hr]
  clear hr
  rw [hx] at C1
  rw [hy] at C2
  clear hx hy
  go_enter Try.func64, Try.ntmps64
  go_wp2
  refine wp_region_still_tail 10 (by kernel_rfl) (by kernel_rfl) ?_
  obtain ⟨w2, hw2⟩ : ∃ w2, ((w.alloc (Obj.cells #[Value.int IntKind.i64 a.fst, Value.int IntKind.i64 a.snd] 42)).alloc (Obj.cells #[Value.int IntKind.i64 b.fst, Value.int IntKind.i64 b.snd] 42)).drew = w2 := ⟨_, rfl⟩
  have b2 : Below w.heap.size w w2 := by rw [← hw2]; exact (((Below.refl _ w).alloc (Nat.le_refl _) _).alloc (by simp) _).drew
  have hz : w2.heap.size = w.heap.size + 1 + 1 := by rw [← hw2]; simp [World.drew]
  have g1 : w2.heap[w.heap.size]? = some (.cells #[.int .i64 a.1, .int .i64 a.2] 42 (0, 0)) := by rw [← hw2]; exact (Below.heap_alloc _ _ _ (by simp)).trans (World.alloc_heap_new w _)
  have g2 : w2.heap[w.heap.size + 1]? = some (.cells #[.int .i64 b.1, .int .i64 b.2] 42 (0, 0)) := by
    rw [← hw2]
    have := World.alloc_heap_new (w.alloc (Obj.cells #[Value.int IntKind.i64 a.fst, Value.int IntKind.i64 a.snd] 42)) (Obj.cells #[Value.int IntKind.i64 b.fst, Value.int IntKind.i64 b.snd] 42)
    rwa [World.size_alloc] at this
  have d1 : w2.cell? ⟨w.heap.size, 0, none⟩ = some (.int .i64 a.1) := by rw [Lib.cell_of_heap g1]; rfl
  have d2 : w2.cell? ⟨w.heap.size, 1, none⟩ = some (.int .i64 a.2) := by rw [Lib.cell_of_heap g1]; rfl
  have d3 : w2.cell? ⟨w.heap.size + 1, 0, none⟩ = some (.int .i64 b.1) := by rw [Lib.cell_of_heap g2]; rfl
  have d4 : w2.cell? ⟨w.heap.size + 1, 1, none⟩ = some (.int .i64 b.2) := by rw [Lib.cell_of_heap g2]; rfl
  change wpStill _ _ (((w.alloc (Obj.cells #[Value.int IntKind.i64 a.fst, Value.int IntKind.i64 a.snd] 42)).alloc (Obj.cells #[Value.int IntKind.i64 b.fst, Value.int IntKind.i64 b.snd] 42)).drew) (fun a' => wpList _ _ _ _ a' (((w.alloc (Obj.cells #[Value.int IntKind.i64 a.fst, Value.int IntKind.i64 a.snd] 42)).alloc (Obj.cells #[Value.int IntKind.i64 b.fst, Value.int IntKind.i64 b.snd] 42)).drew)) _ _
  rw [hw2]
  have HZ := Lib.hid hz
  clear hw2 g1 g2 hz
  simp only [List.take_succ_cons, List.take_zero, List.drop_succ_cons, List.drop_zero]
  repeat still_step
  still_call (C1.out _)
  repeat still_step
  still_call (C2.out _)
  repeat still_step
  refine wpStill_nil ?_
  clear d1 d2 d3 d4 C1 C2
  go_wp2_with fail
  refine (or_any _ _ _ x y _ (new_cell0 _ _ _) (new_cell1 _ _ _)).mono ?_
  rintro e w' ⟨rfl, rfl⟩
  rw [HRR.out]
  go_wp2
  go_ret
  exact ⟨rfl, b2.alloc (by rw [HZ.out]; omega) _⟩

theorem cmpE_low {p e : Int × Int} : 0 ≤ cmpE p e ↔ lowE p e := by
  unfold cmpE lowE cmpI
  obtain ⟨a, b⟩ := p
  obtain ⟨c, d⟩ := e
  simp only []
  split <;> split <;> (try split) <;> (try split) <;> constructor <;> intro h <;> omega


set_option maxRecDepth 100000 in
theorem isPair_any (n : Int) (u v : Int) (w : World) :
    Calls Try.prog 52 #[.int .i64 n, .agg #[.int .i64 u, .int .i64 v]] w fun e w' => e = .returned (.bool (decide (¬ badE n (u, v)))) ∧ Below w.heap.size w w' := by
  have b0 : Below w.heap.size w (w.alloc (.cells #[.int .i64 u, .int .i64 v] 42)) := (Below.refl _ w).alloc (Nat.le_refl _) _
  obtain ⟨w1, hw1⟩ : ∃ w1, w.alloc (.cells #[.int .i64 u, .int .i64 v] 42) = w1 := ⟨_, rfl⟩
  have c0 : w1.cell? ⟨w.heap.size, 0, none⟩ = some (.int .i64 u) := by rw [← hw1]; simp
  have c1 : w1.cell? ⟨w.heap.size, 1, none⟩ = some (.int .i64 v) := by rw [← hw1]; simp
  rw [hw1] at b0
  have B0 := Lib.hid b0
  have N1 := Lib.hid (isElement_any n u)
  have N2 := Lib.hid (isElement_any n v)
  clear b0
  by_cases b1 : 0 ≤ u ∧ u < n
  · by_cases b2 : 0 ≤ v ∧ v < n
    · have HR : Hid (decide (¬ badE n (u, v)) = true) := Lib.hid (by rw [decide_eq_true_iff]; unfold badE; simp only []; omega)
      rw [decide_eq_true b1] at N1
      rw [decide_eq_true b2] at N2
      rw [HR.out]
      clear b1 b2
      go_enter Try.func52, Try.ntmps52
      go_wp2_with fail
      refine (N1.out _).mono ?_
      rintro e w1 ⟨rfl, rfl⟩
      go_wp2_with fail
      refine (N2.out _).mono ?_
      rintro e w1 ⟨rfl, rfl⟩
      go_wp2
      go_ret
      exact ⟨rfl, B0.out⟩
    · have HR : Hid (decide (¬ badE n (u, v)) = false) := Lib.hid (by rw [decide_eq_false_iff_not]; unfold badE; simp only []; omega)
      rw [decide_eq_true b1] at N1
      rw [decide_eq_false b2] at N2
      rw [HR.out]
      clear b1 b2
      go_enter Try.func52, Try.ntmps52
      go_wp2_with fail
      refine (N1.out _).mono ?_
      rintro e w1 ⟨rfl, rfl⟩
      go_wp2_with fail
      refine (N2.out _).mono ?_
      rintro e w1 ⟨rfl, rfl⟩
      go_wp2
      go_ret
      exact ⟨rfl, B0.out⟩
  · have HR : Hid (decide (¬ badE n (u, v)) = false) := Lib.hid (by rw [decide_eq_false_iff_not]; unfold badE; simp only []; omega)
    rw [decide_eq_false b1] at N1
    rw [HR.out]
    clear b1
    go_enter Try.func52, Try.ntmps52
    go_wp2_with fail
    refine (N1.out _).mono ?_
    rintro e w1 ⟨rfl, rfl⟩
    go_wp2
    go_ret
    exact ⟨rfl, B0.out⟩

/-- The error of the sizes alone. -/
def sizeE (n : Int) (k : Nat) : Int := if n < 0 ∨ 200 < n then 2 else if 2000 < k then 4 else 0
theorem checkSize_any (n : Int) (ad : Option Addr) (cap k : Nat) (w : World) (hk : k ≤ 9223372036854775807) :
    Calls Try.prog 51 #[.int .i64 n, .slice ad k cap] w fun e w' => e = .returned (.int .i64 (sizeE n k)) ∧ w = w' := by
  by_cases hn : n < 0
  · have HC : Hid (sizeE n k = 2) := Lib.hid (by unfold sizeE; rw [if_pos (.inl hn)])
    go_enter Try.func51, Try.ntmps51
    go_wp2
    go_ret
    rw [HC.out]
    exact ⟨rfl, rfl⟩
  · by_cases hn2 : 200 < n
    · have HC : Hid (sizeE n k = 2) := Lib.hid (by unfold sizeE; rw [if_pos (.inr hn2)])
      go_enter Try.func51, Try.ntmps51
      go_wp2
      go_ret
      rw [HC.out]
      exact ⟨rfl, rfl⟩
    · by_cases hl2 : 2000 < k
      · have HC : Hid (sizeE n k = 4) := Lib.hid (by unfold sizeE; rw [if_neg (by omega), if_pos hl2])
        have hd2 : decide ((2000 : Int) < (k : Int)) = true := by simp; omega
        go_enter Try.func51, Try.ntmps51
        go_wp2
        go_ret
        rw [HC.out]
        exact ⟨rfl, rfl⟩
      · have HC : Hid (sizeE n k = 0) := Lib.hid (by unfold sizeE; rw [if_neg (by omega), if_neg hl2])
        have hd2 : decide ((2000 : Int) < (k : Int)) = false := by simp; omega
        go_enter Try.func51, Try.ntmps51
        go_wp2
        go_ret
        rw [HC.out]
        exact ⟨rfl, rfl⟩

end Go.Proofs.Ytbfeiegjhcjbnaa
