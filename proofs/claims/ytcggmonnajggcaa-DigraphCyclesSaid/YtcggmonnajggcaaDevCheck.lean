/-
  What the program's isNode, compareEdges and Check of digraph return.
-/
import Derived.RangeFuncNested
import Derived.RangeFuncBound
import Derived.RangeFuncCalls
import Derived.RangeFuncLeaves
import Derived.Shelf.Abstract
import Derived.WalkKit
import Derived.OwnWalkIn
import Derived.TacticsInMore
import Derived.LoopNIn
import Derived.LoopIn
import Derived.StillTailTactics
import Derived.Test.YtcggmonnajggcaaGraph
namespace Go.Proofs.Ytcggmonnajggcaa
open Go.RowKit

theorem isNode_any (n x : Int) (w : World) :
    Calls Try.prog 39 #[.int .i64 n, .int .i64 x] w fun e w' => e = .returned (.bool (decide (0 ≤ x ∧ x < n))) ∧ w = w' := by
  by_cases h1 : 0 ≤ x
  · by_cases h2 : x < n
    · have hd : decide (0 ≤ x ∧ x < n) = true := by simp [h1, h2]
      rw [hd]
      clear hd
      go_enter Try.func39, Try.ntmps39
      go_wp2
      go_ret
      exact ⟨rfl, rfl⟩
    · have hd : decide (0 ≤ x ∧ x < n) = false := by simp [h2]
      rw [hd]
      clear hd
      go_enter Try.func39, Try.ntmps39
      go_wp2
      go_ret
      exact ⟨rfl, rfl⟩
  · have hd : decide (0 ≤ x ∧ x < n) = false := by simp [h1]
    rw [hd]
    clear hd
    go_enter Try.func39, Try.ntmps39
    go_wp2
    go_ret
    exact ⟨rfl, rfl⟩

theorem isNaN_any (x : Int) (w : World) :
    Calls Try.prog 67 #[.int .i64 x] w fun e w' => e = .returned (.bool false) ∧ w = w' := by
  go_enter Try.func67, Try.ntmps67
  go_wp2
  go_ret
  exact ⟨rfl, rfl⟩
def cmpI (a b : Int) : Int := if a < b then -1 else if b < a then 1 else 0
theorem cmpI_lo {a b : Int} (h : a < b) : cmpI a b = -1 := by unfold cmpI; rw [if_pos h]
theorem cmpI_hi {a b : Int} (h : b < a) : cmpI a b = 1 := by unfold cmpI; rw [if_neg (by omega), if_pos h]
theorem cmpI_eq (a : Int) : cmpI a a = 0 := by unfold cmpI; rw [if_neg (by omega), if_neg (by omega)]
theorem cmp_any (a b : Int) (w : World) :
    Calls Try.prog 59 #[.int .i64 a, .int .i64 b] w fun e w' => e = .returned (.int .i64 (cmpI a b)) ∧ w = w' := by
  have N1 := Lib.hid (isNaN_any a)
  have N2 := Lib.hid (isNaN_any b)
  by_cases h1 : a < b
  · rw [cmpI_lo h1]
    go_enter Try.func59, Try.ntmps59
    go_wp2_with fail
    refine (N1.out _).mono ?_
    rintro e w1 ⟨rfl, rfl⟩
    go_wp2_with fail
    refine (N2.out _).mono ?_
    rintro e w1 ⟨rfl, rfl⟩
    go_wp2
    go_ret
    exact ⟨rfl, rfl⟩
  · by_cases h2 : b < a
    · rw [cmpI_hi h2]
      go_enter Try.func59, Try.ntmps59
      go_wp2_with fail
      refine (N1.out _).mono ?_
      rintro e w1 ⟨rfl, rfl⟩
      go_wp2_with fail
      refine (N2.out _).mono ?_
      rintro e w1 ⟨rfl, rfl⟩
      go_wp2
      go_ret
      exact ⟨rfl, rfl⟩
    · have hab : a = b := by omega
      subst hab
      rw [cmpI_eq]
      clear h1 h2
      have h1 : ¬ a < a := by omega
      go_enter Try.func59, Try.ntmps59
      go_wp2_with fail
      refine (N1.out _).mono ?_
      rintro e w1 ⟨rfl, rfl⟩
      go_wp2_with fail
      refine (N2.out _).mono ?_
      rintro e w1 ⟨rfl, rfl⟩
      go_wp2
      go_ret
      exact ⟨rfl, rfl⟩

theorem or_any (b o c : Nat) (x y : Int) (w : World) (h1 : w.cell? ⟨b, o, none⟩ = some (.int .i64 x)) (h2 : w.cell? ⟨b, o + 1, none⟩ = some (.int .i64 y)) :
    Calls Try.prog 58 #[.slice (some ⟨b, o, none⟩) 2 c] w fun e w' => e = .returned (.int .i64 (if x = 0 then y else x)) ∧ w = w' := by
  have H1 := Lib.hid h1
  have H2 := Lib.hid h2
  clear h1 h2
  by_cases hx : x = 0
  · have hxb : (x != 0) = false := by simp [hx]
    have HR : Hid ((if x = 0 then y else x) = y) := Lib.hid (if_pos hx)
    have HX := Lib.hid hx
    rw [HR.out]
    clear hx
    by_cases hy : y = 0
    · have hyb : (y != 0) = false := by simp [hy]
      have HY := Lib.hid hy
      clear hy
      go_enter Try.func58, Try.ntmps58
      go_wp2
      go_loop [8] (fun i => ∃ k : Nat, k ≤ 2 ∧ i = .int .i64 k) (fun i => 2 - (intOf i).toNat)
      case atStart => exact ⟨0, Nat.zero_le _, rfl⟩
      case round =>
        obtain ⟨k, hk, rfl⟩ := hrel
        by_cases hlt : k < 2
        · have hc : k = 0 ∨ k = 1 := by omega
          have c1 : w.cell? ⟨b, o + k, none⟩ = some (.int .i64 (if k = 0 then x else y)) := by
            rcases hc with rfl | rfl
            · exact H1.out
            · exact H2.out
          have hz : ((if k = 0 then x else y) != 0) = false := by split <;> assumption
          clear hc
          obtain ⟨z, hzz⟩ : ∃ z, (if k = 0 then x else y) = z := ⟨_, rfl⟩
          rw [hzz] at c1 hz
          clear hzz
          go_wp2
          go_round
          case rel => exact ⟨k + 1, by omega, by go_num⟩
          case measure => simp [intOf]; omega
        · go_wp2
          go_ret
          rw [HY.out]
          exact ⟨rfl, rfl⟩
    · have hyb : (y != 0) = true := by simpa using hy
      clear hy
      go_enter Try.func58, Try.ntmps58
      go_wp2
      go_loop [8] (fun i => ∃ k : Nat, k ≤ 1 ∧ i = .int .i64 k) (fun i => 2 - (intOf i).toNat)
      case atStart => exact ⟨0, Nat.zero_le _, rfl⟩
      case round =>
        obtain ⟨k, hk, rfl⟩ := hrel
        by_cases hk0 : k = 0
        · subst hk0
          have c1 := H1.out
          go_wp2
          go_round
          case rel => exact ⟨1, by omega, by go_num⟩
          case measure => simp [intOf]
        · have hk1 : k = 1 := by omega
          subst hk1
          have c1 := H2.out
          clear hk0
          go_wp2
          go_ret
          exact ⟨rfl, rfl⟩
  · have hxb : (x != 0) = true := by simpa using hx
    rw [if_neg hx]
    have c1 := H1.out
    clear hx
    go_enter Try.func58, Try.ntmps58
    go_wp2
    go_loop [8] (fun i => i = .int .i64 0) (fun i => 2 - (intOf i).toNat)
    case atStart => exact rfl
    case round =>
      subst hrel
      go_wp2
      go_ret
      exact ⟨rfl, rfl⟩

theorem new_cell0 (w : World) (x y : Value) : (w.alloc (.cells #[x, y] 3)).cell? ⟨w.heap.size, 0, none⟩ = some x := by rw [Lib.cell_of_heap (World.alloc_heap_new w _)]; rfl
theorem new_cell1 (w : World) (x y : Value) : (w.alloc (.cells #[x, y] 3)).cell? ⟨w.heap.size, 0 + 1, none⟩ = some y := by rw [Lib.cell_of_heap (World.alloc_heap_new w _)]; rfl
def cmpE (a b : Int × Int) : Int := if cmpI a.1 b.1 = 0 then cmpI a.2 b.2 else cmpI a.1 b.1
set_option maxRecDepth 100000 in
theorem compareEdges_any (a b : Int × Int) (w : World) :
    Calls Try.prog 40 #[.agg #[.int .i64 a.1, .int .i64 a.2], .agg #[.int .i64 b.1, .int .i64 b.2]] w fun e w' => e = .returned (.int .i64 (cmpE a b)) ∧ Below w.heap.size w w' := by
  have C1 := Lib.hid (fun w => (cmp_any a.1 b.1 w).mono (fun e w' h => (⟨h.1, h.2.symm⟩ : e = .returned (.int .i64 (cmpI a.1 b.1)) ∧ w' = w)))
  have C2 := Lib.hid (fun w => (cmp_any a.2 b.2 w).mono (fun e w' h => (⟨h.1, h.2.symm⟩ : e = .returned (.int .i64 (cmpI a.2 b.2)) ∧ w' = w)))
  unfold cmpE
  obtain ⟨x, hx⟩ : ∃ x, cmpI a.1 b.1 = x := ⟨_, rfl⟩
  obtain ⟨y, hy⟩ : ∃ y, cmpI a.2 b.2 = y := ⟨_, rfl⟩
  rw [hx, hy]
  obtain ⟨r, hr⟩ : ∃ r, (if x = 0 then y else x) = r := ⟨_, rfl⟩
  have HRR := Lib.hid hr
  rw [hr]
  clear hr
  rw [hx] at C1
  rw [hy] at C2
  clear hx hy
  go_enter Try.func40, Try.ntmps40
  go_wp2
  refine wp_region_still_tail 10 (by kernel_rfl) (by kernel_rfl) ?_
  obtain ⟨w2, hw2⟩ : ∃ w2, ((w.alloc (Obj.cells #[Value.int IntKind.i64 a.fst, Value.int IntKind.i64 a.snd] 40)).alloc (Obj.cells #[Value.int IntKind.i64 b.fst, Value.int IntKind.i64 b.snd] 40)).drew = w2 := ⟨_, rfl⟩
  have b2 : Below w.heap.size w w2 := by rw [← hw2]; exact (((Below.refl _ w).alloc (Nat.le_refl _) _).alloc (by simp) _).drew
  have hz : w2.heap.size = w.heap.size + 1 + 1 := by rw [← hw2]; simp [World.drew]
  have g1 : w2.heap[w.heap.size]? = some (.cells #[.int .i64 a.1, .int .i64 a.2] 40 (0, 0)) := by rw [← hw2]; exact (Below.heap_alloc _ _ _ (by simp)).trans (World.alloc_heap_new w _)
  have g2 : w2.heap[w.heap.size + 1]? = some (.cells #[.int .i64 b.1, .int .i64 b.2] 40 (0, 0)) := by
    rw [← hw2]
    have := World.alloc_heap_new (w.alloc (Obj.cells #[Value.int IntKind.i64 a.fst, Value.int IntKind.i64 a.snd] 40)) (Obj.cells #[Value.int IntKind.i64 b.fst, Value.int IntKind.i64 b.snd] 40)
    rwa [World.size_alloc] at this
  have d1 : w2.cell? ⟨w.heap.size, 0, none⟩ = some (.int .i64 a.1) := by rw [Lib.cell_of_heap g1]; rfl
  have d2 : w2.cell? ⟨w.heap.size, 1, none⟩ = some (.int .i64 a.2) := by rw [Lib.cell_of_heap g1]; rfl
  have d3 : w2.cell? ⟨w.heap.size + 1, 0, none⟩ = some (.int .i64 b.1) := by rw [Lib.cell_of_heap g2]; rfl
  have d4 : w2.cell? ⟨w.heap.size + 1, 1, none⟩ = some (.int .i64 b.2) := by rw [Lib.cell_of_heap g2]; rfl
  change wpStill _ _ (((w.alloc (Obj.cells #[Value.int IntKind.i64 a.fst, Value.int IntKind.i64 a.snd] 40)).alloc (Obj.cells #[Value.int IntKind.i64 b.fst, Value.int IntKind.i64 b.snd] 40)).drew) (fun a' => wpList _ _ _ _ a' (((w.alloc (Obj.cells #[Value.int IntKind.i64 a.fst, Value.int IntKind.i64 a.snd] 40)).alloc (Obj.cells #[Value.int IntKind.i64 b.fst, Value.int IntKind.i64 b.snd] 40)).drew)) _ _
  rw [hw2]
  have HZ := Lib.hid hz
  clear hw2 g1 g2 hz
  simp only [List.take_succ_cons, List.take_zero, List.drop_succ_cons, List.drop_zero]
  repeat still_step
  still_call (C1.out _)
  repeat still_step
  still_call (C2.out _)
  repeat still_step
  refine wpStill_nil ?_
  clear d1 d2 d3 d4 C1 C2
  go_wp2_with fail
  refine (or_any _ _ _ x y _ (new_cell0 _ _ _) (new_cell1 _ _ _)).mono ?_
  rintro e w' ⟨rfl, rfl⟩
  rw [HRR.out]
  go_wp2
  go_ret
  exact ⟨rfl, b2.alloc (by rw [HZ.out]; omega) _⟩

theorem below_drewN0 {B k : Nat} {w w' : World} (h : Below B w w') : Below B w (w'.drewN k) := ⟨h.os, h.tape, h.output, h.size, h.block⟩
theorem cmpE_low {p e : Int × Int} : 0 ≤ cmpE p e ↔ lowE p e := by
  unfold cmpE lowE cmpI
  obtain ⟨a, b⟩ := p
  obtain ⟨c, d⟩ := e
  simp only []
  split <;> split <;> (try split) <;> (try split) <;> constructor <;> intro h <;> omega

set_option maxRecDepth 100000 in
set_option maxHeartbeats 4000000 in
theorem devCheck_any (n : Int) (ad : Option Addr) (cap : Nat) (es : List (Int × Int)) (w : World) (hE : EdgesA w.heap.size w ad es) (hl : es.length ≤ 9223372036854775807) :
    Calls Try.prog 13 #[.int .i64 n, .slice ad es.length cap] w fun e w' => e = .returned (.int .i64 (chkE n es)) ∧ Below w.heap.size w w' := by
  by_cases hn : n < 0
  · have HC : Hid (chkE n es = 2) := Lib.hid (by unfold chkE; rw [if_pos (.inl hn)])
    clear hE
    go_enter Try.func13, Try.ntmps13
    go_wp2
    go_ret
    rw [HC.out]
    exact ⟨rfl, Below.refl _ _⟩
  · by_cases hn2 : 200 < n
    · have HC : Hid (chkE n es = 2) := Lib.hid (by unfold chkE; rw [if_pos (.inr hn2)])
      clear hE
      go_enter Try.func13, Try.ntmps13
      go_wp2
      go_ret
      rw [HC.out]
      exact ⟨rfl, Below.refl _ _⟩
    · by_cases hl2 : 2000 < es.length
      · have HC : Hid (chkE n es = 4) := Lib.hid (by unfold chkE; rw [if_neg (by omega), if_pos hl2])
        have hd2 : decide ((2000 : Int) < (es.length : Int)) = true := by simp; omega
        clear hE
        go_enter Try.func13, Try.ntmps13
        go_wp2
        go_ret
        rw [HC.out]
        exact ⟨rfl, Below.refl _ _⟩
      · have HC : Hid (chkE n es = chkL n none es) := Lib.hid (by unfold chkE; rw [if_neg (by omega), if_neg hl2])
        have HE := Lib.hid hE
        have hd2 : decide ((2000 : Int) < (es.length : Int)) = false := by simp; omega
        obtain ⟨R, hR⟩ : ∃ R, chkL n none es = R := ⟨_, rfl⟩
        rw [HC.out, hR]
        have H0 : Hid (R = chkL n (prevE es 0) (es.drop 0)) := Lib.hid (by rw [← hR]; rfl)
        have HC2 : Hid (R = chkL n none es) := Lib.hid hR.symm
        clear hE HC hR
        go_enter Try.func13, Try.ntmps13
        go_wp2
        go_loopw [18] (fun i wr => ∃ k : Nat, k ≤ es.length ∧ i = .int .i64 k ∧ Below w.heap.size w wr ∧ Hid (R = chkL n (prevE es k) (es.drop k))) (fun i _ => es.length - (intOf i).toNat)
        case atStart => exact ⟨0, Nat.zero_le _, rfl, Below.refl _ _, H0⟩
        case round =>
          obtain ⟨k, hk, rfl, hb, HI⟩ := hrel
          by_cases hlt : k < es.length
          · obtain ⟨b, off, rfl, hbb, hc⟩ := HE.out.some_ (by omega)
            obtain ⟨d1, d2⟩ := hc k hlt
            obtain ⟨⟨u, v⟩, hx⟩ : ∃ e, es[k]?.getD (0, 0) = e := ⟨_, rfl⟩
            rw [hx] at d1 d2
            simp only [] at d1 d2
            have c1 := (hb.cell (p := ⟨b, off + k * 2, none⟩) hbb).trans d1
            have c2 := (hb.cell (p := ⟨b, off + k * 2 + 1, none⟩) hbb).trans d2
            have hsz := hb.size
            have B2 := Lib.hid (hb.alloc hsz (.cells #[.int .i64 u, .int .i64 v] 40))
            have HB := Lib.hid hb
            clear d1 d2 hb
            have N1 := Lib.hid (isNode_any n u)
            have N2 := Lib.hid (isNode_any n v)
            by_cases b1 : 0 ≤ u ∧ u < n
            · by_cases b2 : 0 ≤ v ∧ v < n
              · have hnb : ¬ badE n (u, v) := by unfold badE; simp only []; omega
                rw [decide_eq_true b1] at N1
                rw [decide_eq_true b2] at N2
                clear b1 b2
                by_cases h0 : k = 0
                · have HN : Hid (R = chkL n (prevE es (k + 1)) (es.drop (k + 1))) := Lib.hid (by rw [HC2.out]; exact chk_next hlt hx hnb (fun h => absurd h0 h) (by rw [← HC2.out]; exact HI.out))
                  have gd : decide ((0 : Int) < (k : Int)) = false := by simp; omega
                  have gd2 : decide (0 < k) = false := by simp; omega
                  clear hc hx hnb h0
                  go_wp2_with fail
                  refine (N1.out _).mono ?_
                  rintro e w1 ⟨rfl, rfl⟩
                  go_wp2_with fail
                  refine (N2.out _).mono ?_
                  rintro e w1 ⟨rfl, rfl⟩
                  go_wp2_with fail
                  go_quiet (fail)
                  go_wp2
                  go_roundw
                  case rel => exact ⟨k + 1, by omega, by go_num, below_drewN0 B2.out, Lib.hid HN.out⟩
                  case measure => simp [intOf]; omega
                · obtain ⟨e1, e2⟩ := hc (k - 1) (by omega)
                  obtain ⟨p, hp⟩ : ∃ e, es[k - 1]?.getD (0, 0) = e := ⟨_, rfl⟩
                  rw [hp] at e1 e2
                  have g1 := (HB.out.cell (p := ⟨b, off + (k - 1) * 2, none⟩) hbb).trans e1
                  have g2 := (HB.out.cell (p := ⟨b, off + (k - 1) * 2 + 1, none⟩) hbb).trans e2
                  have gd : decide ((0 : Int) < (k : Int)) = true := by simp; omega
                  have gd2 : decide (0 < k) = true := by simp; omega
                  have k1 : (1 : Int) ≤ (k : Int) := by omega
                  have k2 : (0 : Int) ≤ (k : Int) - 1 := by omega
                  have k3 : (k : Int) - 1 < (es.length : Int) := by omega
                  have k4 : ((k : Int) - 1).toNat = k - 1 := by omega
                  have CE := Lib.hid (compareEdges_any p (u, v))
                  obtain ⟨z, hz⟩ : ∃ z, cmpE p (u, v) = z := ⟨_, rfl⟩
                  rw [hz] at CE
                  by_cases hlo : lowE p (u, v)
                  · have HR : Hid (R = 9) := Lib.hid (by rw [HC2.out]; exact chk_low hlt hx hnb h0 hp hlo (by rw [← HC2.out]; exact HI.out))
                    have hz0 : 0 ≤ z := by rw [← hz]; exact cmpE_low.2 hlo
                    clear hc hx hnb h0 hp hlo hz
                    go_wp2_with fail
                    refine (N1.out _).mono ?_
                    rintro e w1 ⟨rfl, rfl⟩
                    go_wp2_with fail
                    refine (N2.out _).mono ?_
                    rintro e w1 ⟨rfl, rfl⟩
                    go_wp2_with fail
                    refine wp_region_still_tail 9 (by kernel_rfl) (by kernel_rfl) ?_
                    obtain ⟨W2, hW2⟩ : ∃ W2, ((wr.alloc (.cells #[.int .i64 u, .int .i64 v] 40))).drew = W2 := ⟨_, rfl⟩
                    have q0 : W2.heap[wr.heap.size]? = some (.cells #[.int .i64 u, .int .i64 v] 40 (0, 0)) := by rw [← hW2]; exact World.alloc_heap_new wr _
                    have q1 : W2.cell? ⟨wr.heap.size, 0, none⟩ = some (.int .i64 u) := by rw [Lib.cell_of_heap q0]; rfl
                    have q2 : W2.cell? ⟨wr.heap.size, 1, none⟩ = some (.int .i64 v) := by rw [Lib.cell_of_heap q0]; rfl
                    have q3 : W2.cell? ⟨b, off + (k - 1) * 2, none⟩ = some (.int .i64 p.1) := by rw [← hW2]; exact ((B2.out.drew).cell (p := ⟨b, off + (k - 1) * 2, none⟩) hbb).trans e1
                    have q4 : W2.cell? ⟨b, off + (k - 1) * 2 + 1, none⟩ = some (.int .i64 p.2) := by rw [← hW2]; exact ((B2.out.drew).cell (p := ⟨b, off + (k - 1) * 2 + 1, none⟩) hbb).trans e2
                    have BW : Hid (Below w.heap.size w W2) := Lib.hid (by rw [← hW2]; exact B2.out.drew)
                    change wpStill _ _ ((wr.alloc (.cells #[.int .i64 u, .int .i64 v] 40))).drew (fun a' => wpList _ _ _ _ a' ((wr.alloc (.cells #[.int .i64 u, .int .i64 v] 40))).drew) _ _
                    rw [hW2]
                    have kw : IntKind.i64.wrap ((k : Int) - 1) = (k : Int) - 1 := IntWalk.i64_in _ (by omega)
                    clear hW2 q0 g1 g2 e1 e2
                    simp only [List.take_succ_cons, List.take_zero, List.drop_succ_cons, List.drop_zero]
                    repeat still_step
                    refine wpStill_nil ?_
                    clear q1 q2 q3 q4 kw
                    go_wp2_with fail
                    refine (CE.out _).mono ?_
                    rintro e w1 ⟨rfl, b1⟩
                    have B3 := Lib.hid (BW.out.trans (b1.mono BW.out.size))
                    clear b1
                    go_wp2
                    go_ret
                    rw [HR.out]
                    exact ⟨rfl, B3.out⟩
                  · have HN : Hid (R = chkL n (prevE es (k + 1)) (es.drop (k + 1))) := Lib.hid (by rw [HC2.out]; exact chk_next hlt hx hnb (fun _ => by rw [hp]; exact hlo) (by rw [← HC2.out]; exact HI.out))
                    have hz0 : z < 0 := by
                      have := mt cmpE_low.1 hlo
                      rw [hz] at this
                      omega
                    clear hc hx hnb h0 hp hlo hz
                    go_wp2_with fail
                    refine (N1.out _).mono ?_
                    rintro e w1 ⟨rfl, rfl⟩
                    go_wp2_with fail
                    refine (N2.out _).mono ?_
                    rintro e w1 ⟨rfl, rfl⟩
                    go_wp2_with fail
                    refine wp_region_still_tail 9 (by kernel_rfl) (by kernel_rfl) ?_
                    obtain ⟨W2, hW2⟩ : ∃ W2, ((wr.alloc (.cells #[.int .i64 u, .int .i64 v] 40))).drew = W2 := ⟨_, rfl⟩
                    have q0 : W2.heap[wr.heap.size]? = some (.cells #[.int .i64 u, .int .i64 v] 40 (0, 0)) := by rw [← hW2]; exact World.alloc_heap_new wr _
                    have q1 : W2.cell? ⟨wr.heap.size, 0, none⟩ = some (.int .i64 u) := by rw [Lib.cell_of_heap q0]; rfl
                    have q2 : W2.cell? ⟨wr.heap.size, 1, none⟩ = some (.int .i64 v) := by rw [Lib.cell_of_heap q0]; rfl
                    have q3 : W2.cell? ⟨b, off + (k - 1) * 2, none⟩ = some (.int .i64 p.1) := by rw [← hW2]; exact ((B2.out.drew).cell (p := ⟨b, off + (k - 1) * 2, none⟩) hbb).trans e1
                    have q4 : W2.cell? ⟨b, off + (k - 1) * 2 + 1, none⟩ = some (.int .i64 p.2) := by rw [← hW2]; exact ((B2.out.drew).cell (p := ⟨b, off + (k - 1) * 2 + 1, none⟩) hbb).trans e2
                    have BW : Hid (Below w.heap.size w W2) := Lib.hid (by rw [← hW2]; exact B2.out.drew)
                    change wpStill _ _ ((wr.alloc (.cells #[.int .i64 u, .int .i64 v] 40))).drew (fun a' => wpList _ _ _ _ a' ((wr.alloc (.cells #[.int .i64 u, .int .i64 v] 40))).drew) _ _
                    rw [hW2]
                    have kw : IntKind.i64.wrap ((k : Int) - 1) = (k : Int) - 1 := IntWalk.i64_in _ (by omega)
                    clear hW2 q0 g1 g2 e1 e2
                    simp only [List.take_succ_cons, List.take_zero, List.drop_succ_cons, List.drop_zero]
                    repeat still_step
                    refine wpStill_nil ?_
                    clear q1 q2 q3 q4 kw
                    go_wp2_with fail
                    refine (CE.out _).mono ?_
                    rintro e w1 ⟨rfl, b1⟩
                    have B3 := Lib.hid (BW.out.trans (b1.mono BW.out.size))
                    clear b1
                    go_wp2
                    go_roundw
                    case rel => exact ⟨k + 1, by omega, by go_num, B3.out, Lib.hid HN.out⟩
                    case measure => simp [intOf]; omega
              · have HR : Hid (R = 2) := Lib.hid (by rw [HC2.out]; exact chk_bad hlt hx (by unfold badE; simp only []; omega) (by rw [← HC2.out]; exact HI.out))
                rw [decide_eq_true b1] at N1
                rw [decide_eq_false b2] at N2
                clear b1 b2 hc hx
                go_wp2_with fail
                refine (N1.out _).mono ?_
                rintro e w1 ⟨rfl, rfl⟩
                go_wp2_with fail
                refine (N2.out _).mono ?_
                rintro e w1 ⟨rfl, rfl⟩
                go_wp2
                go_ret
                rw [HR.out]
                exact ⟨rfl, B2.out⟩
            · have HR : Hid (R = 2) := Lib.hid (by rw [HC2.out]; exact chk_bad hlt hx (by unfold badE; simp only []; omega) (by rw [← HC2.out]; exact HI.out))
              rw [decide_eq_false b1] at N1
              clear b1 hc hx
              go_wp2_with fail
              refine (N1.out _).mono ?_
              rintro e w1 ⟨rfl, rfl⟩
              go_wp2
              go_ret
              rw [HR.out]
              exact ⟨rfl, B2.out⟩
          · have HR : Hid (R = 0) := Lib.hid (by have := HI.out; rw [List.drop_of_length_le (by omega)] at this; rw [this]; rfl)
            go_wp2
            go_ret
            rw [HR.out]
            exact ⟨rfl, hb⟩

end Go.Proofs.Ytcggmonnajggcaa
