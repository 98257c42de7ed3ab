/-
  The iterator that the program's due of timers returns: it yields the timers that are due, in order.
-/
import Derived.RangeFuncNested
import Derived.RangeFuncBound
import Derived.RangeFuncCalls
import Derived.RangeFuncLeaves
import Derived.Shelf.Abstract
import Derived.Shelf.RegionOpen
import Derived.WalkKit
import Derived.OwnWalkIn
import Derived.TacticsInMore
import Derived.LoopNIn
import Derived.LoopIn
import Derived.Test.YtcmcgcogahkamaaTmGet
namespace Go.Proofs.Ytcmcgcogahkamaa
open Go.RowKit Go.Shelf
attribute [local go_sem] Oper.semAt_some

theorem box_cell {W : World} {B : Nat} {v : Value} {t : TypeId} (h : W.heap[B]? = some (.cells #[v] t (0, 0))) : W.cell? ⟨B, 0, none⟩ = some v := by rw [Lib.cell_of_heap h]; rfl
/-- What a round that goes on keeps: what lay below n₀, and the box of now. -/
def KS (n₀ Bx : Nat) (A B : World) : Prop := Below n₀ A B ∧ B.heap[Bx]? = A.heap[Bx]?
theorem dueN_end {ts : List Tm} {now : Int} {k : Nat} (hk : k ≤ ts.length) (h1 : ∀ j, j < k → (gt ts j).1 ≤ now) (h2 : k < ts.length → now < (gt ts k).1) : dueN ts now = k :=
  len_takeWhile hk (fun j hj => decide_eq_true (h1 j hj)) (fun hlt => decide_eq_false (by have := h2 hlt; omega))
/-- The timers, in blocks below n₀. -/
def LowT (n₀ : Nat) (W : World) (ad : Option Addr) (ts : List Tm) : Prop := TmA (fun b => b < n₀) W ad ts
theorem LowT.below {n₀ : Nat} {A B : World} {ad : Option Addr} {ts : List Tm} (h : LowT n₀ A ad ts) (hb : Below n₀ A B) : LowT n₀ B ad ts := TmA.keep h hb.size (fun b _ hb' => hb.block b hb')

set_option maxRecDepth 100000 in
set_option maxHeartbeats 2000000 in
theorem due_walk (n : Nat) (hn : 1 ≤ n) (l n₀ Bl Bn : Nat) (ad : Option Addr) (cap : Nat) (ts : List Tm) (now : Int) (hl : ts.length ≤ 1000) (J Jx : List Tm → World → Prop) (hJd : ∀ s W W', J s W → W.grownBy W' none → J s W')
    (hY : ∀ pre x W, J pre W → pre.length < 1000 → YieldAt Fence.wide (n - 1) Try.prog l #[.agg #[.int .i64 x.1, .int .i64 x.2.1, .int .i64 x.2.2]] W fun e W' =>
      (e = .returned (.bool true) ∧ J (pre ++ [x]) W' ∧ KS n₀ Bn W W') ∨ (e = .returned (.bool false) ∧ Jx (pre ++ [x]) W'))
    (W : World) (hBl : W.heap[Bl]? = some (.cells #[.slice ad ts.length cap] 22 (0, 0))) (hBn : W.heap[Bn]? = some (.cells #[.int .i64 now] 3 (0, 0))) (hE : LowT n₀ W ad ts) (hn₀ : n₀ ≤ W.heap.size) (h0 : J [] W) :
    CallsIn Fence.wide n Try.prog 62 #[.func (.yield l) #[] #[], .pointer (some ⟨Bl, 0, none⟩), .pointer (some ⟨Bn, 0, none⟩)] W fun e W' => (∃ v, e = .returned v) ∧
      ((∃ xs, xs = ts.take (dueN ts now) ∧ J xs W') ∨ ∃ pre, True ∧ Jx pre W') := by
  refine callsIn_of_wp Try.func62 rfl trivial ?_ rfl
  simp only [Try.ntmps62, List.size_toArray, List.length_cons, List.length_nil, Nat.reduceAdd, Nat.reduceSub, Array.replicate_succ, Array.replicate_zero, List.push_toArray, List.append_toArray, List.nil_append, List.cons_append]
  have c1 := box_cell hBl
  have HBN := Lib.hid hBn
  have HE := Lib.hid hE
  have HJ := Lib.hid hJd
  have HY := Lib.hid hY
  have HJ0 := Lib.hid h0
  have HN0 := Lib.hid hn₀
  clear hBl hBn hE hJd hY h0 hn₀
  gi_wp2
  gi_loopw [8] (fun j wr => ∃ k : Nat, k ≤ ts.length ∧ j = .int .i64 k ∧ Hid (∀ i, i < k → (gt ts i).1 ≤ now) ∧ Hid (J (ts.take k) wr) ∧ Hid (Below n₀ W wr) ∧ Hid (n₀ ≤ wr.heap.size) ∧ Hid (wr.heap[Bn]? = some (.cells #[.int .i64 now] 3 (0, 0)))) (fun j _ => ts.length - (intOf j).toNat)
  case atStart => exact ⟨0, Nat.zero_le _, rfl, Lib.hid (fun i hi => by omega), HJ0, Lib.hid (Below.refl _ _), HN0, HBN⟩
  case round =>
    obtain ⟨k, hk, rfl, HD, HJr, HBr, HNr, HBxr⟩ := hrel
    by_cases hlt : k < ts.length
    · obtain ⟨bo, off, rfl, _, hbb, d0, d1, d2⟩ := (HE.out.below HBr.out) k hlt
      obtain ⟨⟨a, b, c⟩, ht⟩ : ∃ t, gt ts k = t := ⟨_, rfl⟩
      rw [ht] at d0 d1 d2
      simp only [] at d0 d1 d2
      have hbx := box_cell HBxr.out
      have HBxr2 : Hid ((wr.alloc (.cells #[.int .i64 a, .int .i64 b, .int .i64 c] TT)).heap[Bn]? = some (.cells #[.int .i64 now] 3 (0, 0))) := Lib.hid ((Below.heap_alloc _ _ _ (Array.getElem?_eq_some_iff.1 HBxr.out).1).trans HBxr.out)
      have hbx2 := box_cell HBxr2.out
      have k1 : (k : Int) < (ts.length : Int) := by omega
      have HJ2 : Hid (J (ts.take k) (wr.alloc (.cells #[.int .i64 a, .int .i64 b, .int .i64 c] TT))) := Lib.hid (HJ.out _ _ _ HJr.out (World.grownBy_alloc _ _ none))
      have HBr2 : Hid (Below n₀ W (wr.alloc (.cells #[.int .i64 a, .int .i64 b, .int .i64 c] TT))) := Lib.hid (HBr.out.alloc HNr.out _)
      by_cases hau : now < a
      · have HV : Hid (ts.take (dueN ts now) = ts.take k) := Lib.hid (by rw [dueN_end (Nat.le_of_lt hlt) HD.out (fun _ => by rw [ht]; exact hau)])
        gi_wp2
        refine ⟨fun _ h => (by cases h), ?_⟩
        gi_wp2
        refine bodyPost_ret (results_none rfl _ _ _) rfl ?_
        exact ⟨⟨_, rfl⟩, .inl ⟨_, HV.out.symm, HJ2.out⟩⟩
      · have hle : a ≤ now := by omega
        have HD2 : Hid (∀ i, i < k + 1 → (gt ts i).1 ≤ now) := Lib.hid (fun i hi => by
          by_cases e : i = k
          · rw [e, ht]; exact hle
          · exact HD.out i (by omega))
        have HTK : Hid (ts.take k ++ [(a, b, c)] = ts.take (k + 1)) := Lib.hid (by rw [take_snocT ts k hlt, ht])
        have hyy := HY.out (ts.take k) (a, b, c) _ HJ2.out (by rw [List.length_take]; omega)
        obtain ⟨fn, tmps, assign, body, hy, hR⟩ := hyy
        have HRR := Lib.hid hR
        clear hR ht
        gi_wp2
        refine HRR.out.mono ?_
        rintro e W3 (⟨rfl, hJ3, hK3⟩ | ⟨rfl, hx3⟩)
        · have HJ3 := Lib.hid hJ3
          have HK3 := Lib.hid hK3
          clear hJ3 hK3 hy HRR
          gi_wp2
          go_roundw
          case rel => exact ⟨k + 1, by omega, by go_num, HD2, Lib.hid (by rw [← HTK.out]; exact HJ3.out), Lib.hid (HBr2.out.trans HK3.out.1), Lib.hid (Nat.le_trans HNr.out (Nat.le_trans (by simp) HK3.out.1.size)), Lib.hid (HK3.out.2.trans HBxr2.out)⟩
          case measure => simp [intOf]; omega
        · have HX3 := Lib.hid hx3
          clear hx3 hy HRR
          gi_wp2
          refine bodyPost_ret (results_none rfl _ _ _) rfl ?_
          exact ⟨⟨_, rfl⟩, .inr ⟨_, trivial, HX3.out⟩⟩
    · obtain rfl : k = ts.length := by omega
      have HV : Hid (ts.take (dueN ts now) = ts.take ts.length) := Lib.hid (by rw [dueN_end (Nat.le_refl _) HD.out (fun h => by omega)])
      gi_wp2
      go_end0
      exact ⟨⟨_, rfl⟩, .inl ⟨_, HV.out.symm, HJr.out⟩⟩

/-- The iterator's contract. -/
theorem due_stops (n : Nat) (hn : 1 ≤ n) (n₀ Bl Bn : Nat) (ad : Option Addr) (cap : Nat) (ts : List Tm) (now : Int) (hl : ts.length ≤ 1000)
    (w : World) (hBl : w.heap[Bl]? = some (.cells #[.slice ad ts.length cap] 22 (0, 0))) (hBn : w.heap[Bn]? = some (.cells #[.int .i64 now] 3 (0, 0))) (hE : LowT n₀ w ad ts) (hn₀ : n₀ ≤ w.heap.size) :
    SeqStopsK Fence.wide n Try.prog 62 #[.pointer (some ⟨Bl, 0, none⟩), .pointer (some ⟨Bn, 0, none⟩)] (fun x : Tm => #[Value.agg #[.int .i64 x.1, .int .i64 x.2.1, .int .i64 x.2.2]]) (KS n₀ Bn)
      (fun xs => xs = ts.take (dueN ts now)) (fun _ => True) 1000 w := fun l J Jx W hW hJ _ hY h0 => by
  have hlg := (Array.getElem?_eq_some_iff.1 hBl).1
  have hlx := (Array.getElem?_eq_some_iff.1 hBn).1
  exact due_walk n hn l n₀ Bl Bn ad cap ts now hl J Jx (fun s A B hs hg => hJ s A B none hs hg (fun r e => by cases e)) hY W ((hW.block _ hlg).trans hBl) ((hW.block _ hlx).trans hBn) (hE.below (hW.mono hn₀)) (Nat.le_trans hn₀ hW.size) h0

/-- due boxes the queue and now, and returns the iterator. -/
theorem due_any (ad : Option Addr) (len cap : Nat) (now : Int) (w : World) :
    Calls Try.prog 49 #[.slice ad len cap, .int .i64 now] w fun e w' => e = .returned (.func (.func 62) #[] #[.pointer (some ⟨w.heap.size, 0, none⟩), .pointer (some ⟨w.heap.size + 1, 0, none⟩)]) ∧ w' = (w.alloc (.cells #[.slice ad len cap] 22)).alloc (.cells #[.int .i64 now] 3) := by
  go_enter Try.func49, Try.ntmps49
  go_wp2
  go_ret
  exact ⟨rfl, rfl⟩

end Go.Proofs.Ytcmcgcogahkamaa
