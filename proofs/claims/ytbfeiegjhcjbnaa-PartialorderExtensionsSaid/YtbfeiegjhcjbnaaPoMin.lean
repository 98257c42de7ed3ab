/-
  The iterator that the program's minimal of partialorder returns: it yields the elements of which no predecessor is left, in ascending order.
-/
import Derived.RangeFuncNested
import Derived.RangeFuncBound
import Derived.RangeFuncCalls
import Derived.RangeFuncLeaves
import Derived.Shelf.Abstract
import Derived.Shelf.RegionOpen
import Derived.WalkKit
import Derived.OwnWalkIn
import Derived.TacticsInMore
import Derived.LoopNIn
import Derived.LoopIn
import Derived.Test.YtbfeiegjhcjbnaaPoLeft
namespace Go.Proofs.Ytbfeiegjhcjbnaa
open Go.RowKit Go.Shelf
attribute [local go_sem] Oper.semAt_some

/-- An element that fulfils the condition. -/
abbrev Mn (N : Nat) (p : Nat → Bool) : Type := { x : Nat // x < N ∧ p x = true }
def valsM {N : Nat} {p : Nat → Bool} (xs : List (Mn N p)) : List Nat := xs.map (·.1)
theorem valsM_snoc {N : Nat} {p : Nat → Bool} (xs : List (Mn N p)) (x : Mn N p) : valsM (xs ++ [x]) = valsM xs ++ [x.1] := by simp [valsM]
theorem valsM_length {N : Nat} {p : Nat → Bool} (xs : List (Mn N p)) : (valsM xs).length = xs.length := by simp [valsM]
/-- What a round that goes on keeps: the row of numbers. -/
def KG (Gl : Nat) (A B : World) : Prop := B.heap[Gl]? = A.heap[Gl]?
theorem NumAt.block {B G N c : Nat} {h : Nat → Int} {W W' : World} (hM : NumAt B G N c h W) (hb : W'.heap[G]? = W.heap[G]?) : NumAt B G N c h W' := by
  obtain ⟨h1, h2⟩ := hM
  refine ⟨h1, ?_⟩
  rcases h2 with ⟨e, _⟩ | ⟨g', cap, cur, e, hB, hgg, r⟩
  · cases e
  · cases e
    exact .inr ⟨_, _, cur, rfl, hB, hb.trans hgg, r⟩
def zeroB (h : Nat → Int) (j : Nat) : Bool := h j == 0

set_option maxRecDepth 100000 in
set_option maxHeartbeats 2000000 in
theorem min_walk (n : Nat) (hn : 1 ≤ n) (l Bl Gl Bm N c : Nat) (h : Nat → Int) (hN : N ≤ 200) (J Jx : List (Mn N (zeroB h)) → World → Prop)
    (hY : ∀ pre x W, J pre W → pre.length < 200 → YieldAt Fence.wide (n - 1) Try.prog l #[.int .i64 (x.1 : Int)] W fun e W' =>
      (e = .returned (.bool true) ∧ J (pre ++ [x]) W' ∧ KG Gl W W') ∨ (e = .returned (.bool false) ∧ Jx (pre ++ [x]) W'))
    (W : World) (hB : W.heap[Bm]? = some (.cells #[.slice (some ⟨Gl, 0, none⟩) N c] 23 (0, 0))) (hR : NumAt Bl Gl N c h W) (h0 : J [] W) :
    CallsIn Fence.wide n Try.prog 74 #[.func (.yield l) #[] #[], .pointer (some ⟨Bm, 0, none⟩)] W fun e W' => (∃ v, e = .returned v) ∧
      ((∃ xs, valsM xs = selN N (zeroB h) ∧ J xs W') ∨ ∃ pre, valsM pre <+: selN N (zeroB h) ∧ Jx pre W') := by
  refine callsIn_of_wp Try.func74 rfl trivial ?_ rfl
  simp only [Try.ntmps74, List.size_toArray, List.length_cons, List.length_nil, Nat.reduceAdd, Nat.reduceSub, Array.replicate_succ, Array.replicate_zero, List.push_toArray, List.append_toArray, List.nil_append, List.cons_append]
  have b1 := box_cell hB
  have HY := Lib.hid hY
  have HR := Lib.hid hR
  have HJ0 := Lib.hid h0
  clear hB hY hR h0
  gi_wp2
  gi_loopw [7] (fun j wr => ∃ (k : Nat) (pre : List (Mn N (zeroB h))), k ≤ N ∧ j = .int .i64 k ∧ Hid (valsM pre = selN k (zeroB h)) ∧ Hid (J pre wr) ∧ Hid (NumAt Bl Gl N c h wr)) (fun j _ => N - (intOf j).toNat)
  case atStart => exact ⟨0, [], Nat.zero_le _, rfl, Lib.hid rfl, HJ0, HR⟩
  case round =>
    obtain ⟨k, pre, hk, rfl, HV, HJr, HRr⟩ := hrel
    by_cases hlt : k < N
    · have k1 : (k : Int) < (N : Int) := by omega
      have c1 := HRr.out.cell hlt
      obtain ⟨z, hz⟩ : ∃ z, h k = z := ⟨_, rfl⟩
      rw [hz] at c1
      by_cases hz0 : z = 0
      · have hp : zeroB h k = true := by unfold zeroB; rw [hz, hz0]; rfl
        have hzb : (z == 0) = true := by rw [hz0]; rfl
        have hlen : pre.length < 200 := by
          have h1 := congrArg List.length HV.out
          have h2 := selN_length k (zeroB h)
          rw [valsM_length] at h1
          omega
        obtain ⟨fn, tmps, assign, body, hy, hRy⟩ := HY.out pre ⟨k, hlt, hp⟩ wr HJr.out hlen
        have HRY := Lib.hid hRy
        have HV2 : Hid (valsM (pre ++ [⟨k, hlt, hp⟩]) = selN (k + 1) (zeroB h)) := Lib.hid (by rw [valsM_snoc, HV.out, selN_yes hp])
        clear hz hz0 hlen hRy
        dsimp only at hy
        gi_wp2
        refine HRY.out.mono ?_
        rintro e W3 (⟨rfl, hJ3, hK3⟩ | ⟨rfl, hx3⟩)
        · have HJ3 := Lib.hid hJ3
          have HR3 := Lib.hid (HRr.out.block hK3)
          clear hJ3 hK3 hy HRY
          gi_wp2
          go_roundw
          case rel => exact ⟨k + 1, _, by omega, by go_num, HV2, HJ3, HR3⟩
          case measure => simp [intOf]; omega
        · have HX3 := Lib.hid hx3
          clear hx3 hy HRY
          gi_wp2
          refine bodyPost_ret (results_none rfl _ _ _) rfl ?_
          refine ⟨⟨_, rfl⟩, .inr ⟨_, ?_, HX3.out⟩⟩
          rw [HV2.out]
          exact selN_pre _ (by omega)
      · have hp : zeroB h k = false := by unfold zeroB; rw [hz, beq_eq_false_iff_ne]; exact hz0
        have hzb : (z == 0) = false := by rw [beq_eq_false_iff_ne]; exact hz0
        have HV2 : Hid (valsM pre = selN (k + 1) (zeroB h)) := Lib.hid (by rw [HV.out, selN_no hp])
        clear hz hz0 hp
        gi_wp2
        refine ⟨fun _ h => (by cases h), ?_⟩
        gi_wp2
        go_roundw
        case rel => exact ⟨k + 1, pre, by omega, by go_num, HV2, HJr, HRr⟩
        case measure => simp [intOf]; omega
    · obtain rfl : k = N := by omega
      gi_wp2
      go_end0
      exact ⟨⟨_, rfl⟩, .inl ⟨pre, HV.out, HJr.out⟩⟩

/-- The iterator's contract. -/
theorem min_stops (n : Nat) (hn : 1 ≤ n) (Bl Gl Bm N c : Nat) (h : Nat → Int) (hN : N ≤ 200) (w : World) (hB : w.heap[Bm]? = some (.cells #[.slice (some ⟨Gl, 0, none⟩) N c] 23 (0, 0))) (hR : NumAt Bl Gl N c h w) :
    SeqStopsK Fence.wide n Try.prog 74 #[.pointer (some ⟨Bm, 0, none⟩)] (fun x : Mn N (zeroB h) => #[Value.int .i64 (x.1 : Int)]) (KG Gl)
      (fun xs => valsM xs = selN N (zeroB h)) (fun pre => valsM pre <+: selN N (zeroB h)) 200 w := fun l J Jx W hW _ _ hY h0 => by
  have hlb := (Array.getElem?_eq_some_iff.1 hB).1
  exact min_walk n hn l Bl Gl Bm N c h hN J Jx hY W ((hW.block _ hlb).trans hB) (hR.block (hW.block _ hR.lt.2)) h0

/-- minimal boxes the numbers, and returns the iterator over them. -/
theorem minimal_any (v : Value) (w : World) (hv : ∃ a n c, v = .slice a n c) :
    Calls Try.prog 70 #[v] w fun e w' => e = .returned (.func (.func 74) #[] #[.pointer (some ⟨w.heap.size, 0, none⟩)]) ∧ w' = w.alloc (.cells #[v] 23) := by
  obtain ⟨a, n, c, rfl⟩ := hv
  go_enter Try.func70, Try.ntmps70
  go_wp2
  go_ret
  exact ⟨rfl, rfl⟩

end Go.Proofs.Ytbfeiegjhcjbnaa
