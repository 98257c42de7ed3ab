/-
  The iterator that the program's successors of digraph returns: it yields the successors of a node, in ascending order.
-/
import Derived.RangeFuncNested
import Derived.RangeFuncBound
import Derived.RangeFuncCalls
import Derived.RangeFuncLeaves
import Derived.Shelf.Abstract
import Derived.Shelf.RegionOpen
import Derived.WalkKit
import Derived.OwnWalkIn
import Derived.TacticsInMore
import Derived.LoopNIn
import Derived.LoopIn
import Derived.Test.YtcggmonnajggcaaDevFirst
namespace Go.Proofs.Ytcggmonnajggcaa
open Go.RowKit Go.Shelf
attribute [local go_sem] Oper.semAt_some

/-- A successor of node u. -/
abbrev Suc (N : Nat) (g : List (Nat × Nat)) (u : Nat) : Type := { x : Nat // x < N ∧ (u, x) ∈ g }
def valsS {N : Nat} {g : List (Nat × Nat)} {u : Nat} (xs : List (Suc N g u)) : List Nat := xs.map (·.1)
theorem valsS_snoc {N : Nat} {g : List (Nat × Nat)} {u : Nat} (xs : List (Suc N g u)) (x : Suc N g u) : valsS (xs ++ [x]) = valsS xs ++ [x.1] := by simp [valsS]
theorem valsS_length {N : Nat} {g : List (Nat × Nat)} {u : Nat} (xs : List (Suc N g u)) : (valsS xs).length = xs.length := by simp [valsS]
/-- What a round that goes on keeps: what lay below n₀, and the node's variable. -/
def KS (n₀ Bx : Nat) (A B : World) : Prop := Below n₀ A B ∧ B.heap[Bx]? = A.heap[Bx]?
theorem grownOf {w w' : World} (h : Below w.heap.size w w') : w.grownBy w' none := ⟨h.os, h.tape, h.output, h.size, fun k hk _ => h.block k hk⟩
theorem box_cell {W : World} {B : Nat} {v : Value} {t : TypeId} (h : W.heap[B]? = some (.cells #[v] t (0, 0))) : W.cell? ⟨B, 0, none⟩ = some v := by rw [Lib.cell_of_heap h]; rfl
theorem box2_cell {W : World} {B : Nat} {u v : Value} {t : TypeId} (h : W.heap[B]? = some (.cells #[u, v] t (0, 0))) : W.cell? ⟨B, 0, none⟩ = some u ∧ W.cell? ⟨B, 1, none⟩ = some v := by rw [Lib.cell_of_heap h, Lib.cell_of_heap h]; exact ⟨rfl, rfl⟩

/-- The rest of the edges, as the iterator's slice expression gives it. -/
def RestE (n₀ : Nat) (W : World) (es : List (Int × Int)) (i : Nat) (ao : Option Addr) (m : Nat) : Prop := i + m = es.length ∧ EdgesA n₀ W ao (es.drop i)
theorem rest_slice (n₀ i : Nat) (ad : Option Addr) (cap : Nat) (es : List (Int × Int)) (W : World) (hE : EdgesA n₀ W ad es) (hcap : es.length ≤ cap) (hi : i ≤ es.length) :
    ∃ (ao : Option Addr) (m c2 : Nat), m ≤ es.length ∧ RestE n₀ W es i ao m ∧ ∀ w, (Instr.slice 22 (.slice ad es.length cap) (some (.int .i64 (i : Int))) none none).run Try.prog w = .ok (.slice ao m c2) w := by
  refine ⟨if cap = i then ad else ad.map (·.add (i * 2)), es.length - i, cap - i, by omega, ⟨by omega, fun j hj => ?_⟩, fun w => ?_⟩
  · simp only [List.length_drop] at hj
    obtain ⟨b, off, rfl, hb, h⟩ := hE.some_ (by omega)
    obtain ⟨h1, h2⟩ := h (i + j) (by omega)
    refine ⟨b, off + i * 2, by rw [if_neg (by omega)]; simp [Addr.add], hb, ?_, ?_⟩
    · rw [show off + i * 2 + j * 2 = off + (i + j) * 2 by omega, h1, List.getElem?_drop]
    · rw [show off + i * 2 + j * 2 + 1 = off + (i + j) * 2 + 1 by omega, h2, List.getElem?_drop]
  · rw [run_slice_l w 22 ad es.length cap (by kernel_rfl) .i64 (i : Int) (by omega) (by omega)]
    have hz : (sizeOf (Try.prog.elem 22)).run Try.prog w = .ok 2 w := by kernel_rfl
    rw [hz]
    simp [Result.andThen, sliced]

set_option maxRecDepth 100000 in
set_option maxHeartbeats 2000000 in
theorem succ_walk (n : Nat) (hn : 1 ≤ n) (l n₀ Bg Bx N u : Nat) (ad : Option Addr) (cap : Nat) (es : List (Int × Int)) (hl : es.length ≤ 2000) (hcap : es.length ≤ cap) (hok : OkE N es) (hs : SrtN (gN es)) (J Jx : List (Suc N (gN es) u) → World → Prop) (hJd : ∀ s W W', J s W → W.grownBy W' none → J s W')
    (hY : ∀ pre x W, J pre W → pre.length < 2000 → YieldAt Fence.wide (n - 1) Try.prog l #[.int .i64 (x.1 : Int)] W fun e W' =>
      (e = .returned (.bool true) ∧ J (pre ++ [x]) W' ∧ KS n₀ Bx W W') ∨ (e = .returned (.bool false) ∧ Jx (pre ++ [x]) W'))
    (W : World) (hBg : W.heap[Bg]? = some (.cells #[.int .i64 (N : Int), .slice ad es.length cap] 52 (0, 0))) (hBx : W.heap[Bx]? = some (.cells #[.int .i64 (u : Int)] 3 (0, 0))) (hE : EdgesA n₀ W ad es) (hn₀ : n₀ ≤ W.heap.size) (h0 : J [] W) :
    CallsIn Fence.wide n Try.prog 65 #[.func (.yield l) #[] #[], .pointer (some ⟨Bg, 0, none⟩), .pointer (some ⟨Bx, 0, none⟩)] W fun e W' => (∃ v, e = .returned v) ∧
      ((∃ xs, valsS xs = succN (gN es) u ∧ J xs W') ∨ ∃ pre, valsS pre <+: succN (gN es) u ∧ Jx pre W') := by
  refine callsIn_of_wp Try.func65 rfl trivial ?_ rfl
  simp only [Try.ntmps65, List.size_toArray, List.length_cons, List.length_nil, Nat.reduceAdd, Nat.reduceSub, Array.replicate_succ, Array.replicate_zero, List.push_toArray, List.append_toArray, List.nil_append, List.cons_append]
  have hmx : Try.prog.follows .mixedOrders = true := by kernel_rfl
  obtain ⟨g1, g2⟩ := box2_cell (W := W.drew) hBg
  have x1 := box_cell (W := W.drew) hBx
  have hff := firstEdge_any n₀ N u ad cap es W.drew hE hn₀ hl hok hs
  have HF := Lib.hid (hff.mono (R' := fun e w1 => ∃ (i m c2 : Nat) (ao : Option Addr), e = .returned (.int .i64 (i : Int)) ∧ (∀ w, (Instr.slice 22 (.slice ad es.length cap) (some (.int .i64 (i : Int))) none none).run Try.prog w = .ok (.slice ao m c2) w) ∧ w1.cell? ⟨Bg, 0, none⟩ = some (.int .i64 (N : Int)) ∧ w1.cell? ⟨Bg, 1, none⟩ = some (.slice ad es.length cap) ∧ m ≤ 2000 ∧ Hid (RestE n₀ W es i ao m) ∧ Hid (FirstOf (gN es) u i) ∧ Hid (Below W.heap.size W w1)) (by
    rintro e w1 ⟨i, rfl, hf, hb⟩
    obtain ⟨ao, m, c2, h1, h2, h3⟩ := rest_slice n₀ i ad cap es W hE hcap (by have := hf.1; rwa [gN_length] at this)
    have hb' : Below W.heap.size W w1 := ⟨hb.os, hb.tape, hb.output, hb.size, hb.block⟩
    have hg := Lib.cell_of_heap ((hb'.block Bg (Array.getElem?_eq_some_iff.1 hBg).1).trans hBg)
    exact ⟨i, m, c2, ao, rfl, h3, by rw [hg]; rfl, by rw [hg]; rfl, by omega, Lib.hid h2, Lib.hid hf, Lib.hid hb'⟩))
  clear hff
  have HBX := Lib.hid hBx
  have HE := Lib.hid hE
  have HJ := Lib.hid hJd
  have HY := Lib.hid hY
  have HS := Lib.hid hs
  have HOK := Lib.hid hok
  clear hBg hBx hE hJd hY hs hok
  gi_wp2
  gi_region_with_o (refine ⟨trivial, ?_⟩; gi_at_call 66; refine (callsIn_wide.2 HF.out).mono ?_; rintro e w1 ⟨i, m, c2, ao, rfl, h1, h2, h3, h4, h5, h6, h7⟩)
  all_goals
    have H5 := h5
    have H6 := h6
    have H7 := h7
    have HBx1 : Hid (w1.heap[Bx]? = some (.cells #[.int .i64 (u : Int)] 3 (0, 0))) := Lib.hid ((h7.out.block Bx (Array.getElem?_eq_some_iff.1 HBX.out).1).trans HBX.out)
    have HJ1 : Hid (J [] w1) := Lib.hid (HJ.out _ _ _ h0 (grownOf h7.out))
    have HE1 : Hid (EdgesA n₀ w1 ao (es.drop i)) := Lib.hid (h5.out.2.below (h7.out.mono hn₀))
    have HN1 : Hid (n₀ ≤ w1.heap.size) := Lib.hid (Nat.le_trans hn₀ h7.out.size)
    have HR0 : Hid (RunN (gN es) u i i) := Lib.hid (RunN.start h6.out)
    clear h5 h6 h7 h2 h3 h0 g1 g2 x1 HF
    gi_wp2
    gi_loopw [13] (fun j wr => ∃ (k : Nat) (pre : List (Suc N (gN es) u)), k ≤ m ∧ j = .int .i64 k ∧ Hid (RunN (gN es) u i (i + k)) ∧ Hid (valsS pre = endsN (gN es) i (i + k)) ∧ Hid (J pre wr) ∧ Hid (Below n₀ W wr) ∧ Hid (n₀ ≤ wr.heap.size) ∧ Hid (wr.heap[Bx]? = some (.cells #[.int .i64 (u : Int)] 3 (0, 0)))) (fun j _ => m - (intOf j).toNat)
    case atStart => exact ⟨0, [], Nat.zero_le _, rfl, HR0, Lib.hid (endsN_start _ _).symm, HJ1, Lib.hid (H7.out.mono hn₀), HN1, HBx1⟩
    case round =>
      obtain ⟨k, pre, hk, rfl, HR, HV, HJr, HBr, HNr, HBxr⟩ := hrel
      by_cases hlt : k < m
      · have him := H5.out.1
        obtain ⟨bo, off, rfl, hbb, hcc⟩ := (H5.out.2.below HBr.out).some_ (by simp; omega)
        obtain ⟨d1, d2⟩ := hcc k (by simp; omega)
        obtain ⟨a, v, he, ha, hv, hge⟩ := HOK.out.at_ (show i + k < es.length by omega)
        rw [List.getElem?_drop, he] at d1 d2
        simp only [] at d1 d2
        have hbx := box_cell HBxr.out
        have HBxr2 : Hid ((wr.alloc (.cells #[.int .i64 (a : Int), .int .i64 (v : Int)] 40)).heap[Bx]? = some (.cells #[.int .i64 (u : Int)] 3 (0, 0))) := Lib.hid ((Below.heap_alloc _ _ _ (Array.getElem?_eq_some_iff.1 HBxr.out).1).trans HBxr.out)
        have hbx2 := box_cell HBxr2.out
        have k1 : (k : Int) < (m : Int) := by omega
        have HJ2 : Hid (J pre (wr.alloc (.cells #[.int .i64 (a : Int), .int .i64 (v : Int)] 40))) := Lib.hid (HJ.out _ _ _ HJr.out (World.grownBy_alloc _ _ none))
        have HBr2 : Hid (Below n₀ W (wr.alloc (.cells #[.int .i64 (a : Int), .int .i64 (v : Int)] 40))) := Lib.hid (HBr.out.alloc HNr.out _)
        by_cases hau : a = u
        · have hab : ((a : Int) != (u : Int)) = false := by rw [hau]; simp
          have hmem : (u, v) ∈ gN es := by rw [← hau]; exact List.mem_of_getElem? hge
          have HR2 : Hid (RunN (gN es) u i (i + (k + 1))) := Lib.hid (HR.out.snoc hge hau)
          have HE2 : Hid (endsN (gN es) i (i + (k + 1)) = endsN (gN es) i (i + k) ++ [v]) := Lib.hid (endsN_snoc (by omega) hge)
          have hlen : pre.length = k := by
            have := congrArg List.length HV.out
            rw [valsS_length, endsN_length (by omega) (by rw [gN_length]; omega)] at this
            omega
          have hyy := HY.out pre ⟨v, hv, hmem⟩ _ HJ2.out (by omega)
          obtain ⟨fn, tmps, assign, body, hy, hR⟩ := hyy
          have HRR := Lib.hid hR
          clear hcc he hge hau hR hlen
          gi_wp2
          refine HRR.out.mono ?_
          rintro e W3 (⟨rfl, hJ3, hK3⟩ | ⟨rfl, hx3⟩)
          · have HJ3 := Lib.hid hJ3
            have HK3 := Lib.hid hK3
            clear hJ3 hK3 hy HRR
            gi_wp2
            go_roundw
            case rel => exact ⟨k + 1, pre ++ [⟨v, hv, hmem⟩], by omega, by go_num, HR2, Lib.hid (by rw [valsS_snoc, HV.out, HE2.out]), HJ3, Lib.hid (HBr2.out.trans HK3.out.1), Lib.hid (Nat.le_trans HNr.out (Nat.le_trans (by simp) HK3.out.1.size)), Lib.hid (HK3.out.2.trans HBxr2.out)⟩
            case measure => simp [intOf]; omega
          · have HX3 := Lib.hid hx3
            clear hx3 hy HRR
            gi_wp2
            refine bodyPost_ret (results_none rfl _ _ _) rfl ?_
            refine ⟨⟨_, rfl⟩, .inr ⟨_, ?_, HX3.out⟩⟩
            rw [valsS_snoc, HV.out, ← HE2.out]
            exact succ_prefix H6.out HR2.out
        · have hab : ((a : Int) != (u : Int)) = true := by rw [bne_iff_ne]; omega
          have HV2 : Hid (valsS pre = succN (gN es) u) := Lib.hid (by
            rw [HV.out]
            refine (succ_done HS.out H6.out HR.out (fun e hx => ?_)).symm
            rw [hge] at hx
            cases hx
            exact hau)
          have HJ2' := HJ2
          clear hcc he hge hau
          gi_wp2
          refine ⟨fun _ h => (by cases h), ?_⟩
          gi_wp2
          refine bodyPost_ret (results_none rfl _ _ _) rfl ?_
          exact ⟨⟨_, rfl⟩, .inl ⟨pre, HV2.out, HJ2.out⟩⟩
      · have hkm : k = m := by omega
        have HV2 : Hid (valsS pre = succN (gN es) u) := Lib.hid (by
          rw [HV.out]
          refine (succ_done HS.out H6.out HR.out (fun e he => ?_)).symm
          have := H5.out.1
          rw [List.getElem?_eq_none (by rw [gN_length]; omega)] at he
          cases he)
        clear hkm
        gi_wp2
        go_end0
        exact ⟨⟨_, rfl⟩, .inl ⟨pre, HV2.out, HJr.out⟩⟩

/-- The iterator's contract. -/
theorem succ_stops (n : Nat) (hn : 1 ≤ n) (n₀ Bg Bx N u : Nat) (ad : Option Addr) (cap : Nat) (es : List (Int × Int)) (hl : es.length ≤ 2000) (hcap : es.length ≤ cap) (hok : OkE N es) (hs : SrtN (gN es))
    (w : World) (hBg : w.heap[Bg]? = some (.cells #[.int .i64 (N : Int), .slice ad es.length cap] 52 (0, 0))) (hBx : w.heap[Bx]? = some (.cells #[.int .i64 (u : Int)] 3 (0, 0))) (hE : EdgesA n₀ w ad es) (hn₀ : n₀ ≤ w.heap.size) :
    SeqStopsK Fence.wide n Try.prog 65 #[.pointer (some ⟨Bg, 0, none⟩), .pointer (some ⟨Bx, 0, none⟩)] (fun x : Suc N (gN es) u => #[Value.int .i64 (x.1 : Int)]) (KS n₀ Bx)
      (fun xs => valsS xs = succN (gN es) u) (fun pre => valsS pre <+: succN (gN es) u) 2000 w := fun l J Jx W hW hJ _ hY h0 => by
  have hlg := (Array.getElem?_eq_some_iff.1 hBg).1
  have hlx := (Array.getElem?_eq_some_iff.1 hBx).1
  exact succ_walk n hn l n₀ Bg Bx N u ad cap es hl hcap hok hs J Jx (fun s A B hs hg => hJ s A B none hs hg (fun r e => by cases e)) hY W ((hW.block _ hlg).trans hBg) ((hW.block _ hlx).trans hBx) (hE.below (hW.mono hn₀)) (Nat.le_trans hn₀ hW.size) h0

/-- successors boxes the graph and the node, and returns the iterator over them. -/
theorem successors_any (N u : Nat) (ad : Option Addr) (len cap : Nat) (w : World) :
    Calls Try.prog 52 #[gV N ad len cap, .int .i64 (u : Int)] w fun e w' => e = .returned (.func (.func 65) #[] #[.pointer (some ⟨w.heap.size, 0, none⟩), .pointer (some ⟨w.heap.size + 1, 0, none⟩)]) ∧ w' = (w.alloc (.cells #[.int .i64 (N : Int), .slice ad len cap] 52)).alloc (.cells #[.int .i64 (u : Int)] 3) := by
  go_enter Try.func52, Try.ntmps52
  go_wp2
  go_ret
  exact ⟨rfl, rfl⟩

end Go.Proofs.Ytcggmonnajggcaa
