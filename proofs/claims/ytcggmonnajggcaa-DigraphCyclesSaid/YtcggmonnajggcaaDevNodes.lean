/-
  What the program's nodesWith of digraph returns, whatever condition it is handed.
-/
import Derived.Test.YtcggmonnajggcaaDevAhead
import Derived.Test.YtcggmonnajggcaaDigGives
namespace Go.Proofs.Ytcggmonnajggcaa
open Go.RowKit

/-- The nodes that fulfil a condition. -/
def selN (N : Nat) (p : Nat → Bool) : List Nat := (List.range N).filter p
theorem selN_zero (p : Nat → Bool) : selN 0 p = [] := rfl
theorem selN_yes {k : Nat} {p : Nat → Bool} (h : p k = true) : selN (k + 1) p = selN k p ++ [k] := by
  unfold selN
  rw [List.range_succ, List.filter_append]
  simp [h]
theorem selN_no {k : Nat} {p : Nat → Bool} (h : p k = false) : selN (k + 1) p = selN k p := by
  unfold selN
  rw [List.range_succ, List.filter_append]
  simp [h]
theorem selN_length (N : Nat) (p : Nat → Bool) : (selN N p).length ≤ N := by
  unfold selN
  have := List.length_filter_le p (List.range N)
  simpa using this
theorem mem_selN {N : Nat} {p : Nat → Bool} {x : Nat} : x ∈ selN N p ↔ x < N ∧ p x = true := by
  unfold selN
  simp

/-- Numbers in a row of the call's own, or none. -/
def OwnN (B : Nat) (l : List Nat) (v : Value) (w : World) : Prop := w.ownsRow B TI 1 v l.length (natV l)
theorem OwnN.nil (B : Nat) (w : World) : OwnN B [] (.slice none 0 0) w := World.ownsRow_nil _ _ _ _
/-- A condition that only reads: its call returns whether a node fulfils it. -/
def Cond (B N : Nat) (f : Nat) (caps : Array Value) (p : Nat → Bool) (w : World) : Prop := ∀ (j : Nat) (W : World), j < N → Below B w W → Calls Try.prog f (#[.int .i64 (j : Int)] ++ caps) W fun e W' => e = .returned (.bool (p j)) ∧ ∃ q, W' = W.drewN q

set_option maxRecDepth 100000 in
set_option maxHeartbeats 4000000 in
theorem nodesWith_any (N f : Nat) (caps : Array Value) (p : Nat → Bool) (w : World) (hN : N ≤ 200) (heg : ∀ args w, (callFunc f args).run Try.prog w = .ok (.enter f args) w) (hC : Cond w.heap.size N f caps p w) :
    Calls Try.prog 42 #[.int .i64 (N : Int), .func (.func f) #[] caps] w fun e w' => ∃ v, e = .returned v ∧ OwnN w.heap.size (selN N p) v w' ∧ Below w.heap.size w w' := by
  obtain ⟨i1, ji, jz0, jz1, jz2⟩ := info_parts infoI
  have HC := Lib.hid hC
  clear hC
  go_enter Try.func42, Try.ntmps42
  go_wp2
  go_loopw [5, 8] (fun v i wr => ∃ k : Nat, k ≤ N ∧ i = .int .i64 k ∧ Hid (OwnN w.heap.size (selN k p) v wr) ∧ Below w.heap.size w wr) (fun _ i _ => N - (intOf i).toNat)
  case atStart => exact ⟨0, Nat.zero_le _, rfl, Lib.hid (OwnN.nil _ _), Below.refl _ _⟩
  case round =>
    obtain ⟨k, hk, rfl, HO, hb⟩ := hrel
    by_cases hlt : k < N
    · have HCK := Lib.hid (HC.out k wr hlt hb)
      obtain ⟨b, hpb⟩ : ∃ b, p k = b := ⟨_, rfl⟩
      rw [hpb] at HCK
      cases b
      · have HN : Hid (selN (k + 1) p = selN k p) := Lib.hid (selN_no hpb)
        clear hpb
        go_wp2_with fail
        refine HCK.out.mono ?_
        rintro e w1 ⟨rfl, q, rfl⟩
        go_wp2
        go_roundw
        case rel => exact ⟨k + 1, by omega, by go_num, Lib.hid (by rw [HN.out]; exact HO.out), below_drewN0 hb⟩
        case measure => simp [intOf]; omega
      · have HN : Hid (selN (k + 1) p = selN k p ++ [k]) := Lib.hid (selN_yes hpb)
        have hsz := hb.size
        have hll := selN_length k p
        clear hpb
        go_wp2_with fail
        refine HCK.out.mono ?_
        rintro e w1 ⟨rfl, q, rfl⟩
        have ho : (wr.drewN q).ownsRow w.heap.size TI 1 u5 (selN k p).length (natV (selN k p)) := HO.out
        go_wp2_with (at_builtin; refine wpList_append_own _ rfl _ _ 28 rfl w.heap.size TI i1 (.int .i64 0) 1 8 Try.underlying28 ji jz0 jz1 jz2 rfl (by decide) _ _ _ rfl (ho.alloc _) ⟨wr.heap.size, 0, none⟩ 1 1 [.int .i64 (k : Int)] rfl rfl (newCell _ _ TI) (one_one _) (by unfold maxLen; omega) (by omega) (by simp; omega) ?_)
        intro v' w3 hown' hgrow hnil
        have HO3 : Hid (OwnN w.heap.size (selN (k + 1) p) v' w3) := Lib.hid (by rw [HN.out]; unfold OwnN; simpa [natV] using hown')
        have HB3 : Hid (Below w.heap.size w w3) := Lib.hid (((below_drewN0 (k := q) hb).alloc hsz _).grown hgrow (by simp; omega) (fun i hi => (ho.lt i hi).1))
        clear hown' hgrow hnil ho
        go_wp2
        go_roundw
        case rel => exact ⟨k + 1, by omega, by go_num, HO3, HB3.out⟩
        case measure => simp [intOf]; omega
    · have HN : Hid (OwnN w.heap.size (selN N p) u5 wr) := Lib.hid (by
        have h : k = N := by omega
        exact h ▸ HO.out)
      go_wp2
      go_ret
      exact ⟨_, rfl, HN.out, hb⟩

end Go.Proofs.Ytcggmonnajggcaa
