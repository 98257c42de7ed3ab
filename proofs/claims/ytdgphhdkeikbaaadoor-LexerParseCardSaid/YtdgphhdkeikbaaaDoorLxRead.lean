/-
  The program's read: the reader gives up by a panic, which is recovered.
-/
import Derived.Recover
import Derived.Defers
import Derived.Test.YtdgphhdkeikbaaaDoorLxExp
namespace Go.Proofs.YtdgphhdkeikbaaaDoor
set_option linter.unusedSimpArgs false
set_option linter.unusedVariables false
open Go.RowKit

theorem readers (f : Nat) : OpdC f ∧ ExpC f := by
  induction f using Nat.strongRecOn with
  | ind f ih =>
  cases f with
  | zero => exact ⟨fun w b m a c ts i h hne => absurd rfl hne, fun p w b m a c ts i h1 h2 h hne => absurd rfl hne⟩
  | succ f => exact ⟨operand_any f (ih f (by omega)).1 (ih f (by omega)).2, expression_any f (fun g hg => ih g (by omega))⟩
theorem expr_run (w : World) (b m : Nat) (a : Option Addr) (c : Nat) (ts : List Tk) (h : RdI w b m a c ts 0) :
    Calls Tryd.prog 49 #[.pointer (some ⟨b, 0, none⟩), .int .i64 1] w (RdPost w b m a c ts 0 (pE ts)) := by
  have := (readers (8 * ts.length + 8)).2 1 w b m a c ts 0 (by decide) (by decide) h (pE_ne ts)
  exact this
theorem typeAsU (n : Int) (V : World) : (Instr.typeAssert (.iface TUx (.int .i64 n)) 20 TUx false).run Tryd.prog V = .ok (.int .i64 n) V := by kernel_rfl
set_option maxRecDepth 100000 in
theorem catch_up (g : Nat) (n : Int) (w : World) (c0 c1 c2 : Array Value)
    (h0 : w.heap[g]? = some (.cells #[.int .i64 0, .int .i64 0, .string ⟨#[]⟩, .int .i64 0, nilX] TX (0, 0))) (h1 : w.heap[g + 1]? = some (.cells #[.int .i64 0] 3 (0, 0))) (h2 : w.heap[g + 2]? = some (.cells #[.int .i64 0] 27 (0, 0))) :
    CallsD Tryd.prog 47 #[.pointer (some ⟨g, 0, none⟩), .pointer (some ⟨g + 1, 0, none⟩), .pointer (some ⟨g + 2, 0, none⟩)] (.panicking [{ v := .iface TUx (.int .i64 n), recovered := false }]) w fun e u' w' =>
      e = .returned (.tuple #[]) ∧ u' = .panicking [{ v := .iface TUx (.int .i64 n), recovered := true }] ∧ w'.heap[g]? = some (.cells #[.int .i64 0, .int .i64 0, .string ⟨#[]⟩, .int .i64 0, nilX] TX (0, 0)) ∧ w'.heap[g + 1]? = some (.cells #[.int .i64 n] 3 (0, 0)) ∧ w'.heap[g + 2]? = some (.cells #[.int .i64 3] 27 (0, 0)) ∧ Below g w w' := by
  refine callsD_of_wpS Tryd.func47 rfl fun c₀ cs hu => ?_
  apply wpS_seq
  apply wpS_region
  simp [wpOpsS, go_sem, recoverD, hu, Tryd.ntmps47, Exit.thenS]
  apply wpS_seq
  apply wpS_region
  simp [wpOpsS, go_sem, recoverD, hu, Tryd.ntmps47, Exit.thenS]
  refine wpS_cond (t := true) (by simp [Act.eval, Array.replicate]) ?_
  simp only [if_true]
  refine wpS_of_wp ?_
  change Code.wp Tryd.prog _ _ { tmps := #[.pointer (some ⟨g, 0, none⟩), .pointer (some ⟨g + 1, 0, none⟩), .pointer (some ⟨g + 2, 0, none⟩), .iface TUx (.int .i64 n), .iface TUx (.int .i64 n), .iface TUx (.int .i64 n), .bool true, undef, undef, undef], defers := [] } w
  refine wp_region_held (S := fun V => g < V.heap.size) (by kernel_rfl) ?_
  change wpAnyH _ _ _ _ _ _ _ _ w.drew
  obtain ⟨W, hW⟩ : ∃ V, w.drew = V := ⟨_, rfl⟩
  have k0 : W.heap[g]? = some (.cells #[.int .i64 0, .int .i64 0, .string ⟨#[]⟩, .int .i64 0, nilX] TX (0, 0)) := by rw [← hW]; exact h0
  have k1 : W.heap[g + 1]? = some (.cells #[.int .i64 0] 3 (0, 0)) := by rw [← hW]; exact h1
  have k2 : W.heap[g + 2]? = some (.cells #[.int .i64 0] 27 (0, 0)) := by rw [← hW]; exact h2
  have kb : Below g w W := by rw [← hW]; exact (Below.refl _ _).drew
  rw [hW]
  clear hW h0 h1 h2
  refine wpAnyH_read (i := 0) (v := .agg #[.int .i64 0, .int .i64 0, .string ⟨#[]⟩, .int .i64 0, nilX]) rfl (by kernel_rfl) (by kernel_rfl) (by kernel_rfl) (fun _ _ _ h => h) (by rfl) (by intro V _; go_simp) (ltH k0) ?_
  simp only [Act.put, List.setIfInBounds_toArray, List.set_cons_zero, List.set_cons_succ]
  refine wpAnyH_read (i := 1) (v := .iface TUx (.int .i64 n)) rfl (by kernel_rfl) (by kernel_rfl) (by kernel_rfl) (fun _ _ _ h => h) (by rfl) (fun _ _ => rfl) (ltH k0) ?_
  simp only [Act.put, List.setIfInBounds_toArray, List.set_cons_zero, List.set_cons_succ]
  refine wpAnyH_read (i := 2) (v := .int .i64 n) rfl (by kernel_rfl) (by kernel_rfl) (by kernel_rfl) (fun _ _ _ h => h) (by rfl) (by intro V _; have hTA := typeAsU n V; go_simp) (ltH k0) ?_
  simp only [Act.put, List.setIfInBounds_toArray, List.set_cons_zero, List.set_cons_succ]
  obtain ⟨V1, hV1⟩ : ∃ V, W.setRow g #[.int .i64 0, .int .i64 0, .string ⟨#[]⟩, .int .i64 0, nilX] = V := ⟨_, rfl⟩
  have m0 : V1.heap[g]? = some (.cells #[.int .i64 0, .int .i64 0, .string ⟨#[]⟩, .int .i64 0, nilX] TX (0, 0)) := by rw [← hV1]; exact setRow_heap _ _ _ _ _ _ k0
  have mo : ∀ k, k ≠ g → V1.heap[k]? = W.heap[k]? := fun k hk => by
    rw [← hV1]
    simp only [World.setRow, Array.getElem?_modify]
    rw [if_neg (fun e => hk e.symm)]
  have m1 := (mo (g + 1) (by omega)).trans k1
  have m2 := (mo (g + 2) (by omega)).trans k2
  have mb : Below g w V1 := by rw [← hV1]; exact below_setRow kb (Nat.le_refl _) _
  have d1 : V1.cell? ⟨g + 1, 0, none⟩ = some (.int .i64 0) := by rw [Lib.cell_of_heap m1]; rfl
  have z1 : V1.frozen? ⟨g + 1, 0, none⟩ = false := by simp [World.frozen?, m1]
  have HV1 := Lib.hid hV1
  clear mo hV1
  refine wpAnyH_next (i := 3) rfl (by kernel_rfl) ?_
  go_wp2_with (refine wpList_store_row rfl TX (.tmp 0) (.tmp 7) rfl g #[.int .i64 0, .int .i64 0, .string ⟨#[]⟩, .int .i64 0, nilX] rfl rfl _ _ k0 (by kernel_rfl) rfl (by simp [Value.oneCell']) ?_)
  try rw [HV1.out]
  refine ⟨ltH m0, ?_⟩
  refine wpAnyH_next (i := 4) rfl (by kernel_rfl) ?_
  obtain ⟨V2, hV2⟩ : ∃ V, V1.setCell ⟨g + 1, 0, none⟩ (.int .i64 n) = V := ⟨_, rfl⟩
  have n1 : V2.heap[g + 1]? = some (.cells #[.int .i64 n] 3 (0, 0)) := by
    rw [← hV2]; simpa using heap_setCell_same V1 (g + 1) 0 _ _ (.int .i64 n) m1
  have n0 : V2.heap[g]? = some (.cells #[.int .i64 0, .int .i64 0, .string ⟨#[]⟩, .int .i64 0, nilX] TX (0, 0)) := by rw [← hV2, Below.heap_setCell _ _ _ _ (by simp)]; exact m0
  have n2 : V2.heap[g + 2]? = some (.cells #[.int .i64 0] 27 (0, 0)) := by rw [← hV2, Below.heap_setCell _ _ _ _ (by simp)]; exact m2
  have nb : Below g w V2 := by rw [← hV2]; exact mb.setCell (Nat.le_succ g) _
  have d2 : V2.cell? ⟨g + 2, 0, none⟩ = some (.int .i64 0) := by rw [Lib.cell_of_heap n2]; rfl
  have z2 : V2.frozen? ⟨g + 2, 0, none⟩ = false := by simp [World.frozen?, n2]
  clear m0 m1 m2 k0 k1 k2 kb
  go_wp2_with fail
  try rw [hV2]
  clear hV2
  refine ⟨ltH n0, ?_⟩
  obtain ⟨V3, hV3⟩ : ∃ V, V2.setCell ⟨g + 2, 0, none⟩ (.int .i64 3) = V := ⟨_, rfl⟩
  have e2 : V3.heap[g + 2]? = some (.cells #[.int .i64 3] 27 (0, 0)) := by
    rw [← hV3]; simpa using heap_setCell_same V2 (g + 2) 0 _ _ (.int .i64 3) n2
  have e0 : V3.heap[g]? = some (.cells #[.int .i64 0, .int .i64 0, .string ⟨#[]⟩, .int .i64 0, nilX] TX (0, 0)) := by rw [← hV3, Below.heap_setCell _ _ _ _ (by simp)]; exact n0
  have e1 : V3.heap[g + 1]? = some (.cells #[.int .i64 n] 3 (0, 0)) := by rw [← hV3, Below.heap_setCell _ _ _ _ (by simp)]; exact n1
  have eb : Below g w V3 := by rw [← hV3]; exact nb.setCell (show g ≤ g + 2 by omega) _
  refine wpAnyH_next (i := 5) rfl (by kernel_rfl) ?_
  clear n0 n1 n2
  go_wp2_with fail
  try rw [hV3]
  refine ⟨ltH e0, ?_⟩
  refine wpAnyH_done (by kernel_rfl) ?_ _
  exact ⟨rfl, _, rfl, _, results_none Tryd.results47 _ _ _, rfl, rfl, e0, e1, e2, eb⟩
end Go.Proofs.YtdgphhdkeikbaaaDoor
