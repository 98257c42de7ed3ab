/-
  The table of operations, and what its functions return.
-/
import Derived.Laws.EntriesVeiled
import Derived.Laws.ResultCell
import Derived.Laws.Rows
import Derived.Laws.Tables
import Derived.Laws.CopyOwn
import Derived.Test.YtmgadcfiaipimaaDqTake
namespace Go.Proofs.Ytmgadcfiaipimaa
open Go.RowKit

/-- Function values without captures. -/
abbrev fnV (f : Nat) : Value := .func (.func f) #[] #[]
/-- The function that takeBy returns. -/
abbrev byV (g : Nat) : Value := .func (.func 58) #[] #[.pointer (some ⟨g, 0, none⟩)]
theorem boxV (w : World) (x : Value) (t : TypeId) : (w.alloc (.cells #[x] t)).cell? ⟨w.heap.size, 0, none⟩ = some x := by go_simp

set_option maxRecDepth 100000 in
theorem takeBy_any (f : Nat) (w : World) : Calls Try.prog 51 #[fnV f] w fun e w' => e = .returned (byV w.heap.size) ∧ w'.cell? ⟨w.heap.size, 0, none⟩ = some (fnV f) ∧ Below w.heap.size w w' := by
  have hB := (Below.refl w.heap.size w).alloc (Nat.le_refl _) (.cells #[fnV f] 28)
  have hC := boxV w (fnV f) 28
  have HB := Lib.hid hB
  have HC := Lib.hid hC
  clear hB hC
  go_enter Try.func51, Try.ntmps51
  go_wp2
  go_ret
  exact ⟨rfl, HC.out, HB.out⟩

abbrev TO : TypeId := 51
abbrev TO4 : TypeId := 59
theorem infoO4 : (Try.prog.info? TO4).map (fun i => (i.zero, i.size, i.bytes)) = some (some (.agg #[.nilFunc, .bool false, .nilFunc, .bool false, .nilFunc, .bool false, .nilFunc, .bool false]), 8, 64) := by kernel_rfl
theorem infoO : (Try.prog.info? TO).map (fun i => (i.zero, i.size, i.bytes)) = some (some (.agg #[.nilFunc, .bool false]), 2, 16) := by kernel_rfl

set_option maxRecDepth 100000 in
set_option maxHeartbeats 1000000 in
theorem operations_any (w : World) : Calls Try.prog 37 #[] w fun e w' => ∃ g h, e = .returned (.agg #[.nilFunc, .bool false, .func (.func 50) #[] #[], .bool false, .func (.func 58) #[] #[.pointer (some ⟨g, 0, none⟩)], .bool true, .func (.func 58) #[] #[.pointer (some ⟨h, 0, none⟩)], .bool true]) ∧ w'.cell? ⟨g, 0, none⟩ = some (fnV 14) ∧ w'.cell? ⟨h, 0, none⟩ = some (fnV 16) ∧ Below w.heap.size w w' := by
  obtain ⟨w1, hw1⟩ : ∃ W, w.alloc (.cells #[.nilFunc, .bool false, .nilFunc, .bool false, .nilFunc, .bool false, .nilFunc, .bool false] TO4) = W := ⟨_, rfl⟩
  have hb1 : Below w.heap.size w w1 := by rw [← hw1]; exact (Below.refl _ _).alloc (Nat.le_refl _) _
  have hh1 : w1.heap[w.heap.size]? = some (.cells #[.nilFunc, .bool false, .nilFunc, .bool false, .nilFunc, .bool false, .nilFunc, .bool false] TO4) := by rw [← hw1]; exact World.alloc_heap_new w _
  have HW := Lib.hid hw1
  have HB1 := Lib.hid hb1
  have HH1 := Lib.hid hh1
  have HT := Lib.hid (takeBy_any 14 w1)
  clear hw1 hb1 hh1
  go_enter Try.func37, Try.ntmps37
  go_wp2_with fail
  rw [HW.out]
  refine HT.out.mono ?_
  rintro e w2 ⟨rfl, c2, b2⟩
  have HB2 := Lib.hid (HB1.out.trans (b2.mono HB1.out.size))
  have HH2 := Lib.hid ((b2.block _ (Array.getElem?_eq_some_iff.1 HH1.out).1).trans HH1.out)
  have HC2 := Lib.hid c2
  have HT2 := Lib.hid (takeBy_any 16 w2)
  clear c2 b2
  go_wp2_with fail
  refine HT2.out.mono ?_
  rintro e w3 ⟨rfl, c3, b3⟩
  have HB3 := Lib.hid (HB2.out.trans (b3.mono HB2.out.size))
  have HH3 := Lib.hid ((b3.block _ (Array.getElem?_eq_some_iff.1 HH2.out).1).trans HH2.out)
  have HC3 := Lib.hid c3
  have HC23 := Lib.hid (cell_laterZ b3 HC2.out)
  clear c3 b3
  have HH4 := Lib.hid (setRow_heap w3 w.heap.size _ #[.nilFunc, .bool false, .func (.func 50) #[] #[], .bool false, .func (.func 58) #[] #[.pointer (some ⟨w1.heap.size, 0, none⟩)], .bool true, .func (.func 58) #[] #[.pointer (some ⟨w2.heap.size, 0, none⟩)], .bool true] _ _ HH3.out)
  have HB4 : Hid (Below w.heap.size w (w3.setRow w.heap.size #[.nilFunc, .bool false, .func (.func 50) #[] #[], .bool false, .func (.func 58) #[] #[.pointer (some ⟨w1.heap.size, 0, none⟩)], .bool true, .func (.func 58) #[] #[.pointer (some ⟨w2.heap.size, 0, none⟩)], .bool true])) := Lib.hid (below_setRow HB3.out (Nat.le_refl _) _)
  have HN1 : Hid (w1.heap.size ≠ w.heap.size) := Lib.hid (by have := (Array.getElem?_eq_some_iff.1 HH1.out).1; omega)
  have HN2 : Hid (w2.heap.size ≠ w.heap.size) := Lib.hid (by have := (Array.getElem?_eq_some_iff.1 HH2.out).1; omega)
  have HC4 : Hid ((w3.setRow w.heap.size #[.nilFunc, .bool false, .func (.func 50) #[] #[], .bool false, .func (.func 58) #[] #[.pointer (some ⟨w1.heap.size, 0, none⟩)], .bool true, .func (.func 58) #[] #[.pointer (some ⟨w2.heap.size, 0, none⟩)], .bool true]).cell? ⟨w1.heap.size, 0, none⟩ = some (fnV 14)) := Lib.hid ((World.cell?_of_block (setRow_other w3 _ _ _ HN1.out)).trans HC23.out)
  have HC5 : Hid ((w3.setRow w.heap.size #[.nilFunc, .bool false, .func (.func 50) #[] #[], .bool false, .func (.func 58) #[] #[.pointer (some ⟨w1.heap.size, 0, none⟩)], .bool true, .func (.func 58) #[] #[.pointer (some ⟨w2.heap.size, 0, none⟩)], .bool true]).cell? ⟨w2.heap.size, 0, none⟩ = some (fnV 16)) := Lib.hid ((World.cell?_of_block (setRow_other w3 _ _ _ HN2.out)).trans HC3.out)
  go_wp2_with (refine wpList_store_row rfl TO4 (.tmp 0) (.tmp 6) rfl w.heap.size #[.nilFunc, .bool false, .func (.func 50) #[] #[], .bool false, .func (.func 58) #[] #[.pointer (some ⟨w1.heap.size, 0, none⟩)], .bool true, .func (.func 58) #[] #[.pointer (some ⟨w2.heap.size, 0, none⟩)], .bool true] rfl rfl _ _ HH3.out (by kernel_rfl) rfl (by simp [Value.oneCell']) ?_)
  try simp only [Exit.inBlock, Exit.then]
  exact bodyPost_ret (results_cell_row (P := Try.prog) Try.results37 _ _ w.heap.size TO4 _ (0, 0) (.array 4 TO) rfl HH4.out (by kernel_rfl) rfl (by kernel_rfl)) rfl ⟨_, _, rfl, HC4.out, HC5.out, HB4.out⟩

set_option maxRecDepth 100000 in
set_option maxHeartbeats 1000000 in
theorem operationOf1_any (w : World) : Calls Try.prog 32 #[.int .i64 1] w fun e w' => e = .returned (.tuple #[.agg #[fnV 50, .bool false], .bool true]) ∧ Below w.heap.size w w' := by
  obtain ⟨w1, hw1⟩ : ∃ W, w.alloc (.cells #[.nilFunc, .bool false] TO) = W := ⟨_, rfl⟩
  have hb1 : Below w.heap.size w w1 := by rw [← hw1]; exact (Below.refl _ _).alloc (Nat.le_refl _) _
  have hh1 : w1.heap[w.heap.size]? = some (.cells #[.nilFunc, .bool false] TO) := by rw [← hw1]; exact World.alloc_heap_new w _
  have HW := Lib.hid hw1
  have HB1 := Lib.hid hb1
  have HH1 := Lib.hid hh1
  have HT := Lib.hid (operations_any w1)
  clear hw1 hb1 hh1
  go_enter Try.func32, Try.ntmps32
  go_wp2_with fail
  rw [HW.out]
  refine HT.out.mono ?_
  rintro e w2 ⟨g, h, rfl, c2, d2, b2⟩
  have HB2 := Lib.hid (HB1.out.trans (b2.mono HB1.out.size))
  have HH2 := Lib.hid ((b2.block _ (Array.getElem?_eq_some_iff.1 HH1.out).1).trans HH1.out)
  have HH4 := Lib.hid (setRow_heap w2 w.heap.size _ #[fnV 50, .bool false] _ _ HH2.out)
  have HB4 : Hid (Below w.heap.size w (w2.setRow w.heap.size #[fnV 50, .bool false])) := Lib.hid (below_setRow HB2.out (Nat.le_refl _) _)
  clear c2 d2 b2
  have hix : ∀ W, (Instr.index TO4 (.agg #[.nilFunc, .bool false, .func (.func 50) #[] #[], .bool false, .func (.func 58) #[] #[.pointer (some ⟨g, 0, none⟩)], .bool true, .func (.func 58) #[] #[.pointer (some ⟨h, 0, none⟩)], .bool true]) (.int .i64 1)).run Try.prog W = .ok (.agg #[fnV 50, .bool false]) W := fun W => by kernel_rfl
  go_wp2_with (refine wpList_store_row rfl TO (.tmp 2) (.tmp 13) rfl w.heap.size #[fnV 50, .bool false] rfl rfl _ _ HH2.out (by kernel_rfl) rfl (by simp [Value.oneCell']) ?_)
  have hl := run_loadVar_row (P := Try.prog) (w2.setRow w.heap.size #[fnV 50, .bool false]) w.heap.size _ TO _ (0, 0) _ HH4.out Try.underlying51 rfl (by kernel_rfl)
  try simp only [Exit.inBlock, Exit.then]
  refine bodyPost_ret (v := .tuple #[.agg #[fnV 50, .bool false], .bool true]) ?_ rfl ?_
  · rw [results_cell_tmp Try.results32]
    simp [asAddr, hl, Result.andThen]
  · exact ⟨rfl, HB4.out⟩

set_option maxRecDepth 100000 in
set_option maxHeartbeats 1000000 in
theorem operationOf2_any (w : World) : Calls Try.prog 32 #[.int .i64 2] w fun e w' => ∃ g, e = .returned (.tuple #[.agg #[byV g, .bool true], .bool true]) ∧ w'.cell? ⟨g, 0, none⟩ = some (fnV 14) ∧ Below w.heap.size w w' := by
  obtain ⟨w1, hw1⟩ : ∃ W, w.alloc (.cells #[.nilFunc, .bool false] TO) = W := ⟨_, rfl⟩
  have hb1 : Below w.heap.size w w1 := by rw [← hw1]; exact (Below.refl _ _).alloc (Nat.le_refl _) _
  have hh1 : w1.heap[w.heap.size]? = some (.cells #[.nilFunc, .bool false] TO) := by rw [← hw1]; exact World.alloc_heap_new w _
  have HW := Lib.hid hw1
  have HB1 := Lib.hid hb1
  have HH1 := Lib.hid hh1
  have HT := Lib.hid (operations_any w1)
  clear hw1 hb1 hh1
  go_enter Try.func32, Try.ntmps32
  go_wp2_with fail
  rw [HW.out]
  refine HT.out.mono ?_
  rintro e w2 ⟨g, h, rfl, c2, d2, b2⟩
  have HB2 := Lib.hid (HB1.out.trans (b2.mono HB1.out.size))
  have HH2 := Lib.hid ((b2.block _ (Array.getElem?_eq_some_iff.1 HH1.out).1).trans HH1.out)
  have HC2 := Lib.hid c2
  have HN : Hid (g ≠ w.heap.size) := Lib.hid (fun e => by
    have h1 := HC2.out
    rw [e, Lib.cell_of_heap HH2.out] at h1
    simp at h1)
  have HC4 : Hid ((w2.setRow w.heap.size #[byV g, .bool true]).cell? ⟨g, 0, none⟩ = some (fnV 14)) := Lib.hid ((World.cell?_of_block (setRow_other w2 _ _ _ HN.out)).trans HC2.out)
  have HH4 := Lib.hid (setRow_heap w2 w.heap.size _ #[byV g, .bool true] _ _ HH2.out)
  have HB4 : Hid (Below w.heap.size w (w2.setRow w.heap.size #[byV g, .bool true])) := Lib.hid (below_setRow HB2.out (Nat.le_refl _) _)
  clear c2 d2 b2
  have hix : ∀ W, (Instr.index TO4 (.agg #[.nilFunc, .bool false, .func (.func 50) #[] #[], .bool false, .func (.func 58) #[] #[.pointer (some ⟨g, 0, none⟩)], .bool true, .func (.func 58) #[] #[.pointer (some ⟨h, 0, none⟩)], .bool true]) (.int .i64 2)).run Try.prog W = .ok (.agg #[byV g, .bool true]) W := fun W => by kernel_rfl
  go_wp2_with (refine wpList_store_row rfl TO (.tmp 2) (.tmp 13) rfl w.heap.size #[byV g, .bool true] rfl rfl _ _ HH2.out (by kernel_rfl) rfl (by simp [Value.oneCell']) ?_)
  have hl := run_loadVar_row (P := Try.prog) (w2.setRow w.heap.size #[byV g, .bool true]) w.heap.size _ TO _ (0, 0) _ HH4.out Try.underlying51 rfl (by kernel_rfl)
  try simp only [Exit.inBlock, Exit.then]
  refine bodyPost_ret (v := .tuple #[.agg #[byV g, .bool true], .bool true]) ?_ rfl ?_
  · rw [results_cell_tmp Try.results32]
    simp [asAddr, hl, Result.andThen]
  · exact ⟨g, rfl, HC4.out, HB4.out⟩

set_option maxRecDepth 100000 in
set_option maxHeartbeats 1000000 in
theorem operationOf3_any (w : World) : Calls Try.prog 32 #[.int .i64 3] w fun e w' => ∃ g, e = .returned (.tuple #[.agg #[byV g, .bool true], .bool true]) ∧ w'.cell? ⟨g, 0, none⟩ = some (fnV 16) ∧ Below w.heap.size w w' := by
  obtain ⟨w1, hw1⟩ : ∃ W, w.alloc (.cells #[.nilFunc, .bool false] TO) = W := ⟨_, rfl⟩
  have hb1 : Below w.heap.size w w1 := by rw [← hw1]; exact (Below.refl _ _).alloc (Nat.le_refl _) _
  have hh1 : w1.heap[w.heap.size]? = some (.cells #[.nilFunc, .bool false] TO) := by rw [← hw1]; exact World.alloc_heap_new w _
  have HW := Lib.hid hw1
  have HB1 := Lib.hid hb1
  have HH1 := Lib.hid hh1
  have HT := Lib.hid (operations_any w1)
  clear hw1 hb1 hh1
  go_enter Try.func32, Try.ntmps32
  go_wp2_with fail
  rw [HW.out]
  refine HT.out.mono ?_
  rintro e w2 ⟨g, h, rfl, c2, d2, b2⟩
  have HB2 := Lib.hid (HB1.out.trans (b2.mono HB1.out.size))
  have HH2 := Lib.hid ((b2.block _ (Array.getElem?_eq_some_iff.1 HH1.out).1).trans HH1.out)
  have HC2 := Lib.hid d2
  have HN : Hid (h ≠ w.heap.size) := Lib.hid (fun e => by
    have h1 := HC2.out
    rw [e, Lib.cell_of_heap HH2.out] at h1
    simp at h1)
  have HC4 : Hid ((w2.setRow w.heap.size #[byV h, .bool true]).cell? ⟨h, 0, none⟩ = some (fnV 16)) := Lib.hid ((World.cell?_of_block (setRow_other w2 _ _ _ HN.out)).trans HC2.out)
  have HH4 := Lib.hid (setRow_heap w2 w.heap.size _ #[byV h, .bool true] _ _ HH2.out)
  have HB4 : Hid (Below w.heap.size w (w2.setRow w.heap.size #[byV h, .bool true])) := Lib.hid (below_setRow HB2.out (Nat.le_refl _) _)
  clear c2 d2 b2
  have hix : ∀ W, (Instr.index TO4 (.agg #[.nilFunc, .bool false, .func (.func 50) #[] #[], .bool false, .func (.func 58) #[] #[.pointer (some ⟨g, 0, none⟩)], .bool true, .func (.func 58) #[] #[.pointer (some ⟨h, 0, none⟩)], .bool true]) (.int .i64 3)).run Try.prog W = .ok (.agg #[byV h, .bool true]) W := fun W => by kernel_rfl
  go_wp2_with (refine wpList_store_row rfl TO (.tmp 2) (.tmp 13) rfl w.heap.size #[byV h, .bool true] rfl rfl _ _ HH2.out (by kernel_rfl) rfl (by simp [Value.oneCell']) ?_)
  have hl := run_loadVar_row (P := Try.prog) (w2.setRow w.heap.size #[byV h, .bool true]) w.heap.size _ TO _ (0, 0) _ HH4.out Try.underlying51 rfl (by kernel_rfl)
  try simp only [Exit.inBlock, Exit.then]
  refine bodyPost_ret (v := .tuple #[.agg #[byV h, .bool true], .bool true]) ?_ rfl ?_
  · rw [results_cell_tmp Try.results32]
    simp [asAddr, hl, Result.andThen]
  · exact ⟨h, rfl, HC4.out, HB4.out⟩

set_option maxRecDepth 100000 in
set_option maxHeartbeats 1000000 in
theorem operationOfNo_any (k : Int) (hk : k < 1 ∨ 3 < k) (w : World) : Calls Try.prog 32 #[.int .i64 k] w fun e w' => e = .returned (.tuple #[.agg #[.nilFunc, .bool false], .bool false]) ∧ Below w.heap.size w w' := by
  have hb1 : Below w.heap.size w (w.alloc (.cells #[.nilFunc, .bool false] TO)) := (Below.refl _ _).alloc (Nat.le_refl _) _
  have hh1 : (w.alloc (.cells #[.nilFunc, .bool false] TO)).heap[w.heap.size]? = some (.cells #[.nilFunc, .bool false] TO) := World.alloc_heap_new w _
  have hl := run_loadVar_row (P := Try.prog) (w.alloc (.cells #[.nilFunc, .bool false] TO)) w.heap.size _ TO _ (0, 0) _ hh1 Try.underlying51 rfl (by kernel_rfl)
  have HL := Lib.hid hl
  have HB1 := Lib.hid hb1
  clear hl hb1 hh1
  rcases hk with h1 | h1
  · go_enter Try.func32, Try.ntmps32
    go_wp2
    try simp only [Exit.inBlock, Exit.then]
    refine bodyPost_ret (v := .tuple #[.agg #[.nilFunc, .bool false], .bool false]) ?_ rfl ⟨rfl, HB1.out⟩
    rw [results_cell_tmp Try.results32]
    simp [asAddr, HL.out, Result.andThen]
  · have h0 : ¬ k < 1 := by omega
    go_enter Try.func32, Try.ntmps32
    go_wp2
    try simp only [Exit.inBlock, Exit.then]
    refine bodyPost_ret (v := .tuple #[.agg #[.nilFunc, .bool false], .bool false]) ?_ rfl ⟨rfl, HB1.out⟩
    rw [results_cell_tmp Try.results32]
    simp [asAddr, HL.out, Result.andThen]

/-! ### The functions of the table -/

set_option maxRecDepth 100000 in
theorem pushOp_any (v : Value) (l : List Int) (x : Int) (w : World) (hK : KZ w v l) :
    Calls Try.prog 50 #[v, .int .i64 x] w (RetX (pushQ l x) 0 (pushE l x) w) := by
  have HP := Lib.hid (push_any v l x w hK)
  clear hK
  go_enter Try.func50, Try.ntmps50
  go_wp2_with fail
  refine HP.out.mono ?_
  rintro e w1 ⟨u, rfl, k1, b1⟩
  have HK1 := Lib.hid k1
  have HB1 := Lib.hid b1
  clear k1 b1
  go_wp2
  go_ret3
  exact ⟨_, rfl, HK1.out, HB1.out⟩
set_option maxRecDepth 100000 in
/-- What takeBy's function returns. -/
theorem takeOp_any (f g : Nat) (v : Value) (l Q : List Int) (X x : Int) (w : World) (heg : ∀ args w, (callFunc f args).run Try.prog w = .ok (.enter f args) w) (hc : w.cell? ⟨g, 0, none⟩ = some (fnV f)) (hd : dqE l = 0)
    (hF : Calls Try.prog f #[v] w (RetX Q X (takeE l) w)) :
    Calls Try.prog 58 #[v, .int .i64 x, .pointer (some ⟨g, 0, none⟩)] w (RetX (if l = [] then [] else Q) (if l = [] then -1 else X) 0 w) := by
  have HF := Lib.hid hF
  by_cases h0 : l = []
  · have hE : takeE l = 23 := by unfold takeE; rw [if_pos hd, if_pos h0]
    rw [if_pos h0, if_pos h0]
    rw [hE] at hF
    have HF := Lib.hid hF
    clear hF hE h0 hd
    go_enter Try.func58, Try.ntmps58
    go_wp2_with fail
    refine HF.out.mono ?_
    rintro e w1 ⟨u, rfl, k1, b1⟩
    have HB1 := Lib.hid b1
    clear k1 b1
    go_wp2
    go_ret3
    exact ⟨_, rfl, FzC.nil _ _ _ _ (by decide), HB1.out⟩
  · have hE : takeE l = 0 := takeE_iff.2 ⟨hd, h0⟩
    rw [if_neg h0, if_neg h0]
    rw [hE] at hF
    have HF := Lib.hid hF
    clear hF hE h0 hd
    go_enter Try.func58, Try.ntmps58
    go_wp2_with fail
    refine HF.out.mono ?_
    rintro e w1 ⟨u, rfl, k1, b1⟩
    have HK1 := Lib.hid k1
    have HB1 := Lib.hid b1
    clear k1 b1
    go_wp2
    go_ret3
    exact ⟨_, rfl, HK1.out, HB1.out⟩

end Go.Proofs.Ytmgadcfiaipimaa
