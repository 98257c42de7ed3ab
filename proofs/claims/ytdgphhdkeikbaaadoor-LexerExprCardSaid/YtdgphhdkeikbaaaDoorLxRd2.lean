/-
  The program's reader: checked, leafOf.
-/
import Derived.Shelf.Lay
import Derived.Laws.ResultCell
import Derived.Laws.CopyOwn
import Derived.Laws.Rows
import Derived.Laws.Tables
import Derived.Test.YtdgphhdkeikbaaaDoorLxRd1
import Derived.Test.YtdgphhdkeikbaaaDoorExItoa
import Derived.Test.YtdgphhdkeikbaaaDoorExDevA
import Derived.Test.YtdgphhdkeikbaaaDoorHeldTop
namespace Go.Proofs.YtdgphhdkeikbaaaDoor
set_option linter.unusedSimpArgs false
set_option linter.unusedVariables false
open Go.RowKit

def TabJ (w : World) : Prop := Lib.TabIs Tryd.prog w "internal/strconv.uint64pow10" .u64 Lib.pow10Tab
abbrev nilX : Value := .slice none 0 0
theorem kx_nil (w : World) (k o : Int) (s : ByteArray) (v : Int) : KX w (.mk k o s v []) nilX := KA.nil anyB w none 0 (by decide)
theorem lxTwo (w : World) (o p : Obj) : ((w.alloc o).alloc p).heap[w.heap.size]? = some o ∧ ((w.alloc o).alloc p).heap[w.heap.size + 1]? = some p ∧ Below w.heap.size w ((w.alloc o).alloc p) := by
  refine ⟨?_, ?_, ((Below.refl _ w).alloc (Nat.le_refl _) _).alloc (by simp) _⟩
  · rw [Below.heap_alloc _ _ _ (by simp)]; exact heapNew w o
  · have := heapNew (w.alloc o) p
    rwa [World.size_alloc] at this
def chX (e : Ex) (al : Bool) : Ex × Bool := if al = true ∧ ckE e = 0 then (e, true) else (zeroX, false)
theorem ret_x {fn : Func} {p u : Tmp} (hf : fn.results = #[.cell p TX, .tmp u]) (W : World) (g : Nat) (e : Ex) (sl : Value) (x : Value) (tmps : Array Value) (hg : W.heap[g]? = some (.cells #[.int .i64 e.k, .int .i64 e.o, .string e.s, .int .i64 e.v, sl] TX (0, 0)))
    (hp : tmps.getD p undef = .pointer (some ⟨g, 0, none⟩)) (hu : tmps.getD u undef = x) : (results fn tmps).run Tryd.prog W = .ok (.tuple #[exV e sl, x]) W := by
  have hl := run_loadVar_row (P := Tryd.prog) W g TX _ _ (0, 0) _ hg Tryd.underlying26 rfl (by kernel_rfl)
  rw [results_cell_tmp hf]
  simp [asAddr, hl, hp, hu, Result.andThen, exV]
set_option maxRecDepth 100000 in
set_option maxHeartbeats 4000000 in
theorem checked_any (k o : Int) (s : ByteArray) (v : Int) (al : Bool) (w : World) (hf : fitE (.mk k o s v [])) :
    Calls Tryd.prog 109 #[exV (.mk k o s v []) nilX, .bool al] w fun x w' => x = .returned (.tuple #[exV (chX (.mk k o s v []) al).1 nilX, .bool (chX (.mk k o s v []) al).2]) ∧ Below w.heap.size w w' := by
  obtain ⟨W, hW⟩ : ∃ W, (w.alloc (.cells #[.int .i64 k, .int .i64 o, .string s, .int .i64 v, nilX] TX)).alloc (.cells #[.int .i64 0, .int .i64 0, .string ⟨#[]⟩, .int .i64 0, nilX] TX) = W := ⟨_, rfl⟩
  obtain ⟨t0, t1, b1⟩ := lxTwo w (.cells #[.int .i64 k, .int .i64 o, .string s, .int .i64 v, nilX] TX) (.cells #[.int .i64 0, .int .i64 0, .string ⟨#[]⟩, .int .i64 0, nilX] TX)
  rw [hW] at t0 t1 b1
  have HB := Lib.hid b1
  have HW := Lib.hid hW
  have HC := Lib.hid (check_any (.mk k o s v []) nilX W (kx_nil W k o s v) hf)
  have HT0 := Lib.hid t0
  have HT1 := Lib.hid t1
  obtain ⟨q, hq⟩ : ∃ q, ckE (.mk k o s v []) = q := ⟨_, rfl⟩
  have HQ := Lib.hid hq
  rw [hq] at HC
  obtain ⟨RV, hrv⟩ : ∃ V, Value.tuple #[exV (chX (.mk k o s v []) al).1 nilX, .bool (chX (.mk k o s v []) al).2] = V := ⟨_, rfl⟩
  have HRV := Lib.hid hrv
  rw [hrv]
  clear hrv
  simp only [exV, Ex.k, Ex.o, Ex.s, Ex.v] at HC ⊢
  have c0 : W.cell? ⟨w.heap.size, 0, none⟩ = some (.int .i64 k) := by rw [Lib.cell_of_heap t0]; rfl
  have c1 : W.cell? ⟨w.heap.size, 1, none⟩ = some (.int .i64 o) := by rw [Lib.cell_of_heap t0]; rfl
  have c2 : W.cell? ⟨w.heap.size, 2, none⟩ = some (.string s) := by rw [Lib.cell_of_heap t0]; rfl
  have c3 : W.cell? ⟨w.heap.size, 3, none⟩ = some (.int .i64 v) := by rw [Lib.cell_of_heap t0]; rfl
  have c4 : W.cell? ⟨w.heap.size, 4, none⟩ = some nilX := by rw [Lib.cell_of_heap t0]; rfl
  clear hq hW t0 t1 b1
  cases al with
  | false =>
    have HE : Hid (chX (.mk k o s v []) false = (zeroX, false)) := Lib.hid (by unfold chX; simp)
    go_enter Tryd.func109, Tryd.ntmps109
    go_wp2_with (rw [HW.out]; refine wpList_store_row rfl TX (.tmp 4) (.tmp 13) rfl (w.heap.size + 1) #[.int .i64 0, .int .i64 0, .string ⟨#[]⟩, .int .i64 0, nilX] rfl rfl _ _ HT1.out (by kernel_rfl) rfl (by simp [Value.oneCell']) ?_)
    try simp only [Exit.inBlock, Exit.then]
    exact bodyPost_ret (ret_x Tryd.results109 _ (w.heap.size + 1) zeroX nilX _ _ (setRow_heap _ _ _ _ _ _ HT1.out) rfl rfl) rfl ⟨by rw [← HRV.out, HE.out]; rfl, below_setRow HB.out (by omega) _⟩
  | true =>
    by_cases hz : q = 0
    · subst hz
      have HE : Hid (chX (.mk k o s v []) true = (.mk k o s v [], true)) := Lib.hid (by unfold chX; rw [HQ.out]; simp)
      go_enter Tryd.func109, Tryd.ntmps109
      go_wp2_with fail
      rw [HW.out]
      go_wp2_with fail
      refine HC.out.mono ?_
      rintro x w1 ⟨rfl, b1⟩
      have HT01 := Lib.hid ((b1.block _ (ltH HT0.out)).trans HT0.out)
      have HT11 := Lib.hid ((b1.block _ (ltH HT1.out)).trans HT1.out)
      have HB1 := Lib.hid (HB.out.trans (b1.mono HB.out.size))
      have d0 : w1.cell? ⟨w.heap.size, 0, none⟩ = some (.int .i64 k) := by rw [Lib.cell_of_heap HT01.out]; rfl
      have d1 : w1.cell? ⟨w.heap.size, 1, none⟩ = some (.int .i64 o) := by rw [Lib.cell_of_heap HT01.out]; rfl
      have d2 : w1.cell? ⟨w.heap.size, 2, none⟩ = some (.string s) := by rw [Lib.cell_of_heap HT01.out]; rfl
      have d3 : w1.cell? ⟨w.heap.size, 3, none⟩ = some (.int .i64 v) := by rw [Lib.cell_of_heap HT01.out]; rfl
      have d4 : w1.cell? ⟨w.heap.size, 4, none⟩ = some nilX := by rw [Lib.cell_of_heap HT01.out]; rfl
      clear b1
      go_wp2_with (refine wpList_store_row rfl TX (.tmp 4) (.tmp 14) rfl (w.heap.size + 1) #[.int .i64 k, .int .i64 o, .string s, .int .i64 v, nilX] rfl rfl _ _ HT11.out (by kernel_rfl) rfl (by simp [Value.oneCell']) ?_)
      try simp only [Exit.inBlock, Exit.then]
      exact bodyPost_ret (ret_x Tryd.results109 _ (w.heap.size + 1) (.mk k o s v []) nilX _ _ (setRow_heap _ _ _ _ _ _ HT11.out) rfl rfl) rfl ⟨by rw [← HRV.out, HE.out]; rfl, below_setRow HB1.out (by omega) _⟩
    · have HE : Hid (chX (.mk k o s v []) true = (zeroX, false)) := Lib.hid (by unfold chX; rw [HQ.out]; simp [hz])
      have k1 : (q != 0) = true := by simp [hz]
      clear hz
      go_enter Tryd.func109, Tryd.ntmps109
      go_wp2_with fail
      rw [HW.out]
      go_wp2_with fail
      refine HC.out.mono ?_
      rintro x w1 ⟨rfl, b1⟩
      have HT11 := Lib.hid ((b1.block _ (ltH HT1.out)).trans HT1.out)
      have HB1 := Lib.hid (HB.out.trans (b1.mono HB.out.size))
      clear b1
      go_wp2_with (refine wpList_store_row rfl TX (.tmp 4) (.tmp 13) rfl (w.heap.size + 1) #[.int .i64 0, .int .i64 0, .string ⟨#[]⟩, .int .i64 0, nilX] rfl rfl _ _ HT11.out (by kernel_rfl) rfl (by simp [Value.oneCell']) ?_)
      try simp only [Exit.inBlock, Exit.then]
      exact bodyPost_ret (ret_x Tryd.results109 _ (w.heap.size + 1) zeroX nilX _ _ (setRow_heap _ _ _ _ _ _ HT11.out) rfl rfl) rfl ⟨by rw [← HRV.out, HE.out]; rfl, below_setRow HB1.out (by omega) _⟩
end Go.Proofs.YtdgphhdkeikbaaaDoor
