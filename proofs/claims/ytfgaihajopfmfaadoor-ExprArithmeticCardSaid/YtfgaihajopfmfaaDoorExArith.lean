/-
  The closures and the values of ExprArithmetic.
-/
import Derived.Test.YtfgaihajopfmfaaDoorExAwake
namespace Go.Proofs.YtfgaihajopfmfaaDoor
set_option linter.unusedSimpArgs false
set_option linter.unusedVariables false
open Go.RowKit

abbrev TBs : TypeId := 25
theorem cellZ {w w' : World} {b o : Nat} {v : Value} (h : w.cell? ⟨b, o, none⟩ = some v) (hb : Below w.heap.size w w') : w'.cell? ⟨b, o, none⟩ = some v := cell_laterZ hb h
def nA : ByteArray := ⟨#[97]⟩
def nB : ByteArray := ⟨#[98]⟩
def nP : ByteArray := ⟨#[112]⟩
def nQ : ByteArray := ⟨#[113]⟩
def arB (a b : Int) (p q : Bool) : List Bd := [(nA, 1, a), (nB, 1, b), (nP, 2, b2i p), (nQ, 2, b2i q)]
theorem arB_fit (a b : Int) (p q : Bool) : fitB (arB a b p q) := by
  intro x hx
  simp only [arB, List.mem_cons, List.not_mem_nil, or_false] at hx
  rcases hx with rfl | rfl | rfl | rfl
  · exact (by decide : nA.size ≤ 9223372036854775807)
  · exact (by decide : nB.size ≤ 9223372036854775807)
  · exact (by decide : nP.size ≤ 9223372036854775807)
  · exact (by decide : nQ.size ≤ 9223372036854775807)
theorem arB_ok {a b : Int} {p q : Bool} (h1 : -1099511627776 ≤ a) (h2 : a ≤ 1099511627776) (h3 : -1099511627776 ≤ b) (h4 : b ≤ 1099511627776) : ckB (arB a b p q) = true := by
  have e0 : okB (nA, 1, a) = true := by
    have : nmB nA = true := by decide
    simp [okB, this, h1, h2]
  have e1 : okB (nB, 1, b) = true := by
    have : nmB nB = true := by decide
    simp [okB, this, h3, h4]
  have e2 : okB (nP, 2, b2i p) = true := by cases p <;> decide
  have e3 : okB (nQ, 2, b2i q) = true := by cases q <;> decide
  have l1 : ltS nA nB = true := by decide +kernel
  have l2 : ltS nB nP = true := by decide +kernel
  have l3 : ltS nP nQ = true := by decide +kernel
  unfold ckB
  rw [Bool.and_eq_true]
  refine ⟨rfl, allP_iff.2 fun j hj => ?_⟩
  have hj : j < 4 := hj
  rcases (show j = 0 ∨ j = 1 ∨ j = 2 ∨ j = 3 by omega) with rfl | rfl | rfl | rfl
  · simp [goodB, gb, arB, e0]
  · simp [goodB, gb, arB, e1, l1]
  · simp [goodB, gb, arB, e2, l2]
  · simp [goodB, gb, arB, e3, l3]
/-- A binary operation on the two numbers. -/
theorem ar_bin {a b : Int} {p q : Bool} (hc : ckB (arB a b p q) = true) (o : Int) (h1 : 3 ≤ o) (h2 : o ≤ 13) : vlF (arB a b p q) (biX o (nmX nA) (nmX nB)) = opW o a b := by
  have key : ckE (biX o (nmX nA) (nmX nB)) = 0 ∧ (tyE (arB a b p q) (biX o (nmX nA) (nmX nB))).2 = 0 ∧ vlE (arB a b p q) (biX o (nmX nA) (nmX nB)) = opW o a b := by
    rcases (show o = 3 ∨ o = 4 ∨ o = 5 ∨ o = 6 ∨ o = 7 ∨ o = 8 ∨ o = 9 ∨ o = 10 ∨ o = 11 ∨ o = 12 ∨ o = 13 by omega) with rfl | rfl | rfl | rfl | rfl | rfl | rfl | rfl | rfl | rfl | rfl <;> exact ⟨by decide +kernel, by kernel_rfl, by kernel_rfl⟩
  unfold vlF tyF
  rw [hc, key.1]
  simp only [ne_eq, not_true_eq_false, if_false, Bool.true_eq_false, key.2.1, key.2.2]
/-- The laws of De Morgan's expressions. -/
theorem ar_log {a b : Int} {p q : Bool} (hc : ckB (arB a b p q) = true) : vlF (arB a b p q) (unX 2 (biX 14 (nmX nP) (nmX nQ))) = (b2i (!(p && q)), 0) ∧ vlF (arB a b p q) (biX 15 (unX 2 (nmX nP)) (unX 2 (nmX nQ))) = (b2i (!(p && q)), 0) ∧ vlF (arB a b p q) (biX 15 (nmX nP) (nmX nQ)) = (b2i (p || q), 0) := by
  have c1 : ckE (unX 2 (biX 14 (nmX nP) (nmX nQ))) = 0 := by decide +kernel
  have c2 : ckE (biX 15 (unX 2 (nmX nP)) (unX 2 (nmX nQ))) = 0 := by decide +kernel
  have c3 : ckE (biX 15 (nmX nP) (nmX nQ)) = 0 := by decide +kernel
  unfold vlF tyF
  rw [hc, c1, c2, c3]
  simp only [ne_eq, not_true_eq_false, if_false, Bool.true_eq_false]
  cases p <;> cases q <;> exact ⟨by kernel_rfl, by kernel_rfl, by kernel_rfl⟩
theorem ar_fit (o : Int) : fitE (biX o (nmX nA) (nmX nB)) := by simp [fitE, fitL, nmX, biX, nA, nB, ByteArray.size]
theorem ar_fits : fitE (unX 2 (biX 14 (nmX nP) (nmX nQ))) ∧ fitE (biX 15 (unX 2 (nmX nP)) (unX 2 (nmX nQ))) ∧ fitE (biX 15 (nmX nP) (nmX nQ)) := by
  refine ⟨?_, ?_, ?_⟩ <;> simp [fitE, fitL, nmX, biX, unX, nP, nQ, ByteArray.size]
theorem kb_four (w : World) (a b : Int) (p q : Bool) : KB (w.alloc (.cells #[.string nA, .int .i64 1, .int .i64 a, .string nB, .int .i64 1, .int .i64 b, .string nP, .int .i64 2, .int .i64 (b2i p), .string nQ, .int .i64 2, .int .i64 (b2i q)] TB)) (.slice (some ⟨w.heap.size, 0, none⟩) 4 4) (arB a b p q) := by
  refine ⟨some ⟨w.heap.size, 0, none⟩, 4, rfl, (by show 4 ≤ 4; decide), by decide, fun j hj => ⟨w.heap.size, 0, rfl, by simp, ?_⟩⟩
  have hj : j < 4 := hj
  rcases (show j = 0 ∨ j = 1 ∨ j = 2 ∨ j = 3 by omega) with rfl | rfl | rfl | rfl <;> refine ⟨?_, ?_, ?_⟩ <;> rw [Nat.zero_add, Lib.cell_of_heap (World.alloc_heap_new w _)] <;> rfl
/-- The function that makes a bit of a boolean. -/
theorem bit_any (x : Bool) (w : World) : Calls Tryd.prog 20 #[.bool x] w fun e w' => e = .returned (.int .i64 (b2i x)) ∧ Below w.heap.size w w' := by
  cases x
  · go_enter Tryd.func20, Tryd.ntmps20
    go_wp2
    go_ret
    exact ⟨rfl, Below.refl _ w⟩
  · go_enter Tryd.func20, Tryd.ntmps20
    go_wp2
    go_ret
    exact ⟨rfl, Below.refl _ w⟩
set_option maxHeartbeats 4000000 in
/-- The function that evaluates. -/
theorem evalC_any (bl : Nat) (l : List Bd) (al : Option Addr) (nl cl : Nat) (e : Ex) (v n : Int) (sa : Option Addr) (m sc : Nat) (w : World) (hK : KX w e (.slice sa m sc)) (hc : w.cell? ⟨bl, 0, none⟩ = some (.slice al nl cl)) (hB : KB w (.slice al nl cl) l) (hf : fitE e) (hl : fitB l) (hr : vlF l e = (v, n)) :
    Calls Tryd.prog 21 #[exV e (.slice sa m sc), .pointer (some ⟨bl, 0, none⟩)] w fun x w' => x = .returned (.tuple #[.int .i64 v, .int .i64 n]) ∧ Below w.heap.size w w' := by
  obtain ⟨W, hW⟩ : ∃ W, w.alloc (.cells #[.int .i64 e.k, .int .i64 e.o, .string e.s, .int .i64 e.v, .slice sa m sc] TX (0, 0)) = W := ⟨_, rfl⟩
  have hb : Below w.heap.size w W := by rw [← hW]; exact below_allocW w _
  have hc' : (w.alloc (.cells #[.int .i64 e.k, .int .i64 e.o, .string e.s, .int .i64 e.v, .slice sa m sc] TX (0, 0))).cell? ⟨bl, 0, none⟩ = some (.slice al nl cl) := Lib.cell?_alloc_some _ hc
  have HC := Lib.hid (evalA l (.slice al nl cl) e v n (.slice sa m sc) W (KA.carry hK hb) (hB.carry hb) hf hl hr)
  have HW := Lib.hid hW
  have HB := Lib.hid hb
  simp only [exV] at HC ⊢
  clear hK hB hf hl hr hb hW
  go_enter Tryd.func21, Tryd.ntmps21
  go_wp2_with fail
  rw [HW.out]
  refine HC.out.mono ?_
  rintro x w4 ⟨rfl, b4⟩
  have HB4 := Lib.hid (HB.out.trans (b4.mono HB.out.size))
  clear b4
  go_wp2
  go_ret2
  exact ⟨rfl, HB4.out⟩
set_option maxHeartbeats 4000000 in
/-- The function that negates. -/
theorem not_any (e : Ex) (sa : Option Addr) (m sc : Nat) (w : World) (hK : KX w e (.slice sa m sc)) : Calls Tryd.prog 24 #[exV e (.slice sa m sc)] w (RetL w.heap.size (unX 2 e) w) := by
  obtain ⟨W, hW⟩ : ∃ W, (w.alloc (.cells #[.int .i64 e.k, .int .i64 e.o, .string e.s, .int .i64 e.v, .slice sa m sc] TX (0, 0))).alloc (.cells #[.int .i64 0, .int .i64 0, .string ⟨#[]⟩, .int .i64 0, .slice none 0 0] TX (0, 0)) = W := ⟨_, rfl⟩
  obtain ⟨t0, t1, hb⟩ := twoBlocks w (.cells #[.int .i64 e.k, .int .i64 e.o, .string e.s, .int .i64 e.v, .slice sa m sc] TX (0, 0)) (.cells #[.int .i64 0, .int .i64 0, .string ⟨#[]⟩, .int .i64 0, .slice none 0 0] TX (0, 0))
  rw [hW] at t0 t1 hb
  have HC := Lib.hid (unaryP_any (fun b => b < w.heap.size) 2 e sa m sc W (KA.carry (hK.mono fun b h _ => h) hb))
  have HSZ : Hid (w.heap.size + 2 ≤ W.heap.size) := Lib.hid (by rw [← hW]; simp)
  have HW := Lib.hid hW
  have HB := Lib.hid hb
  have H1 := Lib.hid t1
  simp only [exV] at HC ⊢
  clear hK hb hW t0 t1
  go_enter Tryd.func24, Tryd.ntmps24
  go_wp2_with fail
  rw [HW.out]
  refine HC.out.mono ?_
  rintro x w4 ⟨a4, n4, c4, rfl, k4, b4⟩
  have HB4 := Lib.hid (HB.out.trans (b4.mono HB.out.size))
  have H14 := Lib.hid ((b4.block _ (Array.getElem?_eq_some_iff.1 H1.out).1).trans H1.out)
  have HK4 := Lib.hid k4
  clear b4 k4
  simp only [exV]
  have HH4 := Lib.hid (setRow_heap w4 (w.heap.size + 1) _ #[.int .i64 (unX 2 e).k, .int .i64 (unX 2 e).o, .string (unX 2 e).s, .int .i64 (unX 2 e).v, .slice a4 n4 c4] _ _ H14.out)
  have HB9 : Hid (Below w.heap.size w (w4.setRow (w.heap.size + 1) #[.int .i64 (unX 2 e).k, .int .i64 (unX 2 e).o, .string (unX 2 e).s, .int .i64 (unX 2 e).v, .slice a4 n4 c4])) := Lib.hid (below_setRow HB4.out (by omega) _)
  have HK9 : Hid (KX (w4.setRow (w.heap.size + 1) #[.int .i64 (unX 2 e).k, .int .i64 (unX 2 e).o, .string (unX 2 e).s, .int .i64 (unX 2 e).v, .slice a4 n4 c4]) (unX 2 e) (.slice a4 n4 c4)) := Lib.hid (HK4.out.keep (by simp [World.setRow]) (fun b _ h => ⟨trivial, setRow_other w4 (w.heap.size + 1) b _ (by have := HSZ.out; rcases h with h | h <;> omega)⟩))
  go_wp2_with (refine wpList_store_row rfl TX (.tmp 2) (.tmp 4) rfl (w.heap.size + 1) #[.int .i64 (unX 2 e).k, .int .i64 (unX 2 e).o, .string (unX 2 e).s, .int .i64 (unX 2 e).v, .slice a4 n4 c4] rfl rfl _ _ H14.out (by kernel_rfl) rfl (by simp [Value.oneCell']) ?_)
  try simp only [Exit.inBlock, Exit.then]
  exact bodyPost_ret (results_cell_row (P := Tryd.prog) Tryd.results24 _ _ (w.heap.size + 1) TX _ (0, 0) _ rfl HH4.out Tryd.underlying24 rfl (by kernel_rfl)) rfl ⟨a4, n4, c4, rfl, HK9.out, HB9.out⟩

end Go.Proofs.YtfgaihajopfmfaaDoor
