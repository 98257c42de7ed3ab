/-
  The statements' small expressions: name, number, unary, binary.
-/
import Derived.Test.YtdgphhdkeikbaaaDoorLxParse2
import Derived.Test.YtdgphhdkeikbaaaDoorHeldTail
import Derived.Test.YtdgphhdkeikbaaaDoorExTiny
namespace Go.Proofs.YtdgphhdkeikbaaaDoor
set_option linter.unusedSimpArgs false
set_option linter.unusedVariables false
open Go.RowKit

/-- An expression that is returned, and its tree in memory. -/
def RetL (n : Nat) (e : Ex) (w : World) (x : Ending) (w' : World) : Prop := ∃ a m c, x = .returned (exV e (.slice a m c)) ∧ KX w' e (.slice a m c) ∧ Below n w w'
theorem two_known {φ : Nat → Prop} {w : World} {b : Nat} (e f : Ex) (sl sm : Value) (hb : w.heap[b]? = some (.cells #[.int .i64 e.k, .int .i64 e.o, .string e.s, .int .i64 e.v, sl, .int .i64 f.k, .int .i64 f.o, .string f.s, .int .i64 f.v, sm] TX (0, 0))) (hk : KA φ w e.es sl) (hm : KA φ w f.es sm) (hp : φ b) : KA φ w [e, f] (.slice (some ⟨b, 0, none⟩) 2 2) :=
  .mk [e, f] (some ⟨b, 0, none⟩) 2 (fun j => if j = 0 then sl else sm) (Nat.le_refl _) (by decide) (fun j hj => by
    refine ⟨b, 0, rfl, hp, (Array.getElem?_eq_some_iff.1 hb).1, ?_⟩
    rcases (show j = 0 ∨ j = 1 by simp at hj; omega) with rfl | rfl
    · refine ⟨?_, ?_, ?_, ?_, ?_⟩ <;> simp [World.cell?, hb, ga]
    · refine ⟨?_, ?_, ?_, ?_, ?_⟩ <;> simp [World.cell?, hb, ga]) (fun j hj => by
    rcases (show j = 0 ∨ j = 1 by simp at hj; omega) with rfl | rfl
    · exact hk
    · exact hm)
/-- A variable of type Expr: its block behind the store. -/
theorem varX (w : World) (e : Ex) (sl : Value) (W : World) (hW : w.alloc (.cells #[.int .i64 0, .int .i64 0, .string ⟨#[]⟩, .int .i64 0, .slice none 0 0] TX (0, 0)) = W) :
    W.heap[w.heap.size]? = some (.cells #[.int .i64 0, .int .i64 0, .string ⟨#[]⟩, .int .i64 0, .slice none 0 0] TX (0, 0)) ∧ Below w.heap.size w (W.setRow w.heap.size #[.int .i64 e.k, .int .i64 e.o, .string e.s, .int .i64 e.v, sl]) ∧ AtX (W.setRow w.heap.size #[.int .i64 e.k, .int .i64 e.o, .string e.s, .int .i64 e.v, sl]) w.heap.size 0 e sl := by
  have h1 : W.heap[w.heap.size]? = some (.cells #[.int .i64 0, .int .i64 0, .string ⟨#[]⟩, .int .i64 0, .slice none 0 0] TX (0, 0)) := by rw [← hW]; exact World.alloc_heap_new w _
  have hb : Below w.heap.size w W := by rw [← hW]; exact (Below.refl _ w).alloc (Nat.le_refl _) _
  have h2 := setRow_heap W w.heap.size _ #[.int .i64 e.k, .int .i64 e.o, .string e.s, .int .i64 e.v, sl] _ _ h1
  refine ⟨h1, below_setRow hb (Nat.le_refl _) _, ?_⟩
  refine ⟨?_, ?_, ?_, ?_, ?_⟩ <;> simp [World.cell?, h2]
theorem AtX.later {w w' : World} {b o : Nat} {e : Ex} {sl : Value} (h : AtX w b o e sl) (hb : Below w.heap.size w w') : AtX w' b o e sl := h.keep (hb.block _ h.lt)
abbrev nmX (s : ByteArray) : Ex := .mk 2 0 s 0 []
abbrev unX (o : Int) (e : Ex) : Ex := .mk 3 o .empty 0 [e]
abbrev biX (o : Int) (e f : Ex) : Ex := .mk 4 o .empty 0 [e, f]
set_option maxHeartbeats 4000000 in
theorem name_any (s : ByteArray) (w : World) : Calls Tryd.prog 30 #[.string s] w (RetL w.heap.size (nmX s) w) := by
  obtain ⟨W, hW⟩ : ∃ W, w.alloc (.cells #[.int .i64 0, .int .i64 0, .string ⟨#[]⟩, .int .i64 0, .slice none 0 0] TX (0, 0)) = W := ⟨_, rfl⟩
  have hb : Below w.heap.size w W := by rw [← hW]; exact (Below.refl _ w).alloc (Nat.le_refl _) _
  have HH : Hid (W.heap[w.heap.size]? = some (.cells #[.int .i64 0, .int .i64 0, .string ⟨#[]⟩, .int .i64 0, .slice none 0 0] TX (0, 0))) := Lib.hid (by rw [← hW]; exact World.alloc_heap_new w _)
  have HW := Lib.hid hW
  have HH4 := Lib.hid (setRow_heap W w.heap.size _ #[.int .i64 2, .int .i64 0, .string s, .int .i64 0, .slice none 0 0] _ _ HH.out)
  have HB5 : Hid (Below w.heap.size w (W.setRow w.heap.size #[.int .i64 2, .int .i64 0, .string s, .int .i64 0, .slice none 0 0])) := Lib.hid (below_setRow hb (Nat.le_refl _) _)
  clear hW hb
  go_enter Tryd.func30, Tryd.ntmps30
  go_wp2_with (rw [HW.out]; refine wpList_store_row rfl TX (.tmp 2) (.tmp 4) rfl w.heap.size #[.int .i64 2, .int .i64 0, .string s, .int .i64 0, .slice none 0 0] rfl rfl _ _ HH.out (by kernel_rfl) rfl (by simp [Value.oneCell']) ?_)
  try simp only [Exit.inBlock, Exit.then]
  exact bodyPost_ret (results_cell_row (P := Tryd.prog) Tryd.results30 _ _ w.heap.size TX _ (0, 0) _ rfl HH4.out Tryd.underlying26 rfl (by kernel_rfl)) rfl ⟨none, 0, 0, rfl, KA.nil0 _ _, HB5.out⟩
theorem biW (w : World) (e f : Ex) (sl sm : Value) (hK : KX w e sl) (hM : KX w f sm) (o : Int) (W : World) (hW : (((w.alloc (.cells #[.int .i64 e.k, .int .i64 e.o, .string e.s, .int .i64 e.v, sl] TX (0, 0))).alloc (.cells #[.int .i64 f.k, .int .i64 f.o, .string f.s, .int .i64 f.v, sm] TX (0, 0))).alloc (.cells #[.int .i64 0, .int .i64 0, .string ⟨#[]⟩, .int .i64 0, .slice none 0 0] TX (0, 0))).alloc (.cells #[.int .i64 e.k, .int .i64 e.o, .string e.s, .int .i64 e.v, sl, .int .i64 f.k, .int .i64 f.o, .string f.s, .int .i64 f.v, sm] TX (0, 0)) = W) :
    W.heap[w.heap.size + 1 + 1]? = some (.cells #[.int .i64 0, .int .i64 0, .string ⟨#[]⟩, .int .i64 0, .slice none 0 0] TX (0, 0)) ∧ ∀ cs, Below w.heap.size w (W.setRow (w.heap.size + 1 + 1) cs) ∧ KX (W.setRow (w.heap.size + 1 + 1) cs) (biX o e f) (.slice (some ⟨w.heap.size + 1 + 1 + 1, 0, none⟩) 2 2) := by
  obtain ⟨t0, t1, t2, hb⟩ := threeBlocks w (.cells #[.int .i64 e.k, .int .i64 e.o, .string e.s, .int .i64 e.v, sl] TX (0, 0)) (.cells #[.int .i64 f.k, .int .i64 f.o, .string f.s, .int .i64 f.v, sm] TX (0, 0)) (.cells #[.int .i64 0, .int .i64 0, .string ⟨#[]⟩, .int .i64 0, .slice none 0 0] TX (0, 0))
  obtain ⟨W3, hW3⟩ : ∃ W3, ((w.alloc (.cells #[.int .i64 e.k, .int .i64 e.o, .string e.s, .int .i64 e.v, sl] TX (0, 0))).alloc (.cells #[.int .i64 f.k, .int .i64 f.o, .string f.s, .int .i64 f.v, sm] TX (0, 0))).alloc (.cells #[.int .i64 0, .int .i64 0, .string ⟨#[]⟩, .int .i64 0, .slice none 0 0] TX (0, 0)) = W3 := ⟨_, rfl⟩
  have hs3 : W3.heap.size = w.heap.size + 1 + 1 + 1 := by rw [← hW3]; simp
  rw [hW3] at t0 t1 t2 hb hW
  have hb4 : Below W3.heap.size W3 W := by rw [← hW]; exact below_allocW W3 _
  have t3 := World.alloc_heap_new W3 (.cells #[.int .i64 e.k, .int .i64 e.o, .string e.s, .int .i64 e.v, sl, .int .i64 f.k, .int .i64 f.o, .string f.s, .int .i64 f.v, sm] TX (0, 0))
  rw [hW, hs3] at t3
  have t4 := (hb4.block _ (Array.getElem?_eq_some_iff.1 t2).1).trans t2
  refine ⟨t4, fun cs => ?_⟩
  have hb2 : Below w.heap.size w (W.setRow (w.heap.size + 1 + 1) cs) := below_setRow (hb.trans (hb4.mono hb.size)) (by omega) _
  refine ⟨hb2, two_known e f sl sm ?_ (KA.carry hK hb2) (KA.carry hM hb2) trivial⟩
  rw [setRow_other W (w.heap.size + 1 + 1) _ cs (by omega)]
  exact t3
set_option maxHeartbeats 4000000 in
theorem binary_any (o : Int) (e f : Ex) (sa : Option Addr) (m sc : Nat) (sa' : Option Addr) (m' sc' : Nat) (w : World) (hK : KX w e (.slice sa m sc)) (hM : KX w f (.slice sa' m' sc')) : Calls Tryd.prog 31 #[.int .i64 o, exV e (.slice sa m sc), exV f (.slice sa' m' sc')] w (RetL w.heap.size (biX o e f) w) := by
  obtain ⟨W, hW⟩ : ∃ W, (((w.alloc (.cells #[.int .i64 e.k, .int .i64 e.o, .string e.s, .int .i64 e.v, .slice sa m sc] TX (0, 0))).alloc (.cells #[.int .i64 f.k, .int .i64 f.o, .string f.s, .int .i64 f.v, .slice sa' m' sc'] TX (0, 0))).alloc (.cells #[.int .i64 0, .int .i64 0, .string ⟨#[]⟩, .int .i64 0, .slice none 0 0] TX (0, 0))).alloc (.cells #[.int .i64 e.k, .int .i64 e.o, .string e.s, .int .i64 e.v, .slice sa m sc, .int .i64 f.k, .int .i64 f.o, .string f.s, .int .i64 f.v, .slice sa' m' sc'] TX (0, 0)) = W := ⟨_, rfl⟩
  obtain ⟨g1, g2⟩ := biW w e f _ _ hK hM o W hW
  have HG1 := Lib.hid g1
  have HG2 := Lib.hid g2
  have HW := Lib.hid hW
  have HH4 := Lib.hid (setRow_heap W (w.heap.size + 1 + 1) _ #[.int .i64 4, .int .i64 o, .string ⟨#[]⟩, .int .i64 0, .slice (some ⟨w.heap.size + 1 + 1 + 1, 0, none⟩) 2 2] _ _ g1)
  simp only [exV]
  clear hK hM g1 g2 hW
  go_enter Tryd.func31, Tryd.ntmps31
  go_wp2_with (rw [HW.out]; refine wpList_store_row rfl TX (.tmp 6) (.tmp 11) rfl (w.heap.size + 1 + 1) #[.int .i64 4, .int .i64 o, .string ⟨#[]⟩, .int .i64 0, .slice (some ⟨w.heap.size + 1 + 1 + 1, 0, none⟩) 2 2] rfl rfl _ _ HG1.out (by kernel_rfl) rfl (by simp [Value.oneCell']) ?_)
  try simp only [Exit.inBlock, Exit.then]
  exact bodyPost_ret (results_cell_row (P := Tryd.prog) Tryd.results31 _ _ (w.heap.size + 1 + 1) TX _ (0, 0) _ rfl HH4.out Tryd.underlying26 rfl (by kernel_rfl)) rfl ⟨_, _, _, rfl, (HG2.out _).2, (HG2.out _).1⟩

end Go.Proofs.YtdgphhdkeikbaaaDoor
