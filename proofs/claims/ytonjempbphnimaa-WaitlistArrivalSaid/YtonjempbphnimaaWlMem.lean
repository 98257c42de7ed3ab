/-
  Waiters in memory: what is known of a slice of waiters; rows of the call's own; comparing waiters.
-/
import Derived.Laws.StructEq
import Derived.Test.YtonjempbphnimaaVcMem
import Derived.Test.YtonjempbphnimaaWlPlain
namespace Go.Proofs.Ytonjempbphnimaa
open Go.RowKit

abbrev TW : TypeId := 24
theorem infoW : (Try.prog.info? TW).map (fun i => (i.zero, i.size, i.bytes)) = some (some (.agg #[.int .i64 0, .int .i64 0, .int .i64 0, .int .i64 0, .int .i64 0]), 5, 40) := by kernel_rfl
/-- A waiter's five cells. -/
def encW (t : Wl) : List Value := [.int .i64 t.1, .int .i64 t.2.1, .int .i64 t.2.2.1, .int .i64 t.2.2.2.1, .int .i64 t.2.2.2.2]
def wlA (t : Wl) : Value := .agg (encW t).toArray
def wlV (l : List Wl) : List Value := l.flatMap encW
theorem wlV_nil : wlV [] = [] := rfl
theorem wlV_cons (t : Wl) (l : List Wl) : wlV (t :: l) = encW t ++ wlV l := by simp [wlV]
theorem wlV_append (a b : List Wl) : wlV (a ++ b) = wlV a ++ wlV b := by simp [wlV]
theorem wlV_snoc (l : List Wl) (t : Wl) : wlV (l ++ [t]) = wlV l ++ encW t := by simp [wlV]
theorem wlV_length (l : List Wl) : (wlV l).length = l.length * 5 := by
  induction l with
  | nil => rfl
  | cons x xs ih =>
    rw [wlV_cons, List.length_append, ih, List.length_cons]
    simp [encW]
    omega
theorem encW_length (t : Wl) : (encW t).length = 5 := rfl
theorem encW_one (t : Wl) : ∀ u ∈ encW t, u.oneCell' = true := by
  intro u hu
  simp [encW] at hu
  rcases hu with rfl | rfl | rfl | rfl | rfl <;> rfl
theorem wlV_one (l : List Wl) : ∀ u ∈ wlV l, u.oneCell' = true := by
  intro u hu
  unfold wlV at hu
  obtain ⟨e, _, h⟩ := List.mem_flatMap.1 hu
  exact encW_one e u h
theorem wlV_take (l : List Wl) (i : Nat) : (wlV l).take (i * 5) = wlV (l.take i) := by
  by_cases h : i ≤ l.length
  · conv => lhs; rw [← List.take_append_drop i l, wlV_append]
    rw [List.take_left' (by rw [wlV_length, List.length_take]; omega)]
  · rw [List.take_of_length_le (by rw [wlV_length]; omega), List.take_of_length_le (by omega)]
theorem wlV_drop (l : List Wl) (i : Nat) : (wlV l).drop (i * 5) = wlV (l.drop i) := by
  by_cases h : i ≤ l.length
  · conv => lhs; rw [← List.take_append_drop i l, wlV_append]
    rw [List.drop_left' (by rw [wlV_length, List.length_take]; omega)]
  · rw [List.drop_eq_nil_of_le (by rw [wlV_length]; omega), List.drop_eq_nil_of_le (by omega)]
    rfl
/-- Cell i of a waiter. -/
def fldW (t : Wl) (i : Nat) : Int := match i with
  | 0 => t.1
  | 1 => t.2.1
  | 2 => t.2.2.1
  | 3 => t.2.2.2.1
  | _ => t.2.2.2.2
theorem encW_get (t : Wl) (i : Nat) (h : i < 5) : (encW t)[i]? = some (.int .i64 (fldW t i)) := by
  match i, h with
  | 0, _ => rfl
  | 1, _ => rfl
  | 2, _ => rfl
  | 3, _ => rfl
  | 4, _ => rfl
theorem wlV_get (l : List Wl) (j i : Nat) (h : j < l.length) (hi : i < 5) : (wlV l)[j * 5 + i]? = some (.int .i64 (fldW (gw l j) i)) := by
  have key : (wlV l)[j * 5 + i]? = (encW (gw l j) ++ wlV (l.drop (j + 1)))[i]? := by
    rw [← List.getElem?_drop, wlV_drop, drop_consW l j h, wlV_cons]
  rw [key, List.getElem?_append_left (by rw [encW_length]; exact hi), encW_get _ _ hi]

/-! ### What is known of a slice of waiters -/

/-- The five cells of a waiter at a place of a block. -/
def At5 (w : World) (b o : Nat) (t : Wl) : Prop := w.cell? ⟨b, o, none⟩ = some (.int .i64 t.1) ∧ w.cell? ⟨b, o + 1, none⟩ = some (.int .i64 t.2.1) ∧ w.cell? ⟨b, o + 2, none⟩ = some (.int .i64 t.2.2.1) ∧ w.cell? ⟨b, o + 3, none⟩ = some (.int .i64 t.2.2.2.1) ∧ w.cell? ⟨b, o + 4, none⟩ = some (.int .i64 t.2.2.2.2)
theorem At5.keep {w w' : World} {b o : Nat} {t : Wl} (h : At5 w b o t) (hb : w'.heap[b]? = w.heap[b]?) : At5 w' b o t := by
  obtain ⟨h0, h1, h2, h3, h4⟩ := h
  exact ⟨(World.cell?_of_block hb).trans h0, (World.cell?_of_block hb).trans h1, (World.cell?_of_block hb).trans h2, (World.cell?_of_block hb).trans h3, (World.cell?_of_block hb).trans h4⟩
theorem At5.lt {w : World} {b o : Nat} {t : Wl} (h : At5 w b o t) : b < w.heap.size := World.block_lt_of_cell? _ _ h.1
theorem At5.below {w w' : World} {b o : Nat} {t : Wl} (h : At5 w b o t) (hb : Below w.heap.size w w') : At5 w' b o t := h.keep (hb.block b h.lt)
theorem At5.fld {w : World} {b o : Nat} {t : Wl} (h : At5 w b o t) (i : Nat) (hi : i < 5) : w.cell? ⟨b, o + i, none⟩ = some (.int .i64 (fldW t i)) := by
  obtain ⟨h0, h1, h2, h3, h4⟩ := h
  match i, hi with
  | 0, _ => exact h0
  | 1, _ => exact h1
  | 2, _ => exact h2
  | 3, _ => exact h3
  | 4, _ => exact h4
theorem At5.of {w : World} {b o : Nat} {t : Wl} (h : ∀ i, i < 5 → w.cell? ⟨b, o + i, none⟩ = some (.int .i64 (fldW t i))) : At5 w b o t := ⟨h 0 (by decide), h 1 (by decide), h 2 (by decide), h 3 (by decide), h 4 (by decide)⟩
theorem box5 (w : World) (a b c d f : Int) : At5 (w.alloc (.cells #[.int .i64 a, .int .i64 b, .int .i64 c, .int .i64 d, .int .i64 f] TW)) w.heap.size 0 (a, b, c, d, f) := by
  refine ⟨?_, ?_, ?_, ?_, ?_⟩ <;> go_simp

def WlA (φ : Nat → Prop) (w : World) (a : Option Addr) (ts : List Wl) : Prop :=
  ∀ j, j < ts.length → ∃ b off, a = some ⟨b, off, none⟩ ∧ φ b ∧ b < w.heap.size ∧ At5 w b (off + j * 5) (gw ts j)
theorem WlA.mono {φ ψ : Nat → Prop} {w : World} {a : Option Addr} {ts : List Wl} (h : WlA φ w a ts) (hp : ∀ b, b < w.heap.size → φ b → ψ b) : WlA ψ w a ts := fun j hj => by
  obtain ⟨b, off, e1, e2, e3, e4⟩ := h j hj
  exact ⟨b, off, e1, hp b e3 e2, e3, e4⟩
theorem WlA.keep {φ : Nat → Prop} {w w' : World} {a : Option Addr} {ts : List Wl} (h : WlA φ w a ts) (hs : w.heap.size ≤ w'.heap.size) (hk : ∀ b, b < w.heap.size → φ b → w'.heap[b]? = w.heap[b]?) : WlA φ w' a ts := fun j hj => by
  obtain ⟨b, off, e1, e2, e3, e4⟩ := h j hj
  exact ⟨b, off, e1, e2, by omega, e4.keep (hk b e3 e2)⟩
theorem WlA.below {φ : Nat → Prop} {w w' : World} {a : Option Addr} {ts : List Wl} (h : WlA φ w a ts) (hb : Below w.heap.size w w') : WlA φ w' a ts := h.keep hb.size (fun b hb' _ => hb.block b hb')
theorem WlA.nil (φ : Nat → Prop) (w : World) (a : Option Addr) : WlA φ w a [] := fun j hj => by simp at hj
theorem WlA.some_ {φ : Nat → Prop} {w : World} {a : Option Addr} {ts : List Wl} (h : WlA φ w a ts) (h0 : 0 < ts.length) : ∃ b off, a = some ⟨b, off, none⟩ ∧ φ b ∧ b < w.heap.size ∧ ∀ j, j < ts.length → At5 w b (off + j * 5) (gw ts j) := by
  obtain ⟨b, off, e, hp, hb, _⟩ := h 0 h0
  refine ⟨b, off, e, hp, hb, fun j hj => ?_⟩
  obtain ⟨b', off', e', _, _, h'⟩ := h j hj
  rw [e] at e'
  cases e'
  exact h'
theorem WlA.take {φ : Nat → Prop} {w : World} {a : Option Addr} {ts : List Wl} (h : WlA φ w a ts) (k : Nat) : WlA φ w a (ts.take k) := fun j hj => by
  rw [List.length_take] at hj
  rw [gw_take (by omega)]
  exact h j (by omega)
theorem WlA.drop {φ : Nat → Prop} {w : World} {b off : Nat} {ts : List Wl} (h : WlA φ w (some ⟨b, off, none⟩) ts) (k : Nat) : WlA φ w (some ⟨b, off + k * 5, none⟩) (ts.drop k) := fun j hj => by
  rw [List.length_drop] at hj
  obtain ⟨b', off', e, h1, h2, h3⟩ := h (k + j) (by omega)
  cases e
  refine ⟨b, off + k * 5, rfl, h1, h2, ?_⟩
  rw [gw_drop, show off + k * 5 + j * 5 = off + (k + j) * 5 by omega]
  exact h3
theorem WlA.cells {φ : Nat → Prop} {w : World} {b off : Nat} {ts : List Wl} (h : WlA φ w (some ⟨b, off, none⟩) ts) : ∀ j u, (wlV ts)[j]? = some u → w.cell? ⟨b, off + j, none⟩ = some u := by
  intro j u hj
  have hlt : j < (wlV ts).length := (List.getElem?_eq_some_iff.1 hj).1
  rw [wlV_length] at hlt
  obtain ⟨b', off', e', _, _, h1⟩ := h (j / 5) (by omega)
  cases e'
  have h2 := h1.fld (j % 5) (Nat.mod_lt _ (by decide))
  have h3 := wlV_get ts (j / 5) (j % 5) (by omega) (Nat.mod_lt _ (by decide))
  rw [show j / 5 * 5 + j % 5 = j by omega, hj] at h3
  rw [show off + j / 5 * 5 + j % 5 = off + j by omega] at h2
  rw [h2, h3]
/-- A slice value that leads to these waiters, in a block that φ allows. -/
def WlP (φ : Nat → Prop) (w : World) (v : Value) (ts : List Wl) : Prop := ∃ a c, v = .slice a ts.length c ∧ ts.length ≤ c ∧ c ≤ 9223372036854775807 ∧ WlA φ w a ts
def KwC (w : World) (v : Value) (ts : List Wl) : Prop := WlP (fun _ => True) w v ts
def FwC (n : Nat) (w : World) (v : Value) (ts : List Wl) : Prop := WlP (fun b => n ≤ b) w v ts
theorem WlP.known {φ : Nat → Prop} {w : World} {v : Value} {ts : List Wl} (h : WlP φ w v ts) : KwC w v ts := by
  obtain ⟨a, c, e, h1, h2, h3⟩ := h
  exact ⟨a, c, e, h1, h2, h3.mono fun _ _ _ => trivial⟩
theorem WlP.mono {φ ψ : Nat → Prop} {w : World} {v : Value} {ts : List Wl} (h : WlP φ w v ts) (hp : ∀ b, b < w.heap.size → φ b → ψ b) : WlP ψ w v ts := by
  obtain ⟨a, c, e, h1, h2, h3⟩ := h
  exact ⟨a, c, e, h1, h2, h3.mono hp⟩
theorem WlP.keep {φ : Nat → Prop} {w w' : World} {v : Value} {ts : List Wl} (h : WlP φ w v ts) (hs : w.heap.size ≤ w'.heap.size) (hk : ∀ b, b < w.heap.size → φ b → w'.heap[b]? = w.heap[b]?) : WlP φ w' v ts := by
  obtain ⟨a, c, e, h1, h2, h3⟩ := h
  exact ⟨a, c, e, h1, h2, h3.keep hs hk⟩
theorem WlP.below {φ : Nat → Prop} {w w' : World} {v : Value} {ts : List Wl} (h : WlP φ w v ts) (hb : Below w.heap.size w w') : WlP φ w' v ts := h.keep hb.size (fun b hb' _ => hb.block b hb')
theorem KwC.below {w w' : World} {v : Value} {ts : List Wl} (h : KwC w v ts) (hb : Below w.heap.size w w') : KwC w' v ts := WlP.below h hb
theorem FwC.below {n : Nat} {w w' : World} {v : Value} {ts : List Wl} (h : FwC n w v ts) (hb : Below w.heap.size w w') : FwC n w' v ts := WlP.below h hb
theorem FwC.known {n : Nat} {w : World} {v : Value} {ts : List Wl} (h : FwC n w v ts) : KwC w v ts := WlP.known h
theorem FwC.mono {n m : Nat} {w : World} {v : Value} {ts : List Wl} (h : FwC n w v ts) (hm : m ≤ n) : FwC m w v ts := WlP.mono h fun _ _ hb => Nat.le_trans hm hb
theorem FwC.nil (n : Nat) (w : World) (a : Option Addr) (c : Nat) (hc : c ≤ 9223372036854775807) : FwC n w (.slice a 0 c) [] := ⟨a, c, rfl, Nat.zero_le _, hc, WlA.nil _ _ _⟩
theorem KwC.nil (w : World) (a : Option Addr) (c : Nat) (hc : c ≤ 9223372036854775807) : KwC w (.slice a 0 c) [] := ⟨a, c, rfl, Nat.zero_le _, hc, WlA.nil _ _ _⟩
theorem KwC.all {w : World} {v : Value} {ts : List Wl} (h : KwC w v ts) : WlP (fun b => b < w.heap.size) w v ts := WlP.mono h fun _ hb _ => hb

/-- A row of waiters of the call's own. -/
def OwnW (B : Nat) (ts : List Wl) (v : Value) (w : World) : Prop := w.ownsRow B TW 5 v ts.length (wlV ts)
theorem OwnW.nil (B : Nat) (w : World) : OwnW B [] (.slice none 0 0) w := World.ownsRow_nil _ _ _ _
theorem OwnW.fresh {B : Nat} {ts : List Wl} {v : Value} {w : World} (h : OwnW B ts v w) : FwC B w v ts := by
  have h : w.ownsRow B TW 5 v ts.length (wlV ts) := h
  obtain ⟨a, c, rfl, h1, h2⟩ := ownZ_slice h
  refine ⟨a, c, rfl, h1, h2, fun j hj => ?_⟩
  obtain ⟨g, cap, e, hB⟩ := ownZ_some h (by omega)
  injection e with e1 e2 e3
  subst e1
  have hl := wlV_length ts
  refine ⟨g, 0, rfl, hB, (World.ownsRow.lt h g rfl).2, At5.of fun i hi => ?_⟩
  rw [Nat.zero_add, World.ownsRow.cellAt h (j * 5 + i) (by omega), wlV_get ts j i hj hi]
theorem OwnW.lower {A B : Nat} {o : List Wl} {v : Value} {w : World} (h : OwnW B o v w) (hA : A ≤ B) : OwnW A o v w := ownZ_base hA h
theorem grown_ofW {w w' : World} (h : Below w.heap.size w w') (row : Option Nat) : w.grownBy w' row := ⟨h.os, h.tape, h.output, h.size, fun k hk _ => h.block k hk⟩
theorem OwnW.below {B : Nat} {o : List Wl} {v : Value} {w w' : World} (h : OwnW B o v w) (hb : Below w.heap.size w w') : OwnW B o v w' := World.ownsRow.kept (show w.ownsRow B TW 5 v o.length (wlV o) from h) (grown_ofW hb none) (by cases v.ownBlock <;> simp)
theorem OwnW.lt {B : Nat} {o : List Wl} {v : Value} {w : World} (h : OwnW B o v w) : ∀ k, v.ownBlock = some k → B ≤ k ∧ k < w.heap.size := fun k e => World.ownsRow.lt (show w.ownsRow B TW 5 v o.length (wlV o) from h) k e
theorem kwc_block {w : World} {g : Nat} {l : List Wl} (h : w.heap[g]? = some (.cells (wlV l).toArray TW (0, 0))) (hl : l.length ≤ 1000) : FwC g w (.slice (some ⟨g, 0, none⟩) l.length l.length) l := by
  refine ⟨_, _, rfl, Nat.le_refl _, by omega, fun j hj => ⟨g, 0, rfl, Nat.le_refl _, (Array.getElem?_eq_some_iff.1 h).1, At5.of fun i hi => ?_⟩⟩
  rw [Nat.zero_add, Lib.cell_of_heap h]
  simpa using wlV_get l j i hj hi
theorem newCellW (w : World) (t : Wl) : ∀ j u, (encW t)[j]? = some u → (w.alloc (.cells (encW t).toArray TW)).cell? ((⟨w.heap.size, 0, none⟩ : Addr).add j) = some u := by
  intro j u hj
  rw [Addr.add_lit, Lib.cell_of_heap (heap_alloc_new w _)]
  simpa using hj

/-! ### Comparing waiters -/

def sameW (x y : Wl) : Bool := x.1 == y.1 && (x.2.1 == y.2.1 && (x.2.2.1 == y.2.2.1 && (x.2.2.2.1 == y.2.2.2.1 && x.2.2.2.2 == y.2.2.2.2)))
theorem sameW_eq (x y : Wl) : sameW x y = decide (x = y) := by
  obtain ⟨a, b, c, d, e⟩ := x
  obtain ⟨a', b', c', d', e'⟩ := y
  unfold sameW
  by_cases h1 : a = a' <;> by_cases h2 : b = b' <;> by_cases h3 : c = c' <;> by_cases h4 : d = d' <;> by_cases h5 : e = e' <;> simp [h1, h2, h3, h4, h5]
theorem run_sameW (x y : Wl) (w : World) : (Op.equalIn 10000 TW (.agg (encW x).toArray) (.agg (encW y).toArray)).run Try.prog w = .ok (sameW x y) w := by
  have hS : Try.prog.underlying TW = some (.struct (Try.prog.fieldsOf TW)) := by kernel_rfl
  have hp : Try.prog.stoodInHeld TW = false := by kernel_rfl
  have u := Try.underlying3
  have a := Try.isAgg3
  have z := Try.sizeOf3
  simp only [encW]
  rw [show (10000 : Nat) = 9999 + 1 from rfl, run_equalIn_struct w 9999 TW _ _ hS hp]
  simp only [Program.fieldsOf, TW, Try.underlying24]
  go_simp
  unfold sameW
  by_cases h1 : x.1 = y.1 <;> by_cases h2 : x.2.1 = y.2.1 <;> by_cases h3 : x.2.2.1 = y.2.2.1 <;> by_cases h4 : x.2.2.2.1 = y.2.2.2.1 <;> by_cases h5 : x.2.2.2.2 = y.2.2.2.2 <;> simp [h1, h2, h3, h4, h5]
theorem run_neW (a b c d f : Int) (x0 x1 x2 x3 x4 : Int) (w : World) : (binOp .neq TW (.agg #[.int .i64 a, .int .i64 b, .int .i64 c, .int .i64 d, .int .i64 f]) (.agg #[.int .i64 x0, .int .i64 x1, .int .i64 x2, .int .i64 x3, .int .i64 x4])).run Try.prog w = .ok (.bool (!decide ((a, b, c, d, f) = (x0, x1, x2, x3, x4)))) w := by
  have h := run_sameW (a, b, c, d, f) (x0, x1, x2, x3, x4) w
  simp only [encW, sameW_eq] at h
  rw [run_neq_struct, h]
  rfl
theorem run_eqW (a b c d f : Int) (x0 x1 x2 x3 x4 : Int) (w : World) : (binOp .eql TW (.agg #[.int .i64 a, .int .i64 b, .int .i64 c, .int .i64 d, .int .i64 f]) (.agg #[.int .i64 x0, .int .i64 x1, .int .i64 x2, .int .i64 x3, .int .i64 x4])).run Try.prog w = .ok (.bool (decide ((a, b, c, d, f) = (x0, x1, x2, x3, x4)))) w := by
  have h := run_sameW (a, b, c, d, f) (x0, x1, x2, x3, x4) w
  simp only [encW, sameW_eq] at h
  rw [run_eql_struct, h]
  rfl

end Go.Proofs.Ytonjempbphnimaa
