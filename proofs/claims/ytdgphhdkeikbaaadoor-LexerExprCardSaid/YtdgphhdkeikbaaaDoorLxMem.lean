/-
  Tokens in memory: what is known of a slice of tokens; rows of the call's own; comparing tokens.
-/
import Derived.Laws.StructEq
import Derived.Laws.AppendOwn
import Derived.Test.YtdgphhdkeikbaaaDoorVcMem
import Derived.Test.YtdgphhdkeikbaaaDoorLxTokAt
namespace Go.Proofs.YtdgphhdkeikbaaaDoor
set_option linter.unusedSimpArgs false
set_option linter.unusedVariables false
open Go.RowKit

theorem infoTk : (Tryd.prog.info? TTk).map (fun i => (i.zero, i.size, i.bytes)) = some (some (.agg #[.int .i64 0, .string ⟨#[]⟩, .int .i64 0, .int .i64 0]), 4, 40) := by kernel_rfl
def gk (ts : List Tk) (k : Nat) : Tk := ts[k]?.getD zTk
theorem drop_consK (ts : List Tk) (k : Nat) (h : k < ts.length) : ts.drop k = gk ts k :: ts.drop (k + 1) := by
  rw [List.drop_eq_getElem_cons h]; simp [gk, h]
theorem take_snocK (ts : List Tk) (k : Nat) (h : k < ts.length) : ts.take (k + 1) = ts.take k ++ [gk ts k] := by
  rw [List.take_succ_eq_append_getElem h]; simp [gk, h]
/-- A token's four cells. -/
def encK (t : Tk) : List Value := [.int .i64 t.k, .string t.t, .int .i64 t.v, .int .i64 (t.a : Int)]
def tkL (l : List Tk) : List Value := l.flatMap encK
theorem tkL_nil : tkL [] = [] := rfl
theorem tkL_cons (t : Tk) (l : List Tk) : tkL (t :: l) = encK t ++ tkL l := by simp [tkL]
theorem tkL_append (a b : List Tk) : tkL (a ++ b) = tkL a ++ tkL b := by simp [tkL]
theorem tkL_snoc (l : List Tk) (t : Tk) : tkL (l ++ [t]) = tkL l ++ encK t := by simp [tkL]
theorem tkL_length (l : List Tk) : (tkL l).length = l.length * 4 := by
  induction l with
  | nil => rfl
  | cons x xs ih =>
    rw [tkL_cons, List.length_append, ih, List.length_cons]
    simp [encK]
    omega
theorem encK_one (t : Tk) : ∀ u ∈ encK t, u.oneCell' = true := by
  intro u hu
  simp [encK] at hu
  rcases hu with rfl | rfl | rfl | rfl <;> rfl
theorem tkL_drop (l : List Tk) (i : Nat) : (tkL l).drop (i * 4) = tkL (l.drop i) := by
  by_cases h : i ≤ l.length
  · conv => lhs; rw [← List.take_append_drop i l, tkL_append]
    rw [List.drop_left' (by rw [tkL_length, List.length_take]; omega)]
  · rw [List.drop_eq_nil_of_le (by rw [tkL_length]; omega), List.drop_eq_nil_of_le (by omega)]
    rfl
theorem tkL_get (l : List Tk) (j : Nat) (h : j < l.length) : (tkL l)[j * 4]? = some (.int .i64 (gk l j).k) ∧ (tkL l)[j * 4 + 1]? = some (.string (gk l j).t) ∧ (tkL l)[j * 4 + 2]? = some (.int .i64 (gk l j).v) ∧ (tkL l)[j * 4 + 3]? = some (.int .i64 ((gk l j).a : Int)) := by
  have key : ∀ i, (tkL l)[j * 4 + i]? = (encK (gk l j) ++ tkL (l.drop (j + 1)))[i]? := by
    intro i
    rw [← List.getElem?_drop, tkL_drop, drop_consK l j h, tkL_cons]
  refine ⟨?_, ?_, ?_, ?_⟩
  · have := key 0
    rw [Nat.add_zero] at this
    rw [this]; rfl
  · rw [key 1]; rfl
  · rw [key 2]; rfl
  · rw [key 3]; rfl

/-! ### What is known of a slice of tokens -/
/-- All but where they stand. -/
def TkA (φ : Nat → Prop) (w : World) (a : Option Addr) (ts : List Tk) : Prop :=
  ∀ j, j < ts.length → ∃ b off, a = some ⟨b, off, none⟩ ∧ φ b ∧ b < w.heap.size ∧ w.cell? ⟨b, off + j * 4, none⟩ = some (.int .i64 (gk ts j).k) ∧ w.cell? ⟨b, off + j * 4 + 1, none⟩ = some (.string (gk ts j).t) ∧ w.cell? ⟨b, off + j * 4 + 2, none⟩ = some (.int .i64 (gk ts j).v) ∧ ∃ av : Int, w.cell? ⟨b, off + j * 4 + 3, none⟩ = some (.int .i64 av)
/-- Where they stand. -/
def TkO (φ : Nat → Prop) (w : World) (a : Option Addr) (ts : List Tk) : Prop :=
  ∀ j, j < ts.length → ∃ b off, a = some ⟨b, off, none⟩ ∧ φ b ∧ b < w.heap.size ∧ w.cell? ⟨b, off + j * 4 + 3, none⟩ = some (.int .i64 ((gk ts j).a : Int))
theorem TkA.keep {φ ψ : Nat → Prop} {w w' : World} {a : Option Addr} {ts : List Tk} (h : TkA φ w a ts) (hs : w.heap.size ≤ w'.heap.size) (hk : ∀ b, b < w.heap.size → φ b → ψ b ∧ w'.heap[b]? = w.heap[b]?) : TkA ψ w' a ts := fun j hj => by
  obtain ⟨b, off, e1, e2, e3, e4, e5, e6, av, e7⟩ := h j hj
  obtain ⟨h1, hb⟩ := hk b e3 e2
  exact ⟨b, off, e1, h1, by omega, (World.cell?_of_block hb).trans e4, (World.cell?_of_block hb).trans e5, (World.cell?_of_block hb).trans e6, av, (World.cell?_of_block hb).trans e7⟩
theorem TkO.keep {φ ψ : Nat → Prop} {w w' : World} {a : Option Addr} {ts : List Tk} (h : TkO φ w a ts) (hs : w.heap.size ≤ w'.heap.size) (hk : ∀ b, b < w.heap.size → φ b → ψ b ∧ w'.heap[b]? = w.heap[b]?) : TkO ψ w' a ts := fun j hj => by
  obtain ⟨b, off, e1, e2, e3, e4⟩ := h j hj
  obtain ⟨h1, hb⟩ := hk b e3 e2
  exact ⟨b, off, e1, h1, by omega, (World.cell?_of_block hb).trans e4⟩
theorem TkA.below {φ : Nat → Prop} {w w' : World} {a : Option Addr} {ts : List Tk} (h : TkA φ w a ts) (hb : Below w.heap.size w w') : TkA φ w' a ts := h.keep hb.size (fun b hb' hp => ⟨hp, hb.block b hb'⟩)
theorem TkO.below {φ : Nat → Prop} {w w' : World} {a : Option Addr} {ts : List Tk} (h : TkO φ w a ts) (hb : Below w.heap.size w w') : TkO φ w' a ts := h.keep hb.size (fun b hb' hp => ⟨hp, hb.block b hb'⟩)
/-- A slice value that leads to these tokens, in a block that φ allows. -/
def KkC (φ : Nat → Prop) (w : World) (v : Value) (ts : List Tk) : Prop := ∃ a c, v = .slice a ts.length c ∧ ts.length ≤ c ∧ c ≤ 9223372036854775807 ∧ TkA φ w a ts
def LkC (φ : Nat → Prop) (w : World) (v : Value) (ts : List Tk) : Prop := ∃ a c, v = .slice a ts.length c ∧ ts.length ≤ c ∧ c ≤ 9223372036854775807 ∧ TkA φ w a ts ∧ TkO φ w a ts
theorem LkC.kk {φ : Nat → Prop} {w : World} {v : Value} {ts : List Tk} (h : LkC φ w v ts) : KkC φ w v ts := by
  obtain ⟨a, c, e, h1, h2, h3, _⟩ := h
  exact ⟨a, c, e, h1, h2, h3⟩
theorem KkC.keep {φ ψ : Nat → Prop} {w w' : World} {v : Value} {ts : List Tk} (h : KkC φ w v ts) (hs : w.heap.size ≤ w'.heap.size) (hk : ∀ b, b < w.heap.size → φ b → ψ b ∧ w'.heap[b]? = w.heap[b]?) : KkC ψ w' v ts := by
  obtain ⟨a, c, e, h1, h2, h3⟩ := h
  exact ⟨a, c, e, h1, h2, h3.keep hs hk⟩
theorem LkC.keep {φ ψ : Nat → Prop} {w w' : World} {v : Value} {ts : List Tk} (h : LkC φ w v ts) (hs : w.heap.size ≤ w'.heap.size) (hk : ∀ b, b < w.heap.size → φ b → ψ b ∧ w'.heap[b]? = w.heap[b]?) : LkC ψ w' v ts := by
  obtain ⟨a, c, e, h1, h2, h3, h4⟩ := h
  exact ⟨a, c, e, h1, h2, h3.keep hs hk, h4.keep hs hk⟩
theorem LkC.below {φ : Nat → Prop} {w w' : World} {v : Value} {ts : List Tk} (h : LkC φ w v ts) (hb : Below w.heap.size w w') : LkC φ w' v ts := h.keep hb.size (fun b hb' hp => ⟨hp, hb.block b hb'⟩)
theorem KkC.below {φ : Nat → Prop} {w w' : World} {v : Value} {ts : List Tk} (h : KkC φ w v ts) (hb : Below w.heap.size w w') : KkC φ w' v ts := h.keep hb.size (fun b hb' hp => ⟨hp, hb.block b hb'⟩)
/-- A row of tokens of the call's own. -/
def OwnK (B : Nat) (ts : List Tk) (v : Value) (w : World) : Prop := w.ownsRow B TTk 4 v ts.length (tkL ts)
theorem OwnK.nil (B : Nat) (w : World) : OwnK B [] (.slice none 0 0) w := World.ownsRow_nil _ _ _ _
theorem OwnK.fresh {B : Nat} {ts : List Tk} {v : Value} {w : World} (h : OwnK B ts v w) : LkC (fun b => B ≤ b) w v ts := by
  have h : w.ownsRow B TTk 4 v ts.length (tkL ts) := h
  obtain ⟨a, c, rfl, h1, h2⟩ := ownZ_slice h
  have key : ∀ j, j < ts.length → ∃ b off, a = some ⟨b, off, none⟩ ∧ B ≤ b ∧ b < w.heap.size ∧ w.cell? ⟨b, off + j * 4, none⟩ = some (.int .i64 (gk ts j).k) ∧ w.cell? ⟨b, off + j * 4 + 1, none⟩ = some (.string (gk ts j).t) ∧ w.cell? ⟨b, off + j * 4 + 2, none⟩ = some (.int .i64 (gk ts j).v) ∧ w.cell? ⟨b, off + j * 4 + 3, none⟩ = some (.int .i64 ((gk ts j).a : Int)) := by
    intro j hj
    obtain ⟨g, cap, e, hB⟩ := ownZ_some h (by omega)
    injection e with e1 e2 e3
    subst e1
    obtain ⟨g1, g2, g3, g4⟩ := tkL_get ts j hj
    have hl := tkL_length ts
    refine ⟨g, 0, rfl, hB, (World.ownsRow.lt h g rfl).2, ?_, ?_, ?_, ?_⟩
    · rw [Nat.zero_add, World.ownsRow.cellAt h (j * 4) (by omega), g1]
    · rw [Nat.zero_add, World.ownsRow.cellAt h (j * 4 + 1) (by omega), g2]
    · rw [Nat.zero_add, World.ownsRow.cellAt h (j * 4 + 2) (by omega), g3]
    · rw [Nat.zero_add, World.ownsRow.cellAt h (j * 4 + 3) (by omega), g4]
  refine ⟨a, c, rfl, h1, h2, fun j hj => ?_, fun j hj => ?_⟩
  · obtain ⟨b, off, e1, e2, e3, e4, e5, e6, e7⟩ := key j hj
    exact ⟨b, off, e1, e2, e3, e4, e5, e6, _, e7⟩
  · obtain ⟨b, off, e1, e2, e3, _, _, _, e7⟩ := key j hj
    exact ⟨b, off, e1, e2, e3, e7⟩
theorem newCellK (w : World) (t : Tk) : ∀ (j : Nat) (u : Value), (encK t)[j]? = some u → (w.alloc (.cells #[.int .i64 t.k, .string t.t, .int .i64 t.v, .int .i64 (t.a : Int)] TTk)).cell? ((⟨w.heap.size, 0, none⟩ : Addr).add j) = some u := by
  intro j u hj
  rw [Addr.add_lit, Lib.cell_of_heap (heapNew w _)]
  match j, hj with
  | 0, hj => simpa [encK] using hj
  | 1, hj => simpa [encK] using hj
  | 2, hj => simpa [encK] using hj
  | 3, hj => simpa [encK] using hj

/-! ### Comparing tokens -/
def sameK (x y : Tk) : Bool := x.k == y.k && (x.t.toList == y.t.toList && (x.v == y.v && ((x.a : Int) == (y.a : Int))))
theorem bytes_inj {x y : ByteArray} (h : x.toList = y.toList) : x = y := by
  rw [ByteArray.toList_eq, ByteArray.toList_eq] at h
  cases x; cases y
  have : ∀ {a b : Array UInt8}, a.toList = b.toList → a = b := fun h => Array.toList_inj.1 h
  exact congrArg _ (this h)
theorem sameK_eq (x y : Tk) : sameK x y = decide (x = y) := by
  obtain ⟨a, b, c, d⟩ := x
  obtain ⟨a', b', c', d'⟩ := y
  unfold sameK
  rw [Bool.eq_iff_iff]
  simp only [Bool.and_eq_true, beq_iff_eq, decide_eq_true_eq, Tk.mk.injEq]
  constructor
  · rintro ⟨h1, h2, h3, h4⟩
    exact ⟨h1, bytes_inj h2, h3, by omega⟩
  · rintro ⟨rfl, rfl, rfl, rfl⟩
    exact ⟨rfl, rfl, rfl, rfl⟩
theorem run_sameK (x y : Tk) (w : World) : (Op.equalIn 10000 TTk (.agg (encK x).toArray) (.agg (encK y).toArray)).run Tryd.prog w = .ok (sameK x y) w := by
  have hS : Tryd.prog.underlying TTk = some (.struct (Tryd.prog.fieldsOf TTk)) := by kernel_rfl
  have hp : Tryd.prog.stoodInHeld TTk = false := by kernel_rfl
  have u := Tryd.underlying3
  have a := Tryd.isAgg3
  have z := Tryd.sizeOf3
  have u2 := Tryd.underlying9
  have a2 := Tryd.isAgg9
  have z2 := Tryd.sizeOf9
  simp only [encK]
  rw [show (10000 : Nat) = 9999 + 1 from rfl, run_equalIn_struct w 9999 TTk _ _ hS hp]
  simp only [Program.fieldsOf, TTk, Tryd.underlying37]
  go_simp
  unfold sameK
  obtain ⟨x1, x2, x3, x4⟩ := x
  obtain ⟨y1, y2, y3, y4⟩ := y
  simp only
  cases h1 : (x1 == y1) <;> cases h2 : (x2.toList == y2.toList) <;> cases h3 : (x3 == y3) <;> cases h4 : ((x4 : Int) == (y4 : Int)) <;> simp_all
end Go.Proofs.YtdgphhdkeikbaaaDoor
