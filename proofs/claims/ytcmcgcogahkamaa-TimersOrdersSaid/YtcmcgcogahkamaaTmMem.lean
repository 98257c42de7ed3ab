/-
  Timers in memory: what is known of a slice of timers; rows of the call's own; comparing timers and keys.
-/
import Derived.Laws.StructEq
import Derived.Test.YtcmcgcogahkamaaVcMem
import Derived.Test.YtcmcgcogahkamaaTmPlain
namespace Go.Proofs.Ytcmcgcogahkamaa
open Go.RowKit

abbrev TT : TypeId := 24
abbrev TK : TypeId := 53
theorem infoT : (Try.prog.info? TT).map (fun i => (i.zero, i.size, i.bytes)) = some (some (.agg #[.int .i64 0, .int .i64 0, .int .i64 0]), 3, 24) := by kernel_rfl
/-- A timer's three cells. -/
def encT (t : Tm) : List Value := [.int .i64 t.1, .int .i64 t.2.1, .int .i64 t.2.2]
def tmA (t : Tm) : Value := .agg (encT t).toArray
def tmV (l : List Tm) : List Value := l.flatMap encT
theorem tmV_nil : tmV [] = [] := rfl
theorem tmV_cons (t : Tm) (l : List Tm) : tmV (t :: l) = encT t ++ tmV l := by simp [tmV]
theorem tmV_append (a b : List Tm) : tmV (a ++ b) = tmV a ++ tmV b := by simp [tmV]
theorem tmV_snoc (l : List Tm) (t : Tm) : tmV (l ++ [t]) = tmV l ++ encT t := by simp [tmV]
theorem tmV_length (l : List Tm) : (tmV l).length = l.length * 3 := by
  induction l with
  | nil => rfl
  | cons x xs ih =>
    rw [tmV_cons, List.length_append, ih, List.length_cons]
    simp [encT]
    omega
theorem encT_one (t : Tm) : ∀ u ∈ encT t, u.oneCell' = true := by
  intro u hu
  simp [encT] at hu
  rcases hu with rfl | rfl | rfl <;> rfl
theorem tmV_one (l : List Tm) : ∀ u ∈ tmV l, u.oneCell' = true := by
  intro u hu
  unfold tmV at hu
  obtain ⟨e, _, h⟩ := List.mem_flatMap.1 hu
  exact encT_one e u h
theorem tmV_take (l : List Tm) (i : Nat) : (tmV l).take (i * 3) = tmV (l.take i) := by
  by_cases h : i ≤ l.length
  · conv => lhs; rw [← List.take_append_drop i l, tmV_append]
    rw [List.take_left' (by rw [tmV_length, List.length_take]; omega)]
  · rw [List.take_of_length_le (by rw [tmV_length]; omega), List.take_of_length_le (by omega)]
theorem tmV_drop (l : List Tm) (i : Nat) : (tmV l).drop (i * 3) = tmV (l.drop i) := by
  by_cases h : i ≤ l.length
  · conv => lhs; rw [← List.take_append_drop i l, tmV_append]
    rw [List.drop_left' (by rw [tmV_length, List.length_take]; omega)]
  · rw [List.drop_eq_nil_of_le (by rw [tmV_length]; omega), List.drop_eq_nil_of_le (by omega)]
    rfl
theorem tmV_get (l : List Tm) (j : Nat) (h : j < l.length) : (tmV l)[j * 3]? = some (.int .i64 (gt l j).1) ∧ (tmV l)[j * 3 + 1]? = some (.int .i64 (gt l j).2.1) ∧ (tmV l)[j * 3 + 2]? = some (.int .i64 (gt l j).2.2) := by
  have key : ∀ i, (tmV l)[j * 3 + i]? = (encT (gt l j) ++ tmV (l.drop (j + 1)))[i]? := by
    intro i
    rw [← List.getElem?_drop, tmV_drop, drop_consT l j h, tmV_cons]
  refine ⟨?_, ?_, ?_⟩
  · have := key 0
    rw [Nat.add_zero] at this
    rw [this]; rfl
  · rw [key 1]; rfl
  · rw [key 2]; rfl

/-! ### What is known of a slice of timers -/

def TmA (φ : Nat → Prop) (w : World) (a : Option Addr) (ts : List Tm) : Prop :=
  ∀ j, j < ts.length → ∃ b off, a = some ⟨b, off, none⟩ ∧ φ b ∧ b < w.heap.size ∧ w.cell? ⟨b, off + j * 3, none⟩ = some (.int .i64 (gt ts j).1) ∧ w.cell? ⟨b, off + j * 3 + 1, none⟩ = some (.int .i64 (gt ts j).2.1) ∧ w.cell? ⟨b, off + j * 3 + 2, none⟩ = some (.int .i64 (gt ts j).2.2)
theorem TmA.mono {φ ψ : Nat → Prop} {w : World} {a : Option Addr} {ts : List Tm} (h : TmA φ w a ts) (hp : ∀ b, b < w.heap.size → φ b → ψ b) : TmA ψ w a ts := fun j hj => by
  obtain ⟨b, off, e1, e2, e3, e4⟩ := h j hj
  exact ⟨b, off, e1, hp b e3 e2, e3, e4⟩
theorem TmA.keep {φ : Nat → Prop} {w w' : World} {a : Option Addr} {ts : List Tm} (h : TmA φ w a ts) (hs : w.heap.size ≤ w'.heap.size) (hk : ∀ b, b < w.heap.size → φ b → w'.heap[b]? = w.heap[b]?) : TmA φ w' a ts := fun j hj => by
  obtain ⟨b, off, e1, e2, e3, e4, e5, e6⟩ := h j hj
  have hb := hk b e3 e2
  exact ⟨b, off, e1, e2, by omega, (World.cell?_of_block hb).trans e4, (World.cell?_of_block hb).trans e5, (World.cell?_of_block hb).trans e6⟩
theorem TmA.below {φ : Nat → Prop} {w w' : World} {a : Option Addr} {ts : List Tm} (h : TmA φ w a ts) (hb : Below w.heap.size w w') : TmA φ w' a ts := h.keep hb.size (fun b hb' _ => hb.block b hb')
theorem TmA.nil (φ : Nat → Prop) (w : World) (a : Option Addr) : TmA φ w a [] := fun j hj => by simp at hj
theorem TmA.some_ {φ : Nat → Prop} {w : World} {a : Option Addr} {ts : List Tm} (h : TmA φ w a ts) (h0 : 0 < ts.length) : ∃ b off, a = some ⟨b, off, none⟩ ∧ φ b ∧ b < w.heap.size ∧ ∀ j, j < ts.length → w.cell? ⟨b, off + j * 3, none⟩ = some (.int .i64 (gt ts j).1) ∧ w.cell? ⟨b, off + j * 3 + 1, none⟩ = some (.int .i64 (gt ts j).2.1) ∧ w.cell? ⟨b, off + j * 3 + 2, none⟩ = some (.int .i64 (gt ts j).2.2) := by
  obtain ⟨b, off, e, hp, hb, _⟩ := h 0 h0
  refine ⟨b, off, e, hp, hb, fun j hj => ?_⟩
  obtain ⟨b', off', e', _, _, h'⟩ := h j hj
  rw [e] at e'
  cases e'
  exact h'
theorem TmA.take {φ : Nat → Prop} {w : World} {a : Option Addr} {ts : List Tm} (h : TmA φ w a ts) (k : Nat) : TmA φ w a (ts.take k) := fun j hj => by
  rw [List.length_take] at hj
  rw [gt_take (by omega)]
  exact h j (by omega)
theorem TmA.cells {φ : Nat → Prop} {w : World} {b off : Nat} {ts : List Tm} (h : TmA φ w (some ⟨b, off, none⟩) ts) : ∀ j u, (tmV ts)[j]? = some u → w.cell? ⟨b, off + j, none⟩ = some u := by
  intro j u hj
  have hlt : j < (tmV ts).length := (List.getElem?_eq_some_iff.1 hj).1
  rw [tmV_length] at hlt
  obtain ⟨b', off', e', _, _, h1, h2, h3⟩ := h (j / 3) (by omega)
  cases e'
  obtain ⟨g1, g2, g3⟩ := tmV_get ts (j / 3) (by omega)
  rcases (show j % 3 = 0 ∨ j % 3 = 1 ∨ j % 3 = 2 by omega) with hm | hm | hm
  · rw [show j = j / 3 * 3 from by omega] at hj ⊢
    rw [g1] at hj
    cases hj
    exact h1
  · rw [show j = j / 3 * 3 + 1 from by omega] at hj ⊢
    rw [g2] at hj
    cases hj
    exact h2
  · rw [show j = j / 3 * 3 + 2 from by omega] at hj ⊢
    rw [g3] at hj
    cases hj
    exact h3
/-- A slice value that leads to these timers, in a block that φ allows. -/
def TmP (φ : Nat → Prop) (w : World) (v : Value) (ts : List Tm) : Prop := ∃ a c, v = .slice a ts.length c ∧ ts.length ≤ c ∧ c ≤ 9223372036854775807 ∧ TmA φ w a ts
def KtC (w : World) (v : Value) (ts : List Tm) : Prop := TmP (fun _ => True) w v ts
def FtC (n : Nat) (w : World) (v : Value) (ts : List Tm) : Prop := TmP (fun b => n ≤ b) w v ts
theorem TmP.known {φ : Nat → Prop} {w : World} {v : Value} {ts : List Tm} (h : TmP φ w v ts) : KtC w v ts := by
  obtain ⟨a, c, e, h1, h2, h3⟩ := h
  exact ⟨a, c, e, h1, h2, h3.mono fun _ _ _ => trivial⟩
theorem TmP.mono {φ ψ : Nat → Prop} {w : World} {v : Value} {ts : List Tm} (h : TmP φ w v ts) (hp : ∀ b, b < w.heap.size → φ b → ψ b) : TmP ψ w v ts := by
  obtain ⟨a, c, e, h1, h2, h3⟩ := h
  exact ⟨a, c, e, h1, h2, h3.mono hp⟩
theorem TmP.keep {φ : Nat → Prop} {w w' : World} {v : Value} {ts : List Tm} (h : TmP φ w v ts) (hs : w.heap.size ≤ w'.heap.size) (hk : ∀ b, b < w.heap.size → φ b → w'.heap[b]? = w.heap[b]?) : TmP φ w' v ts := by
  obtain ⟨a, c, e, h1, h2, h3⟩ := h
  exact ⟨a, c, e, h1, h2, h3.keep hs hk⟩
theorem TmP.below {φ : Nat → Prop} {w w' : World} {v : Value} {ts : List Tm} (h : TmP φ w v ts) (hb : Below w.heap.size w w') : TmP φ w' v ts := h.keep hb.size (fun b hb' _ => hb.block b hb')
theorem KtC.below {w w' : World} {v : Value} {ts : List Tm} (h : KtC w v ts) (hb : Below w.heap.size w w') : KtC w' v ts := TmP.below h hb
theorem FtC.below {n : Nat} {w w' : World} {v : Value} {ts : List Tm} (h : FtC n w v ts) (hb : Below w.heap.size w w') : FtC n w' v ts := TmP.below h hb
theorem FtC.known {n : Nat} {w : World} {v : Value} {ts : List Tm} (h : FtC n w v ts) : KtC w v ts := TmP.known h
theorem FtC.mono {n m : Nat} {w : World} {v : Value} {ts : List Tm} (h : FtC n w v ts) (hm : m ≤ n) : FtC m w v ts := TmP.mono h fun _ _ hb => Nat.le_trans hm hb
theorem FtC.nil (n : Nat) (w : World) (a : Option Addr) (c : Nat) (hc : c ≤ 9223372036854775807) : FtC n w (.slice a 0 c) [] := ⟨a, c, rfl, Nat.zero_le _, hc, TmA.nil _ _ _⟩
theorem KtC.all {w : World} {v : Value} {ts : List Tm} (h : KtC w v ts) : TmP (fun b => b < w.heap.size) w v ts := TmP.mono h fun _ hb _ => hb

/-- A row of timers of the call's own. -/
def OwnT (B : Nat) (ts : List Tm) (v : Value) (w : World) : Prop := w.ownsRow B TT 3 v ts.length (tmV ts)
theorem OwnT.nil (B : Nat) (w : World) : OwnT B [] (.slice none 0 0) w := World.ownsRow_nil _ _ _ _
theorem OwnT.fresh {B : Nat} {ts : List Tm} {v : Value} {w : World} (h : OwnT B ts v w) : FtC B w v ts := by
  have h : w.ownsRow B TT 3 v ts.length (tmV ts) := h
  obtain ⟨a, c, rfl, h1, h2⟩ := ownZ_slice h
  refine ⟨a, c, rfl, h1, h2, fun j hj => ?_⟩
  obtain ⟨g, cap, e, hB⟩ := ownZ_some h (by omega)
  injection e with e1 e2 e3
  subst e1
  obtain ⟨g1, g2, g3⟩ := tmV_get ts j hj
  have hl := tmV_length ts
  refine ⟨g, 0, rfl, hB, (World.ownsRow.lt h g rfl).2, ?_, ?_, ?_⟩
  · rw [Nat.zero_add, World.ownsRow.cellAt h (j * 3) (by omega), g1]
  · rw [Nat.zero_add, World.ownsRow.cellAt h (j * 3 + 1) (by omega), g2]
  · rw [Nat.zero_add, World.ownsRow.cellAt h (j * 3 + 2) (by omega), g3]

/-! ### Comparing timers and keys -/

def sameT (x y : Tm) : Bool := x.1 == y.1 && (x.2.1 == y.2.1 && x.2.2 == y.2.2)
theorem sameT_eq (x y : Tm) : sameT x y = decide (x = y) := by
  obtain ⟨a, b, c⟩ := x
  obtain ⟨d, e, f⟩ := y
  unfold sameT
  by_cases h1 : a = d <;> by_cases h2 : b = e <;> by_cases h3 : c = f <;> simp [h1, h2, h3]
theorem run_sameT (x y : Tm) (w : World) : (Op.equalIn 10000 TT (.agg (encT x).toArray) (.agg (encT y).toArray)).run Try.prog w = .ok (sameT x y) w := by
  have hS : Try.prog.underlying TT = some (.struct (Try.prog.fieldsOf TT)) := by kernel_rfl
  have hp : Try.prog.stoodInHeld TT = false := by kernel_rfl
  have u := Try.underlying3
  have a := Try.isAgg3
  have z := Try.sizeOf3
  simp only [encT]
  rw [show (10000 : Nat) = 9999 + 1 from rfl, run_equalIn_struct w 9999 TT _ _ hS hp]
  simp only [Program.fieldsOf, TT, Try.underlying24]
  go_simp
  unfold sameT
  by_cases h1 : x.1 = y.1 <;> by_cases h2 : x.2.1 = y.2.1 <;> by_cases h3 : x.2.2 = y.2.2 <;> simp [h1, h2, h3]
theorem run_neT (a b c d e f : Int) (w : World) : (binOp .neq TT (.agg #[.int .i64 a, .int .i64 b, .int .i64 c]) (.agg #[.int .i64 d, .int .i64 e, .int .i64 f])).run Try.prog w = .ok (.bool (!sameT (a, b, c) (d, e, f))) w := by
  have h := run_sameT (a, b, c) (d, e, f) w
  simp only [encT] at h
  rw [run_neq_struct, h]
  rfl
theorem run_eqT (a b c d e f : Int) (w : World) : (binOp .eql TT (.agg #[.int .i64 a, .int .i64 b, .int .i64 c]) (.agg #[.int .i64 d, .int .i64 e, .int .i64 f])).run Try.prog w = .ok (.bool (sameT (a, b, c) (d, e, f))) w := by
  have h := run_sameT (a, b, c) (d, e, f) w
  simp only [encT] at h
  rw [run_eql_struct, h]
  rfl
theorem run_eqK (b c e f : Int) (w : World) : (binOp .eql TK (.agg #[.int .i64 b, .int .i64 c]) (.agg #[.int .i64 e, .int .i64 f])).run Try.prog w = .ok (.bool (b == e && c == f)) w := by
  have hS : Try.prog.underlying TK = some (.struct (Try.prog.fieldsOf TK)) := by kernel_rfl
  have hp : Try.prog.stoodInHeld TK = false := by kernel_rfl
  have u := Try.underlying3
  have a := Try.isAgg3
  have z := Try.sizeOf3
  rw [run_eql_struct, show (10000 : Nat) = 9999 + 1 from rfl, run_equalIn_struct w 9999 TK _ _ hS hp]
  simp only [Program.fieldsOf, TK, Try.underlying53]
  go_simp
  by_cases h1 : b = e <;> by_cases h2 : c = f <;> simp [h1, h2]

end Go.Proofs.Ytcmcgcogahkamaa
