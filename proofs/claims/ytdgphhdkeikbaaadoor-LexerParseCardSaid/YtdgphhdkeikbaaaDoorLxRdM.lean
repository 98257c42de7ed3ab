/-
  The program's reader: what a call of it keeps of the memory.
-/
import Derived.Test.YtdgphhdkeikbaaaDoorLxRd3
namespace Go.Proofs.YtdgphhdkeikbaaaDoor
set_option linter.unusedSimpArgs false
set_option linter.unusedVariables false
open Go.RowKit

/-- All blocks but one are as they were. -/
structure But (b : Nat) (w w' : World) : Prop where
  os : w'.os = w.os
  tape : w'.tape = w.tape
  output : w'.output = w.output
  size : w.heap.size ≤ w'.heap.size
  block : ∀ k, k < w.heap.size → k ≠ b → w'.heap[k]? = w.heap[k]?
theorem But.refl (b : Nat) (w : World) : But b w w := ⟨rfl, rfl, rfl, Nat.le_refl _, fun _ _ _ => rfl⟩
theorem But.trans {b : Nat} {u v w : World} (h : But b u v) (k : But b v w) : But b u w :=
  ⟨k.os.trans h.os, k.tape.trans h.tape, k.output.trans h.output, Nat.le_trans h.size k.size, fun i hi hb => (k.block i (by have := h.size; omega) hb).trans (h.block i hi hb)⟩
theorem But.of {b : Nat} {w w' : World} (h : Below w.heap.size w w') : But b w w' := ⟨h.os, h.tape, h.output, h.size, fun k hk _ => h.block k hk⟩
theorem But.alloc {b : Nat} {w w' : World} (h : But b w w') (o : Obj) : But b w (w'.alloc o) := h.trans (.of ((Below.refl _ _).alloc (Nat.le_refl _) _))
theorem But.drew {b : Nat} {w w' : World} (h : But b w w') : But b w w'.drew := h.trans (.of (Below.refl _ _).drew)
theorem But.cell {b : Nat} {w w' : World} (h : But b w w') (o : Nat) (u : Value) : But b w (w'.setCell ⟨b, o, none⟩ u) :=
  h.trans ⟨rfl, rfl, rfl, by simp [World.setCell], fun k _ hk => Below.heap_setCell _ _ _ _ hk⟩
theorem But.row {b g : Nat} {w w' : World} (h : But b w w') (hg : w.heap.size ≤ g) (cs : Array Value) : But b w (w'.setRow g cs) :=
  ⟨h.os, h.tape, h.output, by simp only [World.setRow, Array.size_modify]; exact h.size, fun k hk hb => by
    rw [← h.block k hk hb]
    simp only [World.setRow, Array.getElem?_modify]
    rw [if_neg (by omega)]⟩
theorem But.heap {b k : Nat} {w w' : World} {o : Obj} (h : But b w w') (hk : k ≠ b) (ho : w.heap[k]? = some o) : w'.heap[k]? = some o := (h.block k (ltH ho) hk).trans ho
/-- The tokens, the table and the reader. -/
def TokOk (ts : List Tk) : Prop := ∀ j, j < ts.length → (gk ts j).t.size ≤ 9223372036854775807 ∧ -9223372036854775808 ≤ (gk ts j).v ∧ (gk ts j).v ≤ 9223372036854775807
structure RdI (w : World) (b m : Nat) (a : Option Addr) (c : Nat) (ts : List Tk) (i : Nat) : Prop where
  rd : RdA w b (.slice a ts.length c) i m
  tk : TkA (fun k => k ≠ b) w a ts
  mp : w.heap[m]? = some (mapS tabS)
  mb : m ≠ b
  tb : TabJ w
  gb : 4 ≠ b
  il : i ≤ ts.length
  ln : ts.length ≤ 4001
  lc : ts.length ≤ c
  ok : TokOk ts
theorem pow10G : Tryd.prog.globalNamed "internal/strconv.uint64pow10" = some 4 := by kernel_rfl
theorem TabJ.but {b : Nat} {w w' : World} (h : TabJ w) (hb : But b w w') (hg : 4 ≠ b) : TabJ w' := by
  unfold TabJ Lib.TabIs World.var? at h ⊢
  rw [pow10G] at h ⊢
  simp only [Option.bind_some] at h ⊢
  have hlt : 4 < w.heap.size := by
    rcases Nat.lt_or_ge 4 w.heap.size with h' | h'
    · exact h'
    · rw [Array.getElem?_eq_none h'] at h; cases h
  rw [hb.block _ hlt hg]
  exact h
theorem RdI.but {w w' : World} {b m : Nat} {a : Option Addr} {c : Nat} {ts : List Tk} {i j : Nat} (h : RdI w b m a c ts i) (hb : But b w w') (hr : RdA w' b (.slice a ts.length c) j m) (hj : j ≤ ts.length) : RdI w' b m a c ts j :=
  ⟨hr, h.tk.keep hb.size (fun k h1 h2 => ⟨h2, hb.block k h1 h2⟩), hb.heap h.mb h.mp, h.mb, h.tb.but hb h.gb, h.gb, hj, h.ln, h.lc, h.ok⟩
theorem RdI.below {w w' : World} {b m : Nat} {a : Option Addr} {c : Nat} {ts : List Tk} {i : Nat} (h : RdI w b m a c ts i) (hb : Below w.heap.size w w') : RdI w' b m a c ts i := h.but (.of hb) (h.rd.below hb) h.il
theorem RdI.lt {w : World} {b m : Nat} {a : Option Addr} {c : Nat} {ts : List Tk} {i : Nat} (h : RdI w b m a c ts i) : b < w.heap.size := ltH h.rd
/-- The next token is passed. -/
theorem RdI.step {w : World} {b m : Nat} {a : Option Addr} {c : Nat} {ts : List Tk} {i : Nat} (h : RdI w b m a c ts i) (hi : i < ts.length) (u : Value) (hu : u = .int .i64 ((i + 1 : Nat) : Int)) : RdI (w.setCell ⟨b, 1, none⟩ u) b m a c ts (i + 1) ∧ But b w (w.setCell ⟨b, 1, none⟩ u) := by
  subst hu
  have hb := (But.refl b w).cell 1 (.int .i64 ((i + 1 : Nat) : Int))
  have := heap_setCell_same w b 1 _ _ (.int .i64 ((i + 1 : Nat) : Int)) h.rd
  exact ⟨h.but hb (by unfold RdA; simpa using this) (by omega), hb⟩
/-- What was made by a call stays. -/
theorem kaBut {B b : Nat} {w w' : World} {es : List Ex} {v : Value} (h : KA (fun k => B ≤ k) w es v) (hb : But b w w') (hB : b < B) : KA (fun k => B ≤ k) w' es v :=
  h.keep hb.size (fun k h1 h2 => ⟨h2, hb.block k h1 (by omega)⟩)
theorem kaMono {B B' : Nat} {w : World} {es : List Ex} {v : Value} (h : KA (fun k => B ≤ k) w es v) (hB : B' ≤ B) : KA (fun k => B' ≤ k) w es v := h.mono (fun _ _ h => Nat.le_trans hB h)
theorem kaRow {B g : Nat} {w : World} {es : List Ex} {v : Value} (h : KA (fun k => B ≤ k) w es v) (hg : g < B) (cs : Array Value) : KA (fun k => B ≤ k) (w.setRow g cs) es v :=
  h.keep (by simp only [World.setRow, Array.size_modify]; exact Nat.le_refl _) (fun k h1 h2 => ⟨h2, by simp only [World.setRow, Array.getElem?_modify]; rw [if_neg (by omega)]⟩)
theorem atRow {w : World} {g : Nat} {e : Ex} {sl : Value} {rest : List Value} {t : TypeId} (h : w.heap[g]? = some (.cells (encX e sl ++ rest).toArray t (0, 0))) : AtX w g 0 e sl := by
  refine ⟨?_, ?_, ?_, ?_, ?_⟩ <;> (rw [Lib.cell_of_heap h]; simp [encX])
/-- The arguments of an operator with one, and with two. -/
theorem ka_one {B g : Nat} {w : World} {x : Ex} {sl : Value} (hg : B ≤ g) (hx : KA (fun k => B ≤ k) w x.es sl) (h : w.heap[g]? = some (.cells #[.int .i64 x.k, .int .i64 x.o, .string x.s, .int .i64 x.v, sl] TX (0, 0))) : KA (fun k => B ≤ k) w [x] (.slice (some ⟨g, 0, none⟩) 1 1) :=
  .mk [x] (some ⟨g, 0, none⟩) 1 (fun _ => sl) (Nat.le_refl _) (by decide) (fun j hj => by
    obtain rfl : j = 0 := by simpa using hj
    exact ⟨g, 0, rfl, hg, ltH h, atRow (rest := []) (by simpa [encX, ga] using h)⟩) (fun j hj => by
    obtain rfl : j = 0 := by simpa using hj
    exact hx)
theorem ka_two {B g : Nat} {w : World} {x y : Ex} {sl sm : Value} (hg : B ≤ g) (hx : KA (fun k => B ≤ k) w x.es sl) (hy : KA (fun k => B ≤ k) w y.es sm)
    (h : w.heap[g]? = some (.cells #[.int .i64 x.k, .int .i64 x.o, .string x.s, .int .i64 x.v, sl, .int .i64 y.k, .int .i64 y.o, .string y.s, .int .i64 y.v, sm] TX (0, 0))) : KA (fun k => B ≤ k) w [x, y] (.slice (some ⟨g, 0, none⟩) 2 2) :=
  .mk [x, y] (some ⟨g, 0, none⟩) 2 (fun j => if j = 0 then sl else sm) (Nat.le_refl _) (by decide) (fun j hj => by
    have : j = 0 ∨ j = 1 := by simp at hj; omega
    rcases this with rfl | rfl
    · exact ⟨g, 0, rfl, hg, ltH h, atRow (rest := encX y sm) (by simpa [encX, ga] using h)⟩
    · refine ⟨g, 0, rfl, hg, ltH h, ?_⟩
      refine ⟨?_, ?_, ?_, ?_, ?_⟩ <;> (rw [Lib.cell_of_heap h]; simp [ga])) (fun j hj => by
    have : j = 0 ∨ j = 1 := by simp at hj; omega
    rcases this with rfl | rfl
    · exact hx
    · exact hy)
/-- What a call of the reader ends in. -/
def RdPost (w : World) (b m : Nat) (a : Option Addr) (c : Nat) (ts : List Tk) (i : Nat) (r : Rs) (x : Ending) (w' : World) : Prop :=
  But b w w' ∧ (match r with
    | .ok e n => ∃ sa sn sc, x = .returned (exV e (.slice sa sn sc)) ∧ KA (fun k => w.heap.size ≤ k) w' e.es (.slice sa sn sc) ∧ RdI w' b m a c ts (i + n)
    | .bad n => x = .panicked [{ v := .iface TUx (.int .i64 ((i + n : Nat) : Int)), recovered := false }]
    | .out => False)
/-- Before it another part was done. -/
theorem RdPost.up {w w1 w' : World} {b m : Nat} {a : Option Addr} {c : Nat} {ts : List Tk} {i d : Nat} {r : Rs} {x : Ending} (h : RdPost w1 b m a c ts (i + d) r x w') (hb : But b w w1) : RdPost w b m a c ts i (r.up d) x w' := by
  obtain ⟨h1, h2⟩ := h
  refine ⟨hb.trans h1, ?_⟩
  cases r with
  | ok e n =>
    obtain ⟨sa, sn, sc, hx, hk, hr⟩ := h2
    exact ⟨sa, sn, sc, hx, kaMono hk hb.size, by rw [show i + (n + d) = i + d + n by omega]; exact hr⟩
  | bad n =>
    show x = _
    rw [show i + (n + d) = i + d + n by omega]
    exact h2
  | out => exact h2
theorem ret_x1 {fn : Func} {p : Tmp} (hf : fn.results = #[.cell p TX]) (W : World) (g : Nat) (e : Ex) (sl : Value) (tmps : Array Value) (hg : W.heap[g]? = some (.cells #[.int .i64 e.k, .int .i64 e.o, .string e.s, .int .i64 e.v, sl] TX (0, 0)))
    (hp : tmps.getD p undef = .pointer (some ⟨g, 0, none⟩)) : (results fn tmps).run Tryd.prog W = .ok (exV e sl) W :=
  results_cell_row hf tmps W g TX _ (0, 0) _ hp hg Tryd.underlying26 rfl (by kernel_rfl)
end Go.Proofs.YtdgphhdkeikbaaaDoor
