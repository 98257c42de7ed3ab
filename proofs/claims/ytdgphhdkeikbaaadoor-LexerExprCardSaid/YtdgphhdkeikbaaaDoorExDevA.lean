/-
  What an iterator and the body of its loop keep of the memory. A loop over the parts of an expression: what a part is, and the law of the loop. The iterator over the parts of an expression: its closure that calls itself. The iterator over the parts of an expression. Variables that the body of a loop over parts keeps in boxes. What the program's checkPart returns. What the program's Check returns.
-/
import Derived.RangeFuncNested
import Derived.RangeFuncBound
import Derived.RangeFuncCalls
import Derived.RangeFuncLeaves
import Derived.Shelf.Abstract
import Derived.Shelf.RegionOpen
import Derived.WalkKit
import Derived.OwnWalkIn
import Derived.TacticsInMore
import Derived.LoopNIn
import Derived.LoopIn
import Derived.Laws.EntriesVeiled
import Derived.Test.YtdgphhdkeikbaaaDoorHeldIn
import Derived.Test.YtdgphhdkeikbaaaDoorExRefA
/-! ### ExFrame: What an iterator and the body of its loop keep of the memory. -/
namespace Go.Proofs.YtdgphhdkeikbaaaDoor
set_option linter.unusedSimpArgs false
set_option linter.unusedVariables false
open Go.RowKit

theorem grownOf {w w' : World} (h : Below w.heap.size w w') : w.grownBy w' none := ⟨h.os, h.tape, h.output, h.size, fun k hk _ => h.block k hk⟩
theorem box_cell {W : World} {B : Nat} {v : Value} {t : TypeId} (h : W.heap[B]? = some (.cells #[v] t (0, 0))) : W.cell? ⟨B, 0, none⟩ = some v := by rw [Lib.cell_of_heap h]; rfl
theorem box2_cell {W : World} {B : Nat} {u v : Value} {t : TypeId} (h : W.heap[B]? = some (.cells #[u, v] t (0, 0))) : W.cell? ⟨B, 0, none⟩ = some u ∧ W.cell? ⟨B, 1, none⟩ = some v := by rw [Lib.cell_of_heap h, Lib.cell_of_heap h]; exact ⟨rfl, rfl⟩

theorem grown_weak {a b : World} (h : a.grownBy b none) (r : Option Nat) : a.grownBy b r := ⟨h.os, h.tape, h.output, h.size, fun k hk _ => h.block k hk (by simp)⟩
theorem grown_trans {a b c : World} {r : Option Nat} (h : a.grownBy b r) (k : b.grownBy c r) : a.grownBy c r :=
  ⟨k.os.trans h.os, k.tape.trans h.tape, k.output.trans h.output, Nat.le_trans h.size k.size, fun i hi hne => (k.block i (Nat.lt_of_lt_of_le hi h.size) hne).trans (h.block i hi hne)⟩
/-- Steps of the search's own: what lies below B0, and the collector's blocks Φ, lie as they lay. -/
structure Ab (B0 : Nat) (Φ : Nat → Prop) (A B : World) : Prop where
  os : B.os = A.os
  tape : B.tape = A.tape
  output : B.output = A.output
  size : A.heap.size ≤ B.heap.size
  keep : ∀ b o, A.heap[b]? = some o → (b < B0 ∨ Φ b) → B.heap[b]? = some o
/-- What the search does with calls of the collector among it: of the blocks below M all but the collector's and one row lie as they lay. -/
structure Fr (B0 M : Nat) (Φ Φ' : Nat → Prop) (go : Option Nat) (A B : World) : Prop where
  os : B.os = A.os
  tape : B.tape = A.tape
  output : B.output = A.output
  size : A.heap.size ≤ B.heap.size
  keep : ∀ b o, b < M → A.heap[b]? = some o → ¬ Φ b → go ≠ some b → (B0 ≤ b ∨ o.isCells = true) → B.heap[b]? = some o
  foot : ∀ b, Φ' b → Φ b ∨ M ≤ b
theorem lt_of_heap {W : World} {b : Nat} {o : Obj} (h : W.heap[b]? = some o) : b < W.heap.size := (Array.getElem?_eq_some_iff.1 h).1
theorem Ab.refl (B0 : Nat) (Φ : Nat → Prop) (A : World) : Ab B0 Φ A A := ⟨rfl, rfl, rfl, Nat.le_refl _, fun _ _ h _ => h⟩
theorem Ab.trans {B0 : Nat} {Φ : Nat → Prop} {A B C : World} (h : Ab B0 Φ A B) (k : Ab B0 Φ B C) : Ab B0 Φ A C :=
  ⟨k.os.trans h.os, k.tape.trans h.tape, k.output.trans h.output, Nat.le_trans h.size k.size, fun b o hb hc => k.keep b o (h.keep b o hb hc) hc⟩
theorem Ab.grown {B0 : Nat} {Φ : Nat → Prop} {A B : World} {row : Option Nat} (h : A.grownBy B row) (hr : ∀ r, row = some r → B0 ≤ r ∧ ¬ Φ r) : Ab B0 Φ A B :=
  ⟨h.os, h.tape, h.output, h.size, fun b o hb hc => (h.block b (lt_of_heap hb) (fun e => by
    obtain ⟨h1, h2⟩ := hr b e.symm
    rcases hc with hc | hc
    · omega
    · exact h2 hc)).trans hb⟩
theorem Ab.below {B0 : Nat} {Φ : Nat → Prop} {A B : World} (h : Below A.heap.size A B) : Ab B0 Φ A B := Ab.grown (grownOf h) (fun r e => by cases e)
theorem Fr.refl (B0 M : Nat) (Φ : Nat → Prop) (go : Option Nat) (A : World) : Fr B0 M Φ Φ go A A := ⟨rfl, rfl, rfl, Nat.le_refl _, fun _ _ _ h _ _ _ => h, fun _ h => .inl h⟩
theorem Fr.trans {B0 M : Nat} {Φ Φ' Φ'' : Nat → Prop} {go : Option Nat} {A B C : World} (h : Fr B0 M Φ Φ' go A B) (k : Fr B0 M Φ' Φ'' go B C) : Fr B0 M Φ Φ'' go A C :=
  ⟨k.os.trans h.os, k.tape.trans h.tape, k.output.trans h.output, Nat.le_trans h.size k.size, fun b o hM hb hn hg hc => k.keep b o hM (h.keep b o hM hb hn hg hc) (fun hp => by
    rcases h.foot b hp with h1 | h1
    · exact hn h1
    · omega) hg hc, fun b hb => (k.foot b hb).elim (h.foot b) .inr⟩
theorem Fr.weaken {B0 M M' : Nat} {Φ Φ' : Nat → Prop} {go go' : Option Nat} {A B : World} (h : Fr B0 M' Φ Φ' go' A B) (hM : M ≤ M') (hg : ∀ b, go' = some b → go = some b ∨ M ≤ b) : Fr B0 M Φ Φ' go A B :=
  ⟨h.os, h.tape, h.output, h.size, fun b o hb hh hn hgo hc => h.keep b o (by omega) hh hn (fun e => by
    rcases hg b e with h1 | h1
    · exact hgo h1
    · omega) hc, fun b hb => (h.foot b hb).imp id (fun h1 => by omega)⟩
/-- Own steps that turn no block below M but the row. -/
theorem Fr.own {B0 M : Nat} {Φ : Nat → Prop} {go row : Option Nat} {A B : World} (h : A.grownBy B row) (hr : ∀ r, row = some r → go = some r ∨ M ≤ r) : Fr B0 M Φ Φ go A B :=
  ⟨h.os, h.tape, h.output, h.size, fun b o hM hb _ hg _ => (h.block b (lt_of_heap hb) (fun e => by
    rcases hr b e.symm with h1 | h1
    · exact hg h1
    · omega)).trans hb, fun _ h => .inl h⟩
theorem Fr.below {B0 M : Nat} {Φ : Nat → Prop} {go : Option Nat} {A B : World} (h : Below A.heap.size A B) : Fr B0 M Φ Φ go A B := Fr.own (grownOf h) (fun r e => by cases e)
theorem Fr.not {B0 M : Nat} {Φ Φ' : Nat → Prop} {go : Option Nat} {A B : World} (h : Fr B0 M Φ Φ' go A B) {b : Nat} (hb : b < M) (hn : ¬ Φ b) : ¬ Φ' b := fun hp => (h.foot b hp).elim hn (fun h1 => by omega)


abbrev yieldV (l : Nat) : Value := .func (.yield l) #[] #[]
abbrev ptrV (b : Nat) : Value := .pointer (some ⟨b, 0, none⟩)

end Go.Proofs.YtdgphhdkeikbaaaDoor

/-! ### ExRange: A loop over the parts of an expression: what a part is, and the law of the loop. -/
namespace Go.Proofs.YtdgphhdkeikbaaaDoor
set_option linter.unusedSimpArgs false
set_option linter.unusedVariables false
open Go.RowKit Go.Shelf
attribute [local go_sem] Oper.semAt_some

/-- A part, as the iterator yields it, with its depth. -/
structure Pt where
  k : Int
  o : Int
  s : ByteArray
  v : Int
  n : Nat
  a : Option Addr
  c : Nat
  d : Nat
  fit : s.size ≤ 9223372036854775807
def ptV (p : Pt) : Value := .agg #[.int .i64 p.k, .int .i64 p.o, .string p.s, .int .i64 p.v, .slice p.a p.n p.c]
abbrev Key : Type := Int × Int × ByteArray × Int × Nat × Nat
def Pt.key (p : Pt) : Key := (p.k, p.o, p.s, p.v, p.n, p.d)
mutual
def ppK (d : Nat) : Ex → List Key
  | .mk k o s v es => (k, o, s, v, es.length, d) :: ppKL (d + 1) es
def ppKL (d : Nat) : List Ex → List Key
  | [] => []
  | a :: r => ppK d a ++ ppKL d r
end
mutual
theorem ppK_length (d : Nat) : ∀ e : Ex, (ppK d e).length = szE e
  | .mk _ _ _ _ es => by simp only [ppK, szE, List.length_cons, ppKL_length (d + 1) es]; omega
theorem ppKL_length (d : Nat) : ∀ es : List Ex, (ppKL d es).length = szL es
  | [] => rfl
  | a :: r => by simp only [ppKL, szL, List.length_append, ppK_length d a, ppKL_length d r]
end
theorem ppKL_app (d : Nat) (a b : List Ex) : ppKL d (a ++ b) = ppKL d a ++ ppKL d b := by
  induction a with
  | nil => rfl
  | cons x a ih => simp [ppKL, ih]
/-- What the loop's body promises the iterator. -/
structure CollP (B0 l : Nat) (J : (Nat → Prop) → List Pt → World → Prop) : Prop where
  own : ∀ Φ pre A B, J Φ pre A → Ab B0 Φ A B → J Φ pre B
  cells : ∀ Φ pre A, J Φ pre A → ∀ b, Φ b → ∃ c t z, A.heap[b]? = some (.cells c t z)
  yields : ∀ Φ pre x M W, J Φ pre W → M ≤ W.heap.size → pre.length < 101 → YieldAt Fence.wide 8 Tryd.prog l #[ptV x, .int .i64 (x.d : Int)] W fun e W' => ∃ Φ', Fr B0 M Φ Φ' none W W' ∧ e = .returned (.bool true) ∧ J Φ' (pre ++ [x]) W'

/-- The loop's record. -/
def recL (fn : FuncId) (tmps : Array Value) (ps : Array Tmp) (assign body : Code) (K : Nat) (st : LoopState) (pe : Option Code) : Loop := { state := st, pending := pe, fn, tmps, params := ps, assign, body, defers := K }
theorem Fr.turn {B0 M : Nat} {Φ : Nat → Prop} {go : Option Nat} {A B : World} {r : Nat} {o : Obj} (h : A.grownBy B (some r)) (ho : A.heap[r]? = some o) (hc : o.isCells = false) (hr : r < B0) : Fr B0 M Φ Φ go A B :=
  ⟨h.os, h.tape, h.output, h.size, fun b o' _ hb _ _ hc' => (h.block b (lt_of_heap hb) (fun e => by
    cases e
    rw [ho] at hb
    cases hb
    rcases hc' with h1 | h1
    · omega
    · rw [h1] at hc; cases hc)).trans hb, fun _ h => .inl h⟩
/-- How a round of the loop may be left. -/
def ptPost (B0 M : Nat) (JJ : (Nat → Prop) → List Pt → World → Prop) (Φ : Nat → Prop) (xs : List Pt) (W : World) : Exit → Act → World → Prop
  | .normal, _, W' => KeepsOthers W W' ∧ ∃ Φ', Fr B0 M Φ Φ' none W W' ∧ JJ Φ' xs W'
  | _, _, _ => False

set_option maxHeartbeats 2000000 in
theorem wpIn_range_pt {n : Nat} {g : Operand} {p1 p2 : Tmp} {assign body : Code} {Q : Exit → Act → World → Prop} {a : Act} {w : World} {gf : Nat} {lb : Array Value} {X : List Pt → Prop} (hg : a.eval g = .func (.func gf) #[] lb) (eg : ∀ args w, (callFunc gf args).run Tryd.prog w = .ok (.enter gf args) w)
    (Φ₀ : Nat → Prop) (JJ : (Nat → Prop) → List Pt → World → Prop)
    (own : ∀ Φ pre A B, JJ Φ pre A → Ab (w.heap.size + 2) Φ A B → JJ Φ pre B)
    (turn : ∀ Φ pre A B r o, JJ Φ pre A → A.grownBy B (some r) → A.heap[r]? = some o → o.isCells = false → w.heap.size ≤ r → JJ Φ pre B)
    (cells : ∀ Φ pre A, JJ Φ pre A → ∀ b, Φ b → ∃ c t z, A.heap[b]? = some (.cells c t z))
    (h0 : JJ Φ₀ [] w)
    (hit : ∀ (J : (Nat → Prop) → List Pt → World → Prop) (W1 : World), CollP (w.heap.size + 2) (w.heap.size + 1) J → w.grownBy W1 none → W1.heap.size = w.heap.size + 2 → J Φ₀ [] W1 →
      Calls Tryd.prog gf (#[yieldV (w.heap.size + 1)] ++ lb) W1 fun e W' => (∃ v, e = .returned v) ∧ ∃ Φ' xs, X xs ∧ J Φ' xs W')
    (a₁ : Pt → Nat → Act) (asW : Pt → World → World) (BP : Pt → Nat → World → Prop) (hbel : ∀ v W, Below W.heap.size W (asW v W)) (hbp : ∀ v W, BP v W.heap.size (asW v W))
    (hbpt : ∀ v n A B r o, BP v n A → A.grownBy B (some r) → A.heap[r]? = some o → o.isCells = false → BP v n B)
    (hassign : ∀ (l : Nat) (v : Pt) (W : World) (K : Act → World → Prop), K (a₁ v W.heap.size) (asW v W) → assign.wpIn (Fence.wide.inRound l) 8 Tryd.prog (Exit.then K (fun _ _ _ => False)) { tmps := (a.tmps.setIfInBounds p1 (ptV v)).setIfInBounds p2 (.int .i64 (v.d : Int)), defers := [] } W)
    (hbody : ∀ (l : Nat) (Φ : Nat → Prop) (pre : List Pt) (x : Pt) (M n : Nat) (W : World), JJ Φ pre W → BP x n W → M ≤ W.heap.size → w.heap.size + 2 ≤ W.heap.size → pre.length < 101 → body.wpIn (Fence.wide.inRound l) 8 Tryd.prog (ptPost (w.heap.size + 2) M JJ Φ (pre ++ [x]) W) (a₁ x n) W)
    (hdone : ∀ (D : Nat) (Φ : Nat → Prop) (xs : List Pt) (W : World), w.heap.size ≤ D → X xs → JJ Φ xs W → W.heap[D]? = some (.deferred (some [])) → Q .normal { a with defers := { target := .collected D, args := #[] } :: a.defers } W) :
    (Code.rangeFunc g #[p1, p2] assign body).wpIn Fence.wide n Tryd.prog Q a w := by
  refine wpIn_rangeFunc ?_
  intro fn hfn
  obtain ⟨W0, hW0⟩ : ∃ x, w.alloc (.deferred (some [])) = x := ⟨_, rfl⟩
  have aK := World.alloc_heap_new w (.deferred (some []))
  have sK : W0.heap.size = w.heap.size + 1 := by rw [← hW0]; simp
  have gK : w.grownBy W0 none := by rw [← hW0]; exact World.grownBy_alloc w _ none
  rw [hW0] at aK
  obtain ⟨W1, hW1⟩ : ∃ x, W0.alloc (.loop (recL fn a.tmps #[p1, p2] assign body w.heap.size .ready none)) = x := ⟨_, rfl⟩
  have aL := World.alloc_heap_new W0 (.loop (recL fn a.tmps #[p1, p2] assign body w.heap.size .ready none))
  have sL : W1.heap.size = w.heap.size + 2 := by rw [← hW1]; simp [sK]
  have gL : W0.grownBy W1 none := by rw [← hW1]; exact World.grownBy_alloc W0 _ none
  rw [hW1, sK] at aL
  have aK1 : W1.heap[w.heap.size]? = some (.deferred (some [])) := (gL.block _ (by omega) (by simp)).trans aK
  have g1 : w.grownBy W1 none := grown_trans gK gL
  refine ⟨w.heap.size + 1, [{ target := .collected w.heap.size, args := #[] }], W1, { target := .fn (.func gf) lb, args := #[yieldV (w.heap.size + 1)] }, W1, gf, #[yieldV (w.heap.size + 1)] ++ lb, W1, ?_, ?_, fun _ _ => trivial, ?_, fun h => (by cases h), ?_⟩
  · rw [← hW1, ← hW0]
    exact run_enterLoop_outer _ _ _ _ _
  · simp only [resolve, hg]
    simp [go_sem]
  · simp [invoke, go_sem, eg]
  · have hC : CollP (w.heap.size + 2) (w.heap.size + 1)
        (fun Φ pre W => JJ Φ pre W ∧ W.heap[w.heap.size + 1]? = some (.loop (recL fn a.tmps #[p1, p2] assign body w.heap.size .ready none)) ∧ W.heap[w.heap.size]? = some (.deferred (some []))) := {
      own := fun Φ pre A B h k => ⟨own Φ pre A B h.1 k, k.keep _ _ h.2.1 (.inl (by omega)), k.keep _ _ h.2.2 (.inl (by omega))⟩
      cells := fun Φ pre A h => cells Φ pre A h.1
      yields := by
        rintro Φ pre x M W0' ⟨hj0, hl0, hk0⟩ hM0 hlen
        have hy := run_yield (P := Tryd.prog) (args := #[ptV x, .int .i64 (x.d : Int)]) hl0 rfl
        refine ⟨fn, (a.tmps.setIfInBounds p1 (ptV x)).setIfInBounds p2 (.int .i64 (x.d : Int)), assign, body, ?_, roundIn_of_wpIn trivial (hassign _ x W0' _ ?_)⟩
        · rw [hy]
          simp [recL]
        have hbl := hbel x W0'
        have hbx := hbp x W0'
        obtain ⟨W, hWA⟩ : ∃ X, asW x W0' = X := ⟨_, rfl⟩
        obtain ⟨n, hn⟩ : ∃ n, W0'.heap.size = n := ⟨_, rfl⟩
        rw [hWA] at hbl hbx ⊢
        have hl := (hbl.block _ (lt_of_heap hl0)).trans hl0
        have hk := (hbl.block _ (lt_of_heap hk0)).trans hk0
        have hj := own _ _ _ _ hj0 (Ab.below hbl)
        have hM : M ≤ W.heap.size := Nat.le_trans hM0 hbl.size
        have hFA : Fr (w.heap.size + 2) M Φ Φ none W0' W := Fr.below hbl
        rw [hn] at hbx ⊢
        refine ⟨_, run_beginRound hl rfl, ?_⟩
        have hlt := lt_of_heap hl
        have gB := grownBy_putObj' W (w.heap.size + 1) (.loop { recL fn a.tmps #[p1, p2] assign body w.heap.size .ready none with state := .busy })
        have hl2 : (W.putObj (w.heap.size + 1) (.loop { recL fn a.tmps #[p1, p2] assign body w.heap.size .ready none with state := .busy })).heap[w.heap.size + 1]? = some (.loop { recL fn a.tmps #[p1, p2] assign body w.heap.size .ready none with state := .busy }) := World.putObj_heap_same hlt
        obtain ⟨W2, hW2⟩ : ∃ x, W.putObj (w.heap.size + 1) (.loop { recL fn a.tmps #[p1, p2] assign body w.heap.size .ready none with state := .busy }) = x := ⟨_, rfl⟩
        rw [hW2] at gB hl2 ⊢
        have hk2 : W2.heap[w.heap.size]? = some (.deferred (some [])) := (gB.block _ (by omega) (by simp)).trans hk
        refine wpIn_mono (hbody _ Φ pre x M n W2 (turn _ _ _ _ _ _ hj gB hl rfl (by omega)) (hbpt _ _ _ _ _ _ hbx gB hl rfl) (by have := gB.size; omega) (by have := gB.size; omega) hlen) ?_
        have fin : ∀ (W3 : World), KeepsOthers W2 W3 →
            (Instr.endRound (w.heap.size + 1) none).run Tryd.prog W3 = .ok (.bool true) (W3.putObj (w.heap.size + 1) (.loop (recL fn a.tmps #[p1, p2] assign body w.heap.size .ready none))) ∧
            W3.heap[w.heap.size + 1]? = some (.loop { recL fn a.tmps #[p1, p2] assign body w.heap.size .ready none with state := .busy }) ∧
            (W3.putObj (w.heap.size + 1) (.loop (recL fn a.tmps #[p1, p2] assign body w.heap.size .ready none))).heap[w.heap.size + 1]? = some (.loop (recL fn a.tmps #[p1, p2] assign body w.heap.size .ready none)) ∧
            (W3.putObj (w.heap.size + 1) (.loop (recL fn a.tmps #[p1, p2] assign body w.heap.size .ready none))).heap[w.heap.size]? = some (.deferred (some [])) := fun W3 hk3 => by
          have hl3 := hk3.same _ _ hl2 rfl
          exact ⟨run_endRound (P := Tryd.prog) none hl3, hl3, World.putObj_heap_same (lt_of_heap hl3), (World.putObj_heap_other (by omega)).trans (hk3.same _ _ hk2 rfl)⟩
        rintro e a3 W3 hp
        cases e with
        | normal =>
          obtain ⟨hko, Φ', hfr, hjj⟩ := hp
          obtain ⟨hr, hl3, hl4, hk4⟩ := fin W3 hko
          have g3 := grownBy_putObj' W3 (w.heap.size + 1) (.loop (recL fn a.tmps #[p1, p2] assign body w.heap.size .ready none))
          exact ⟨_, _, hr, Φ', (hFA.trans ((Fr.turn gB hl rfl (by omega)).trans hfr)).trans (Fr.turn g3 hl3 rfl (by omega)), rfl, turn _ _ _ _ _ _ hjj g3 hl3 rfl (by omega), hl4, hk4⟩
        | exit id => exact hp.elim
        | ret => exact hp.elim
        | goto t => exact hp.elim
        | panic ch => exact hp.elim
        | outgrown => exact hp.elim }
    refine (callsIn_wide.2 (hit _ W1 hC g1 sL ⟨own _ _ _ _ h0 (Ab.grown g1 (fun r e => by cases e)), aL, aK1⟩)).mono ?_
    rintro e W2 ⟨⟨v, rfl⟩, Φ', xs, hX, hj, hl, hk⟩
    have g3 := grownBy_putObj' W2 (w.heap.size + 1) (.loop { recL fn a.tmps #[p1, p2] assign body w.heap.size .ready none with state := .exhausted })
    exact ⟨none, _, run_endLoop (P := Tryd.prog) hl (by simp [recL]), hdone _ Φ' xs _ (Nat.le_refl _) hX (turn _ _ _ _ _ _ hj g3 hl rfl (by omega)) ((World.putObj_heap_other (by omega)).trans hk)⟩

end Go.Proofs.YtdgphhdkeikbaaaDoor

/-! ### ExVisit: The iterator over the parts of an expression: its closure that calls itself. -/
namespace Go.Proofs.YtdgphhdkeikbaaaDoor
set_option linter.unusedSimpArgs false
set_option linter.unusedVariables false
open Go.RowKit Go.Shelf
attribute [local go_sem] Oper.semAt_some

theorem room_of_none {F : Fence} (hd : F.depth = none) (k : Nat) : F.room k := fun d h => by rw [hd] at h; cases h
theorem RoundIn.anyDepth {F : Fence} (hd : F.depth = none) {m m' : Nat} {P : Program} {l : Nat} {f : FuncId} {tmps : Array Value} {assign body : Code} {w : World} {R : Ending → World → Prop}
    (h : RoundIn F m P l f tmps assign body w R) : RoundIn F m' P l f tmps assign body w R := ⟨h.1, fun c cs _ => h.2 c cs (room_of_none hd _)⟩

abbrev TXs : TypeId := 24
abbrev TYF : TypeId := 99
/-- The iterator's own variables: what is left, the function that yields, the function that calls itself. -/
structure VisE (B0 n₀ l Bl By Bv r : Nat) (Φ : Nat → Prop) (W : World) : Prop where
  le : W.heap[Bl]? = some (.cells #[.int .i64 (r : Int)] 3 (0, 0))
  y : W.heap[By]? = some (.cells #[yieldV l] TYF (0, 0))
  v : W.heap[Bv]? = some (.cells #[.func (.func 70) #[] #[ptrV Bl, ptrV By, ptrV Bv]] TYF (0, 0))
  nl : ¬ Φ Bl
  ny : ¬ Φ By
  nv : ¬ Φ Bv
  bl : B0 ≤ Bl
  bY : B0 ≤ By
  bv : B0 ≤ Bv
  ly : Bl ≠ By
  lv : Bl ≠ Bv
  low : ∀ b, Φ b → n₀ ≤ b
  n0 : n₀ ≤ B0
/-- What the collector does between two visits. -/
theorem VisE.fr {B0 n₀ l Bl By Bv r M : Nat} {Φ Φ' : Nat → Prop} {W W' : World} (h : VisE B0 n₀ l Bl By Bv r Φ W) (hf : Fr B0 M Φ Φ' none W W') (hM : M = W.heap.size) : VisE B0 n₀ l Bl By Bv r Φ' W' := by
  have hl := lt_of_heap h.le
  have hy := lt_of_heap h.y
  have hv := lt_of_heap h.v
  subst hM
  exact { le := hf.keep _ _ hl h.le h.nl (by simp) (.inr rfl)
          y := hf.keep _ _ hy h.y h.ny (by simp) (.inr rfl)
          v := hf.keep _ _ hv h.v h.nv (by simp) (.inr rfl)
          nl := hf.not hl h.nl
          ny := hf.not hy h.ny
          nv := hf.not hv h.nv
          bl := h.bl, bY := h.bY, bv := h.bv, ly := h.ly, lv := h.lv
          low := fun b hb => by
            rcases hf.foot b hb with h1 | h1
            · exact h.low b h1
            · have := h.n0; have := h.bl; omega
          n0 := h.n0 }
theorem cells_of_cell {W : World} {b o : Nat} {v : Value} (h : W.cell? ⟨b, o, none⟩ = some v) : ∃ ob, W.heap[b]? = some ob ∧ ob.isCells = true := by
  unfold World.cell? at h
  cases ho : W.heap[b]? with
  | none => simp [ho] at h
  | some ob => exact ⟨ob, rfl, by cases ob <;> simp_all [Obj.isCells]⟩
/-- The tree below n₀ stays. -/
theorem KA.fr {B0 n₀ M : Nat} {Φ Φ' : Nat → Prop} {go : Option Nat} {W W' : World} {es : List Ex} {v : Value} (h : KA (fun b => b < n₀) W es v) (hf : Fr B0 M Φ Φ' go W W') (hM : n₀ ≤ M) (hlow : ∀ b, Φ b → n₀ ≤ b) (hg : ∀ b, go = some b → n₀ ≤ b) : KA (fun b => b < n₀) W' es v :=
  h.keepC hf.size (fun b hb hp hcc => ⟨hp, by
    obtain ⟨o, u, hc⟩ := hcc
    obtain ⟨ob, ho, hi⟩ := cells_of_cell hc
    rw [ho]
    exact hf.keep b ob (by omega) ho (fun hq => by have := hlow b hq; omega) (fun e => by have := hg b e; omega) (.inr hi)⟩)
theorem AtX.fr {B0 b M : Nat} {Φ Φ' : Nat → Prop} {go : Option Nat} {W W' : World} {e : Ex} {sl : Value} (h : AtX W b 0 e sl) (hf : Fr B0 M Φ Φ' go W W') (hM : b < M) (hn : ¬ Φ b) (hg : go ≠ some b) : AtX W' b 0 e sl := by
  obtain ⟨ob, ho, hi⟩ := cells_of_cell h.1
  exact h.keep ((hf.keep b ob hM ho hn hg (.inr hi)).trans ho.symm)
/-- The key of an expression as the iterator yields it. -/
def mkPt (e : Ex) (a : Option Addr) (c d : Nat) (h : e.s.size ≤ 9223372036854775807) : Pt := ⟨e.k, e.o, e.s, e.v, e.es.length, a, c, d, h⟩
theorem fitE_s {e : Ex} (h : fitE e) : e.s.size ≤ 9223372036854775807 := by
  cases e
  exact h.1
theorem ppKL_take (d : Nat) (es : List Ex) (j : Nat) (h : j < es.length) : ppKL d (es.take (j + 1)) = ppKL d (es.take j) ++ ppK d (ga es j) := by
  rw [take_snocX es j h, ppKL_app]
  simp [ppKL]

/-- What a visit leaves. -/
def VisR (B0 n₀ l Bl By Bv r : Nat) (J : (Nat → Prop) → List Pt → World → Prop) (d : Nat) (e : Ex) (Φ : Nat → Prop) (pre : List Pt) (W : World) (x : Ending) (W' : World) : Prop :=
  x = .returned (.bool (decide (szE e ≤ r))) ∧ ∃ Φ' xs, xs.map Pt.key = (ppK d e).take r ∧ J Φ' (pre ++ xs) W' ∧ VisE B0 n₀ l Bl By Bv (r - szE e) Φ' W' ∧ Fr B0 W.heap.size Φ Φ' (some Bl) W W'

theorem take_stop {d : Nat} {k o : Int} {s : ByteArray} {v : Int} {es : List Ex} {j r rj : Nat} (hj : j < es.length) (hr : r = 1 + szL (es.take j) + rj) (hs : rj ≤ szE (ga es j)) :
    (ppK d (.mk k o s v es)).take r = (k, o, s, v, es.length, d) :: (ppKL (d + 1) (es.take j) ++ (ppK (d + 1) (ga es j)).take rj) := by
  have e1 : ppKL (d + 1) es = ppKL (d + 1) (es.take j) ++ (ppK (d + 1) (ga es j) ++ ppKL (d + 1) (es.drop (j + 1))) := by
    conv => lhs; rw [← List.take_append_drop j es, ppKL_app, drop_consX es j hj]
    simp only [ppKL]
  have e2 : r = (1 + szL (es.take j) + rj - 1) + 1 := by omega
  rw [e2]
  simp only [ppK, List.take_succ_cons]
  rw [e1, show 1 + szL (es.take j) + rj - 1 = (ppKL (d + 1) (es.take j)).length + rj by rw [ppKL_length]; omega, List.take_length_add_append, List.take_append_of_le_length (by rw [ppK_length]; exact hs)]
theorem szL_take_le (es : List Ex) (j : Nat) (h : j < es.length) : szL (es.take (j + 1)) = szL (es.take j) + szE (ga es j) := by
  rw [take_snocX es j h, szL_app]
  simp [szL]
/-- The world behind the store of what is left. -/
theorem left_store {B0 n₀ l Bl By Bv r r' : Nat} {Φ : Nat → Prop} {W : World} (h : VisE B0 n₀ l Bl By Bv r Φ W) :
    VisE B0 n₀ l Bl By Bv r' Φ (W.setCell ⟨Bl, 0, none⟩ (.int .i64 (r' : Int))) ∧ W.grownBy (W.setCell ⟨Bl, 0, none⟩ (.int .i64 (r' : Int))) (some Bl) := by
  have ho : ∀ k, k ≠ Bl → (W.setCell ⟨Bl, 0, none⟩ (.int .i64 (r' : Int))).heap[k]? = W.heap[k]? := fun k hk => heap_setCell_other W ⟨Bl, 0, none⟩ k _ hk
  refine ⟨{ le := ?_, y := (ho _ h.ly.symm).trans h.y, v := (ho _ h.lv.symm).trans h.v, nl := h.nl, ny := h.ny, nv := h.nv, bl := h.bl, bY := h.bY, bv := h.bv, ly := h.ly, lv := h.lv, low := h.low, n0 := h.n0 }, ⟨rfl, rfl, rfl, by simp [World.setCell], fun k _ hk => ho k (fun e => hk (by rw [e]))⟩⟩
  have := heap_setCell_same W Bl 0 #[.int .i64 (r : Int)] 3 (.int .i64 (r' : Int)) h.le
  simpa using this
/-- What holds between two arguments of a visit. -/
def LI (B0 n₀ l Bl By Bv r : Nat) (J : (Nat → Prop) → List Pt → World → Prop) (d : Nat) (es : List Ex) (e : Ex) (sl : Value) (Φ : Nat → Prop) (pre : List Pt) (x : Pt) (b0 : Nat) (w1 : World) (j : Nat) (wr : World) : Prop :=
  szL (es.take j) + 1 ≤ r ∧ ∃ Φ' xs, xs.map Pt.key = ppKL (d + 1) (es.take j) ∧ J Φ' (pre ++ (x :: xs)) wr ∧ VisE B0 n₀ l Bl By Bv (r - 1 - szL (es.take j)) Φ' wr ∧ Fr B0 w1.heap.size Φ Φ' (some Bl) w1 wr ∧ AtX wr b0 0 e sl ∧ KA (fun b => b < n₀) wr es sl
section
variable {B0 n₀ l Bl By Bv r : Nat} {J : (Nat → Prop) → List Pt → World → Prop} {d : Nat} {es : List Ex} {e : Ex} {sl : Value} {Φ : Nat → Prop} {pre : List Pt} {x : Pt} {b0 : Nat} {w1 : World} {j : Nat} {wr w2 : World}
theorem LI.below (hC : CollP B0 l J) (h : LI B0 n₀ l Bl By Bv r J d es e sl Φ pre x b0 w1 j wr) (hb : Below wr.heap.size wr w2) : LI B0 n₀ l Bl By Bv r J d es e sl Φ pre x b0 w1 j w2 := by
  obtain ⟨h1, Φ', xs, h2, h3, h4, h5, h6, h7⟩ := h
  exact ⟨h1, Φ', xs, h2, hC.own _ _ _ _ h3 (Ab.below hb), h4.fr (Fr.below hb) rfl, h5.trans (Fr.below hb), h6.keep (hb.block _ h6.lt), h7.keep hb.size (fun b h1 h2 => ⟨h2, hb.block b h1⟩)⟩
/-- The next argument is visited whole. -/
theorem LI.next {wb : World} {Φb Φ4 : Nat → Prop} {xb ys : List Pt} (hj : j < es.length) (hle : szL (es.take j) + 1 ≤ r) (hkb : xb.map Pt.key = ppKL (d + 1) (es.take j)) (hVb : VisE B0 n₀ l Bl By Bv (r - 1 - szL (es.take j)) Φb wb) (hFb : Fr B0 w1.heap.size Φ Φb (some Bl) w1 wb) (hXb : AtX wb b0 0 e sl) (hKb : KA (fun b => b < n₀) wb es sl)
    (hb : ¬ Φ b0) (hbw : b0 < w1.heap.size) (hbl : Bl ≠ b0) (hnw : n₀ ≤ w1.heap.size) (hs : szE (ga es j) ≤ r - 1 - szL (es.take j))
    (k1 : ys.map Pt.key = (ppK (d + 1) (ga es j)).take (r - 1 - szL (es.take j))) (k2 : J Φ4 (pre ++ (x :: xb) ++ ys) w2) (k3 : VisE B0 n₀ l Bl By Bv (r - 1 - szL (es.take j) - szE (ga es j)) Φ4 w2) (k4 : Fr B0 wb.heap.size Φb Φ4 (some Bl) wb w2) :
    LI B0 n₀ l Bl By Bv r J d es e sl Φ pre x b0 w1 (j + 1) w2 := by
  have e1 := szL_take_le es j hj
  have hw := hFb.size
  refine ⟨by omega, Φ4, xb ++ ys, ?_, ?_, ?_, hFb.trans (k4.weaken hw (fun b e => .inl e)), hXb.fr k4 (by omega) (fun hp => by
      rcases hFb.foot _ hp with h | h
      · exact hb h
      · omega) (by simpa using hbl), hKb.fr k4 (by omega) hVb.low (fun b e => by cases e; have := hVb.n0; have := hVb.bl; omega)⟩
  · have e2 : (ppK (d + 1) (ga es j)).take (r - 1 - szL (es.take j)) = ppK (d + 1) (ga es j) := List.take_of_length_le (by rw [ppK_length]; exact hs)
    rw [List.map_append, hkb, k1, e2, ppKL_take _ _ _ hj]
  · rw [show pre ++ (x :: (xb ++ ys)) = pre ++ (x :: xb) ++ ys by simp]; exact k2
  · rw [e1, show r - 1 - (szL (es.take j) + szE (ga es j)) = r - 1 - szL (es.take j) - szE (ga es j) by omega]; exact k3
/-- Nothing is left within the next argument. -/
theorem VisR.stop {k o : Int} {s : ByteArray} {v : Int} {W wb : World} {Φb Φ4 : Nat → Prop} {xb ys : List Pt} (hj : j < es.length) (hle : szL (es.take j) + 1 ≤ r) (hxk : x.key = (k, o, s, v, es.length, d)) (hkb : xb.map Pt.key = ppKL (d + 1) (es.take j)) (hF0 : Fr B0 W.heap.size Φ Φ none W w1) (hFb : Fr B0 w1.heap.size Φ Φb (some Bl) w1 wb)
    (hs : ¬ szE (ga es j) ≤ r - 1 - szL (es.take j))
    (k1 : ys.map Pt.key = (ppK (d + 1) (ga es j)).take (r - 1 - szL (es.take j))) (k2 : J Φ4 (pre ++ (x :: xb) ++ ys) w2) (k3 : VisE B0 n₀ l Bl By Bv (r - 1 - szL (es.take j) - szE (ga es j)) Φ4 w2) (k4 : Fr B0 wb.heap.size Φb Φ4 (some Bl) wb w2) :
    VisR B0 n₀ l Bl By Bv r J d (.mk k o s v es) Φ pre W (.returned (.bool false)) w2 := by
  have e1 := szL_take_le es j hj
  have e2 := szL_take es (j + 1)
  refine ⟨by rw [decide_eq_false (by simp only [szE]; omega)], Φ4, (x :: xb) ++ ys, ?_, ?_, ?_, ((hF0.weaken (Nat.le_refl _) (fun b e => by cases e)).trans (hFb.weaken hF0.size (fun b e => .inl e))).trans (k4.weaken (Nat.le_trans hF0.size hFb.size) (fun b e => .inl e))⟩
  · rw [take_stop (j := j) (rj := r - 1 - szL (es.take j)) hj (by omega) (by omega), List.map_append, List.map_cons, hxk, hkb, k1]
    rfl
  · rw [← List.append_assoc]; exact k2
  · rw [show r - szE (.mk k o s v es) = r - 1 - szL (es.take j) - szE (ga es j) by simp only [szE]; omega]; exact k3
/-- All arguments are visited. -/
theorem VisR.whole {k o : Int} {s : ByteArray} {v : Int} {W : World} (hj : j = es.length) (hxk : x.key = (k, o, s, v, es.length, d)) (hF0 : Fr B0 W.heap.size Φ Φ none W w1) (h : LI B0 n₀ l Bl By Bv r J d es e sl Φ pre x b0 w1 j wr) :
    VisR B0 n₀ l Bl By Bv r J d (.mk k o s v es) Φ pre W (.returned (.bool true)) wr := by
  subst hj
  obtain ⟨h1, Φ', xs, h2, h3, h4, h5, h6, h7⟩ := h
  rw [List.take_length] at h1 h2 h4
  refine ⟨by rw [decide_eq_true (by simp only [szE]; omega)], Φ', x :: xs, ?_, h3, ?_, (hF0.weaken (Nat.le_refl _) (fun b e => by cases e)).trans (h5.weaken hF0.size (fun b e => .inl e))⟩
  · rw [List.take_of_length_le (by rw [ppK_length]; simp only [szE]; omega), List.map_cons, hxk, h2]
    simp only [ppK]
  · rw [show r - szE (.mk k o s v es) = r - 1 - szL es by simp only [szE]; omega]; exact h4
end
set_option maxRecDepth 100000 in
set_option maxHeartbeats 8000000 in
theorem visit_any {B0 l n₀ Bl By Bv : Nat} {J : (Nat → Prop) → List Pt → World → Prop} (hC : CollP B0 l J) (e : Ex) :
    ∀ (sl : Value) (d r : Nat) (Φ : Nat → Prop) (pre : List Pt) (W : World), KA (fun b => b < n₀) W e.es sl → fitE e → VisE B0 n₀ l Bl By Bv r Φ W → J Φ pre W → d + r ≤ 1000 → pre.length + r ≤ 101 →
    Calls Tryd.prog 70 #[exV e sl, .int .i64 (d : Int), ptrV Bl, ptrV By, ptrV Bv] W (VisR B0 n₀ l Bl By Bv r J d e Φ pre W) := by
  induction e using Ex.ind with
  | h k o s v es ih =>
  intro sl d r Φ pre W hK hf hV hJ hd hpl
  obtain ⟨a, c, sf, rfl, h1, h2, hc⟩ := KA.inv hK
  have h1 : es.length ≤ c := h1
  have HIH := Lib.hid ih
  obtain ⟨w1, hw1⟩ : ∃ X, W.alloc (.cells #[.int .i64 k, .int .i64 o, .string s, .int .i64 v, .slice a es.length c] TX) = X := ⟨_, rfl⟩
  have hb1 : Below W.heap.size W w1 := by rw [← hw1]; exact (Below.refl _ W).alloc (Nat.le_refl _) _
  have hs1 : w1.heap.size = W.heap.size + 1 := by rw [← hw1]; simp
  have hX1 : AtX w1 W.heap.size 0 (.mk k o s v es) (.slice a es.length c) := by rw [← hw1]; exact boxX W k o s v (.slice a es.length c) es
  have hF0 : Fr B0 W.heap.size Φ Φ none W w1 := Fr.below hb1
  have hV1 := hV.fr hF0 rfl
  have hJ1 := hC.own _ _ _ _ hJ (Ab.below hb1)
  have hK1 : KA (fun b => b < n₀) w1 es (.slice a es.length c) := KA.keep hK hb1.size (fun b h1 h2 => ⟨h2, hb1.block b h1⟩)
  have hnb : ¬ Φ W.heap.size := fun hp => by
    obtain ⟨c, t, z, h⟩ := hC.cells _ _ _ hJ _ hp
    have := lt_of_heap h
    omega
  have hBlW : Bl < W.heap.size := lt_of_heap hV.le
  have HF0 := Lib.hid hF0
  have HV1 := Lib.hid hV1
  have HJ1 := Lib.hid hJ1
  have HK1 := Lib.hid hK1
  have HX1 := Lib.hid hX1
  have HNB := Lib.hid hnb
  have HS1 := Lib.hid hs1
  have HBL := Lib.hid hBlW
  have HW := Lib.hid hw1
  have HNW : Hid (n₀ ≤ W.heap.size) := Lib.hid (by have := hV.n0; have := hV.bl; omega)
  have HFI := Lib.hid (fitL_mem hf.2)
  have HFS := Lib.hid hf.1
  have hle := box_cell hV1.le
  have hye := box_cell hV1.y
  obtain ⟨x0, x1, x2, x3, x4⟩ := hX1
  rw [← hw1] at hle hye x0 x1 x2 x3 x4
  simp only [exV, ptrV, Ex.k, Ex.o, Ex.s, Ex.v, Ex.es] at *
  by_cases hr0 : r = 0
  · subst hr0
    have HR : Hid (VisR B0 n₀ l Bl By Bv 0 J d (.mk k o s v es) Φ pre W (.returned (.bool false)) w1) := Lib.hid (by
      refine ⟨by rw [decide_eq_false (by have := szE_pos (.mk k o s v es); omega)], Φ, [], rfl, by simpa using hJ1, ?_, hF0.weaken (Nat.le_refl _) (fun b e => by cases e)⟩
      rw [Nat.zero_sub]
      exact hV1)
    clear ih hK hf hV hJ hd hc hb1 hs1 hF0 hV1 hJ1 hK1 hnb hBlW hw1
    refine (callsIn_wide (n := 9)).1 ?_
    refine callsIn_of_wp Tryd.func70 rfl trivial ?_ rfl
    simp only [Tryd.ntmps70, List.size_toArray, List.length_cons, List.length_nil, Nat.reduceAdd, Nat.reduceSub, Array.replicate_succ, Array.replicate_zero, List.push_toArray, List.append_toArray, List.nil_append, List.cons_append]
    gi_wp2_with fail
    refine ⟨fun _ h => (by cases h), ?_⟩
    gi_wp2
    go_ret
    rw [HW.out]
    exact HR.out
  · have hq0 : ((r : Int) == 0) = false := by simp; omega
    have hwr : IntKind.i64.wrap ((r : Int) - 1) = ((r - 1 : Nat) : Int) := by rw [IntWalk.i64_in _ (by omega)]; omega
    obtain ⟨x, hxv, hxd, hxk⟩ : ∃ x : Pt, ptV x = .agg #[.int .i64 k, .int .i64 o, .string s, .int .i64 v, .slice a es.length c] ∧ x.d = d ∧ x.key = (k, o, s, v, es.length, d) := ⟨mkPt (.mk k o s v es) a c d hf.1, rfl, rfl, rfl⟩
    have HY := hC.yields Φ pre x w1.heap.size w1 hJ1 (Nat.le_refl _) (by omega)
    have HPL := Lib.hid hpl
    have HXK := Lib.hid hxk
    obtain ⟨fn, tmps, assign, body, hy, hR⟩ := HY
    rw [hxv, hxd] at hy
    have HR := Lib.hid hR
    have HD := Lib.hid hd
    have HR0 : Hid (1 ≤ r) := Lib.hid (by omega)
    rw [← hw1] at hy
    clear ih hK hf hV hJ hd hc hb1 hs1 hF0 hV1 hJ1 hK1 hnb hBlW hw1 hr0 hR hxv hxd hxk hpl
    refine (callsIn_wide (n := 9)).1 ?_
    refine callsIn_of_wp Tryd.func70 rfl trivial ?_ rfl
    simp only [Tryd.ntmps70, List.size_toArray, List.length_cons, List.length_nil, Nat.reduceAdd, Nat.reduceSub, Array.replicate_succ, Array.replicate_zero, List.push_toArray, List.append_toArray, List.nil_append, List.cons_append]
    gi_wp2_with fail
    rw [HW.out]
    refine HR.out.mono ?_
    rintro e2 w2 ⟨Φ2, hfr, rfl, hJ2⟩
    have hV2 := HV1.out.fr hfr rfl
    obtain ⟨hV3, g3⟩ := left_store hV2 (r' := r - 1)
    have hJ3 := hC.own _ _ _ _ hJ2 (Ab.grown g3 (fun b e => by cases e; exact ⟨hV2.bl, hV2.nl⟩))
    have hF3 : Fr B0 w1.heap.size Φ Φ2 (some Bl) w1 (w2.setCell ⟨Bl, 0, none⟩ (.int .i64 ((r - 1 : Nat) : Int))) := (hfr.weaken (Nat.le_refl _) (fun b e => by cases e)).trans (Fr.own g3 (fun b e => by cases e; exact .inl rfl))
    have hbne : Bl ≠ W.heap.size := by have := HBL.out; omega
    have hX3 := HX1.out.fr hF3 (by have := HS1.out; omega) HNB.out (by simpa using hbne)
    have hK3 := HK1.out.fr hF3 (by have := HNW.out; have := HS1.out; omega) HV1.out.low (fun b e => by cases e; have := hV2.n0; have := hV2.bl; omega)
    have HLI : Hid (LI B0 n₀ l Bl By Bv r J d es (.mk k o s v es) (.slice a es.length c) Φ pre x W.heap.size w1 0 (w2.setCell ⟨Bl, 0, none⟩ (.int .i64 ((r - 1 : Nat) : Int)))) := Lib.hid ⟨by have := HR0.out; simp [szL]; omega, Φ2, [], rfl, hJ3, by simpa [szL] using hV3, hF3, hX3, hK3⟩
    have hle2 := box_cell hV2.le
    have hfz : w2.frozen? ⟨Bl, 0, none⟩ = false := by rw [Lib.frozen_of_heap hV2.le]
    have hx4 := hX3.2.2.2.2
    clear hV2 hV3 g3 hJ3 hF3 hX3 hK3 hJ2 hfr hy hle hye x0 x1 x2 x3 x4
    gi_wp2
    gi_loopw [24] (fun y wr => ∃ j : Nat, j ≤ es.length ∧ y = .int .i64 j ∧ Hid (w1.heap.size ≤ wr.heap.size) ∧ Hid (LI B0 n₀ l Bl By Bv r J d es (.mk k o s v es) (.slice a es.length c) Φ pre x W.heap.size w1 j wr)) (fun y _ => es.length - (intOf y).toNat)
    case atStart => exact ⟨0, Nat.zero_le _, rfl, Lib.hid (by obtain ⟨_, _, _, _, _, _, h, _⟩ := HLI.out; exact h.size), HLI⟩
    case round =>
      obtain ⟨j, hj, rfl, HSZ, HI⟩ := hrel
      by_cases hlt : j < es.length
      · have k1 : (j : Int) < (es.length : Int) := by omega
        obtain ⟨hle1, Φ', xs, hkeys, hJr, hVr, hFr, hXr, hKr⟩ := HI.out
        obtain ⟨sr, hcr⟩ := KA.at_ hKr
        obtain ⟨hKj, b, off, rfl, _, hbl, y0, y1, y2, y3, y4⟩ := hcr j hlt
        obtain ⟨a2, c2, _, hsr, _, _, _⟩ := KA.inv hKj
        obtain ⟨n2, hn2⟩ : ∃ n, (ga es j).es.length = n := ⟨_, rfl⟩
        rw [hn2] at hsr
        rw [hsr] at hKj y4
        obtain ⟨wb, hwb⟩ : ∃ X, wr.alloc (.cells #[.int .i64 (ga es j).k, .int .i64 (ga es j).o, .string (ga es j).s, .int .i64 (ga es j).v, .slice a2 n2 c2] TX) = X := ⟨_, rfl⟩
        have hbb : Below wr.heap.size wr wb := by rw [← hwb]; exact (Below.refl _ wr).alloc (Nat.le_refl _) _
        have HIb := Lib.hid (LI.below hC HI.out hbb)
        have HSb : Hid (w1.heap.size ≤ wb.heap.size) := Lib.hid (Nat.le_trans HSZ.out hbb.size)
        have hKjb : KA (fun b => b < n₀) wb (ga es j).es (.slice a2 n2 c2) := hKj.keep hbb.size (fun b h1 h2 => ⟨h2, hbb.block b h1⟩)
        obtain ⟨hleb, Φb, xb, hkb, hJb, hVb, hFb, hXb, hKb⟩ := HIb.out
        have HCO := Lib.hid (And.intro hleb (And.intro hkb (And.intro hVb (And.intro hFb (And.intro hXb hKb)))))
        have HIN := Lib.hid (HIH.out (ga es j) (ga_mem hlt) (.slice a2 n2 c2) (d + 1) (r - 1 - szL (es.take j)) Φb (pre ++ (x :: xb)) wb hKjb (HFI.out _ (ga_mem hlt)) hVb hJb (by have := HD.out; have := HR0.out; omega) (by
          have h1 := congrArg List.length hkb
          rw [List.length_map, ppKL_length] at h1
          have := HPL.out
          simp only [List.length_append, List.length_cons]
          omega))
        have hve := box_cell hVb.v
        rw [← hwb] at hve
        rw [show ((d + 1 : Nat) : Int) = (d : Int) + 1 by omega] at HIN
        have hdd := HD.out
        have HWB := Lib.hid hwb
        clear hle1 hkeys hJr hVr hFr hXr hKr hcr hKj hbb hKjb hkb hJb hVb hFb hsr hn2 hwb hleb hXb hKb
        gi_wp2_with fail
        rw [HWB.out]
        refine ⟨trivial, ?_⟩
        refine (callsIn_wide.2 HIN.out).mono ?_
        rintro e4 w4 ⟨rfl, Φ4, ys, hk4, hJ4, hV4, hF4⟩
        by_cases hsz : szE (ga es j) ≤ r - 1 - szL (es.take j)
        · have HI4 : Hid (LI B0 n₀ l Bl By Bv r J d es (.mk k o s v es) (.slice (some ⟨b, off, none⟩) es.length c) Φ pre x W.heap.size w1 (j + 1) w4) := Lib.hid (by
            obtain ⟨c1, c2', c3, c4, c5, c6⟩ := HCO.out
            exact LI.next hlt c1 c2' c3 c4 c5 c6 HNB.out (by have := HS1.out; omega) (by have := HBL.out; omega) (by have := HNW.out; have := HS1.out; omega) hsz hk4 hJ4 hV4 hF4)
          have HS4 : Hid (w1.heap.size ≤ w4.heap.size) := Lib.hid (Nat.le_trans HSb.out hF4.size)
          rw [decide_eq_true hsz]
          clear hsz hk4 hJ4 hV4 hF4
          gi_wp2
          go_roundw
          case rel => exact ⟨j + 1, by omega, by go_num, HS4, HI4⟩
          case measure => simp [intOf]; omega
        · have HR4 : Hid (VisR B0 n₀ l Bl By Bv r J d (.mk k o s v es) Φ pre W (.returned (.bool false)) w4) := Lib.hid (by
            obtain ⟨c1, c2', c3, c4, c5, c6⟩ := HCO.out
            exact VisR.stop hlt c1 HXK.out c2' HF0.out c4 hsz hk4 hJ4 hV4 hF4)
          rw [decide_eq_false hsz]
          clear hsz hk4 hJ4 hV4 hF4
          gi_wp2
          go_ret
          exact HR4.out
      · have k1 : ¬ (j : Int) < (es.length : Int) := by omega
        have HR4 : Hid (VisR B0 n₀ l Bl By Bv r J d (.mk k o s v es) Φ pre W (.returned (.bool true)) wr) := Lib.hid (VisR.whole (by omega) HXK.out HF0.out HI.out)
        gi_wp2
        go_ret
        exact HR4.out

end Go.Proofs.YtdgphhdkeikbaaaDoor

/-! ### ExIter: The iterator over the parts of an expression. -/
namespace Go.Proofs.YtdgphhdkeikbaaaDoor
set_option linter.unusedSimpArgs false
set_option linter.unusedVariables false
open Go.RowKit Go.Shelf
attribute [local go_sem] Oper.semAt_some

theorem boxXh (w : World) (e : Ex) (sl : Value) : (w.alloc (.cells #[.int .i64 e.k, .int .i64 e.o, .string e.s, .int .i64 e.v, sl] TX)).heap[w.heap.size]? = some (.cells #[.int .i64 e.k, .int .i64 e.o, .string e.s, .int .i64 e.v, sl] TX) := World.alloc_heap_new w _
/-- The world in which the iterator has made its variables. -/
theorem iter_boxes (l : Nat) (w : World) : ∃ w3, w3 = ((w.alloc (.cells #[yieldV l] TYF)).alloc (.cells #[.int .i64 101] 3)).alloc (.cells #[.func (.func 70) #[] #[ptrV (w.heap.size + 1), ptrV w.heap.size, ptrV (w.heap.size + 2)]] TYF) ∧
    Below w.heap.size w w3 ∧ w3.heap.size = w.heap.size + 3 ∧ w3.heap[w.heap.size]? = some (.cells #[yieldV l] TYF) ∧ w3.heap[w.heap.size + 1]? = some (.cells #[.int .i64 101] 3) ∧
    w3.heap[w.heap.size + 2]? = some (.cells #[.func (.func 70) #[] #[ptrV (w.heap.size + 1), ptrV w.heap.size, ptrV (w.heap.size + 2)]] TYF) := by
  refine ⟨_, rfl, (((Below.refl _ w).alloc (Nat.le_refl _) _).alloc (by simp) _).alloc (by simp; omega) _, by simp, ?_, ?_, ?_⟩
  · rw [Below.heap_alloc _ _ _ (by simp; omega), Below.heap_alloc _ _ _ (by simp)]
    exact World.alloc_heap_new w _
  · rw [Below.heap_alloc _ _ _ (by simp)]
    have := World.alloc_heap_new (w.alloc (.cells #[yieldV l] TYF)) (.cells #[.int .i64 101] 3)
    rwa [World.size_alloc] at this
  · have := World.alloc_heap_new ((w.alloc (.cells #[yieldV l] TYF)).alloc (.cells #[.int .i64 101] 3)) (.cells #[.func (.func 70) #[] #[ptrV (w.heap.size + 1), ptrV w.heap.size, ptrV (w.heap.size + 2)]] TYF)
    rwa [World.size_alloc, World.size_alloc] at this

set_option maxRecDepth 100000 in
set_option maxHeartbeats 8000000 in
theorem iter_any {B0 l n₀ Bx : Nat} {J : (Nat → Prop) → List Pt → World → Prop} (hC : CollP B0 l J) (e : Ex) (sl : Value) (Φ : Nat → Prop) (w : World) (hx : AtX w Bx 0 e sl) (hK : KA (fun b => b < n₀) w e.es sl) (hf : fitE e) (hJ : J Φ [] w) (hlow : ∀ b, Φ b → n₀ ≤ b) (hn : n₀ ≤ B0) (hB : B0 ≤ w.heap.size) :
    Calls Tryd.prog 69 #[yieldV l, ptrV Bx] w fun x w' => (∃ v, x = .returned v) ∧ ∃ Φ' xs, xs.map Pt.key = (ppK 1 e).take 101 ∧ J Φ' xs w' := by
  obtain ⟨w3, hw3, b3, s3, h0, h1, h2⟩ := iter_boxes l w
  have hnew : ∀ b, w.heap.size ≤ b → ¬ Φ b := fun b hb hp => by
    obtain ⟨c, t, z, h⟩ := hC.cells _ _ _ hJ _ hp
    have := lt_of_heap h
    omega
  have hV : VisE B0 n₀ l (w.heap.size + 1) w.heap.size (w.heap.size + 2) 101 Φ w3 :=
    { le := h1, y := h0, v := h2, nl := hnew _ (by omega), ny := hnew _ (by omega), nv := hnew _ (by omega), bl := by omega, bY := hB, bv := by omega, ly := by omega, lv := by omega, low := hlow, n0 := hn }
  have HVI := Lib.hid (visit_any hC e sl 1 101 Φ [] w3 (hK.keep b3.size (fun b h1 h2 => ⟨h2, b3.block b h1⟩)) hf hV (hC.own _ _ _ _ hJ (Ab.below b3)) (by omega) (by simp))
  obtain ⟨x0, x1, x2, x3, x4⟩ := hx.keep (b3.block _ hx.lt)
  have hv := box_cell h2
  have HW := Lib.hid hw3
  rw [hw3] at x0 x1 x2 x3 x4 hv
  simp only [exV, ptrV] at HVI ⊢
  clear h0 h1 h2 hV hnew hx hK hJ hlow b3 hw3
  refine (callsIn_wide (n := 9)).1 ?_
  refine callsIn_of_wp Tryd.func69 rfl trivial ?_ rfl
  simp only [Tryd.ntmps69, List.size_toArray, List.length_cons, List.length_nil, Nat.reduceAdd, Nat.reduceSub, Array.replicate_succ, Array.replicate_zero, List.push_toArray, List.append_toArray, List.nil_append, List.cons_append]
  gi_wp2_with fail
  refine ⟨trivial, ?_⟩
  rw [← HW.out]
  refine (callsIn_wide.2 HVI.out).mono ?_
  rintro x w4 ⟨rfl, Φ', xs, hk, hj, _, _⟩
  have HR : Hid (∃ Φ' xs, xs.map Pt.key = (ppK 1 e).take 101 ∧ J Φ' xs w4) := Lib.hid ⟨Φ', xs, hk, by simpa using hj⟩
  clear hk hj
  gi_wp2
  go_end0
  exact ⟨⟨_, rfl⟩, HR.out⟩

/-- parts boxes the expression, and returns the iterator. -/
theorem parts_any (e : Ex) (sl : Value) (w : World) :
    Calls Tryd.prog 50 #[exV e sl] w fun x w' => x = .returned (.func (.func 69) #[] #[ptrV w.heap.size]) ∧ w' = w.alloc (.cells #[.int .i64 e.k, .int .i64 e.o, .string e.s, .int .i64 e.v, sl] TX) := by
  simp only [exV]
  go_enter Tryd.func50, Tryd.ntmps50
  go_wp2
  go_ret
  exact ⟨rfl, rfl⟩

end Go.Proofs.YtdgphhdkeikbaaaDoor

/-! ### ExBoxes: Variables that the body of a loop over parts keeps in boxes. -/
namespace Go.Proofs.YtdgphhdkeikbaaaDoor
set_option linter.unusedSimpArgs false
set_option linter.unusedVariables false
open Go.RowKit Go.Shelf
attribute [local go_sem] Oper.semAt_some

/-- n integers in the blocks from E on, each a function of the parts that have come. -/
structure BxI (w : World) (E n : Nat) (f : Nat → List Pt → Int) (T : Nat → TypeId) (Φ : Nat → Prop) (pre : List Pt) (W : World) : Prop where
  below : Below w.heap.size w W
  hE : w.heap.size ≤ E
  e : ∀ i, i < n → W.heap[E + i]? = some (.cells #[.int .i64 (f i pre)] (T i) (0, 0))
  phi : ∀ b, Φ b ↔ E ≤ b ∧ b < E + n
section
variable {w A B : World} {E n B0 r M : Nat} {f : Nat → List Pt → Int} {T : Nat → TypeId} {Φ : Nat → Prop} {pre : List Pt} {o : Obj} {go : Option Nat}
theorem BxI.cells (h : BxI w E n f T Φ pre A) : ∀ b, Φ b → ∃ c t z, A.heap[b]? = some (.cells c t z) := by
  intro b hb
  obtain ⟨h1, h2⟩ := (h.phi b).1 hb
  have := h.e (b - E) (by omega)
  rw [show E + (b - E) = b by omega] at this
  exact ⟨_, _, _, this⟩
theorem BxI.own (h : BxI w E n f T Φ pre A) (k : Ab B0 Φ A B) (hw : w.heap.size ≤ B0) : BxI w E n f T Φ pre B where
  below := h.below.trans ⟨k.os, k.tape, k.output, k.size, fun b hb => by
    have hlt : b < A.heap.size := by have := h.below.size; omega
    obtain ⟨o, ho⟩ : ∃ o, A.heap[b]? = some o := ⟨_, Array.getElem?_eq_getElem hlt⟩
    rw [ho]
    exact k.keep b o ho (.inl (by omega))⟩
  hE := h.hE
  e := fun i hi => k.keep _ _ (h.e i hi) (.inr ((h.phi _).2 ⟨by omega, by omega⟩))
  phi := h.phi
theorem BxI.turn (h : BxI w E n f T Φ pre A) (hg : A.grownBy B (some r)) (ho : A.heap[r]? = some o) (hc : o.isCells = false) (hr : w.heap.size ≤ r) : BxI w E n f T Φ pre B where
  below := h.below.trans ⟨hg.os, hg.tape, hg.output, hg.size, fun b hb => hg.block b (by have := h.below.size; omega) (by simp; omega)⟩
  hE := h.hE
  e := fun i hi => (hg.block _ (lt_of_heap (h.e i hi)) (fun e => by
    cases e
    rw [h.e i hi] at ho
    cases ho
    simp [Obj.isCells] at hc)).trans (h.e i hi)
  phi := h.phi
theorem Fr.inΦ (hg : A.grownBy B (some r)) (hr : Φ r) : Fr B0 M Φ Φ go A B :=
  ⟨hg.os, hg.tape, hg.output, hg.size, fun b o _ hb hn _ _ => (hg.block b (lt_of_heap hb) (fun e => by cases e; exact hn hr)).trans hb, fun _ h => .inl h⟩
theorem keepsOthers_row {c : Array Value} {t : TypeId} {z : Nat × Nat} (hg : A.grownBy B (some r)) (hr : A.heap[r]? = some (.cells c t z)) : KeepsOthers A B := by
  refine ⟨hg.size, fun k o hk hc => ?_⟩
  rw [hg.block k (lt_of_heap hk) (fun e => by
    cases e
    rw [hr] at hk
    cases hk
    simp [Obj.isCells] at hc)]
  exact hk
theorem keepsOthers_below (h : Below A.heap.size A B) : KeepsOthers A B := ⟨h.size, fun k o hk _ => (h.block k (lt_of_heap hk)).trans hk⟩
theorem KeepsOthers.trans' {C : World} (h : KeepsOthers A B) (k : KeepsOthers B C) : KeepsOthers A C := ⟨Nat.le_trans h.size k.size, fun b o hb hc => k.same b o (h.same b o hb hc) hc⟩
/-- A box of one cell is written. -/
theorem setBox {W : World} {b : Nat} {u v : Value} {t : TypeId} (h : W.heap[b]? = some (.cells #[u] t (0, 0))) : (W.setCell ⟨b, 0, none⟩ v).heap[b]? = some (.cells #[v] t (0, 0)) ∧ W.grownBy (W.setCell ⟨b, 0, none⟩ v) (some b) := by
  refine ⟨?_, ⟨rfl, rfl, rfl, by simp [World.setCell], fun k _ hk => heap_setCell_other W ⟨b, 0, none⟩ k _ (fun e => hk (by rw [e]))⟩⟩
  have := heap_setCell_same W b 0 #[u] t v h
  simpa using this
end

end Go.Proofs.YtdgphhdkeikbaaaDoor

/-! ### ExCkPart: What the program's checkPart returns. -/
namespace Go.Proofs.YtdgphhdkeikbaaaDoor
set_option linter.unusedSimpArgs false
set_option linter.unusedVariables false
open Go.RowKit


def nuE (o : Int) (s : ByteArray) (v : Int) (n : Nat) : Int := if o ≠ 0 ∨ s ≠ .empty ∨ n ≠ 0 then 1 else if v < 0 ∨ 1099511627776 < v then 2 else 0
def naE (o : Int) (s : ByteArray) (v : Int) (n : Nat) : Int := if o ≠ 0 ∨ v ≠ 0 ∨ n ≠ 0 then 1 else if nmB s = false then 5 else 0
def opE (o : Int) (s : ByteArray) (v : Int) (n m : Nat) (f l : Int) : Int := if s ≠ .empty ∨ v ≠ 0 ∨ n ≠ m then 1 else if o < f ∨ l < o then 8 else 0
theorem prP_eq (k o : Int) (s : ByteArray) (v : Int) (n : Nat) : prP k o s v n = if k = 1 then nuE o s v n else if k = 2 then naE o s v n else if k = 3 then opE o s v n 1 1 2 else if k = 4 then opE o s v n 2 3 15 else 8 := by
  unfold prP nuE naE opE
  by_cases h1 : k = 1
  · subst h1
    by_cases h1 : s = .empty <;> by_cases h2 : o = 0 <;> by_cases h3 : n = 0 <;> simp_all
  by_cases h2 : k = 2
  · subst h2
    by_cases h1 : v = 0 <;> by_cases h2 : o = 0 <;> by_cases h3 : n = 0 <;> simp_all
  by_cases h3 : k = 3
  · subst h3
    by_cases h1 : s = .empty <;> by_cases h2 : v = 0 <;> by_cases h3 : n = 1 <;> by_cases h4 : o = 1 <;> by_cases h5 : o = 2 <;> simp_all <;> omega
  by_cases h4 : k = 4
  · subst h4
    by_cases h1 : s = .empty <;> by_cases h2 : v = 0 <;> by_cases h3 : n = 2 <;> simp_all <;> omega
  have : k < 1 ∨ 4 < k := by omega
  simp [h1, h2, h3, h4, this]


set_option maxRecDepth 100000 in
set_option maxHeartbeats 8000000 in
theorem checkNumber_any (k o : Int) (s : ByteArray) (v : Int) (n c : Nat) (a : Option Addr) (w : World) :
    Calls Tryd.prog 71 #[.agg #[.int .i64 k, .int .i64 o, .string s, .int .i64 v, .slice a n c]] w fun x w' => x = .returned (.int .i64 (nuE o s v n)) ∧ Below w.heap.size w w' := by
  have HB0 := Lib.hid ((Below.refl w.heap.size w).alloc (Nat.le_refl _) (.cells #[.int .i64 k, .int .i64 o, .string s, .int .i64 v, .slice a n c] TX))
  by_cases ho : ¬ o = 0
  · skip
    obtain ⟨o1, o2⟩ := ine ho
    rw [show nuE o s v n = 1 by unfold nuE; simp_all]
    clear ho
    go_enter Tryd.func71, Tryd.ntmps71
    go_wp2
    go_ret
    exact ⟨rfl, HB0.out⟩
  · skip
    have ho : o = 0 := Classical.not_not.1 ho
    obtain ⟨o1, o2⟩ := ieq ho
    by_cases hs : ¬ s = .empty
    · skip
      obtain ⟨s1, s2⟩ := emp_no hs
      rw [show nuE o s v n = 1 by unfold nuE; simp_all]
      clear ho hs
      go_enter Tryd.func71, Tryd.ntmps71
      go_wp2
      go_ret
      exact ⟨rfl, HB0.out⟩
    · skip
      have hs : s = .empty := Classical.not_not.1 hs
      obtain ⟨s1, s2⟩ := emp_yes hs
      by_cases hn : ¬ n = 0
      · skip
        obtain ⟨n1, n2⟩ := neq_len hn
        rw [show nuE o s v n = 1 by unfold nuE; simp_all]
        clear ho hs hn
        go_enter Tryd.func71, Tryd.ntmps71
        go_wp2
        go_ret
        exact ⟨rfl, HB0.out⟩
      · skip
        have hn : n = 0 := Classical.not_not.1 hn
        obtain ⟨n1, n2⟩ := eq_len hn
        by_cases qv : v < 0
        · skip
          rw [show nuE o s v n = 2 by unfold nuE; simp_all]
          clear ho hs hn
          go_enter Tryd.func71, Tryd.ntmps71
          go_wp2
          go_ret
          exact ⟨rfl, HB0.out⟩
        · skip
          by_cases qw : 1099511627776 < v
          · skip
            rw [show nuE o s v n = 2 by unfold nuE; simp_all]
            clear ho hs hn
            go_enter Tryd.func71, Tryd.ntmps71
            go_wp2
            go_ret
            exact ⟨rfl, HB0.out⟩
          · skip
            rw [show nuE o s v n = 0 by unfold nuE; simp_all]
            clear ho hs hn
            go_enter Tryd.func71, Tryd.ntmps71
            go_wp2
            go_ret
            exact ⟨rfl, HB0.out⟩

set_option maxRecDepth 100000 in
set_option maxHeartbeats 8000000 in
theorem checkOperation_any (k o : Int) (s : ByteArray) (v : Int) (n c m : Nat) (f l : Int) (a : Option Addr) (w : World) :
    Calls Tryd.prog 73 #[.agg #[.int .i64 k, .int .i64 o, .string s, .int .i64 v, .slice a n c], .int .i64 (m : Int), .int .i64 f, .int .i64 l] w fun x w' => x = .returned (.int .i64 (opE o s v n m f l)) ∧ Below w.heap.size w w' := by
  have HB0 := Lib.hid ((Below.refl w.heap.size w).alloc (Nat.le_refl _) (.cells #[.int .i64 k, .int .i64 o, .string s, .int .i64 v, .slice a n c] TX))
  by_cases hs : ¬ s = .empty
  · skip
    obtain ⟨s1, s2⟩ := emp_no hs
    rw [show opE o s v n m f l = 1 by unfold opE; simp_all]
    clear hs
    go_enter Tryd.func73, Tryd.ntmps73
    go_wp2
    go_ret
    exact ⟨rfl, HB0.out⟩
  · skip
    have hs : s = .empty := Classical.not_not.1 hs
    obtain ⟨s1, s2⟩ := emp_yes hs
    by_cases hv : ¬ v = 0
    · skip
      obtain ⟨v1, v2⟩ := ine hv
      rw [show opE o s v n m f l = 1 by unfold opE; simp_all]
      clear hs hv
      go_enter Tryd.func73, Tryd.ntmps73
      go_wp2
      go_ret
      exact ⟨rfl, HB0.out⟩
    · skip
      have hv : v = 0 := Classical.not_not.1 hv
      obtain ⟨v1, v2⟩ := ieq hv
      by_cases hn : ¬ n = m
      · skip
        obtain ⟨n1, n2⟩ := neq_len hn
        rw [show opE o s v n m f l = 1 by unfold opE; simp_all]
        clear hs hv hn
        go_enter Tryd.func73, Tryd.ntmps73
        go_wp2
        go_ret
        exact ⟨rfl, HB0.out⟩
      · skip
        have hn : n = m := Classical.not_not.1 hn
        obtain ⟨n1, n2⟩ := eq_len hn
        by_cases q1 : o < f
        · skip
          rw [show opE o s v n m f l = 8 by unfold opE; simp_all]
          clear hs hv hn
          go_enter Tryd.func73, Tryd.ntmps73
          go_wp2
          go_ret
          exact ⟨rfl, HB0.out⟩
        · skip
          by_cases q2 : l < o
          · skip
            rw [show opE o s v n m f l = 8 by unfold opE; simp_all]
            clear hs hv hn
            go_enter Tryd.func73, Tryd.ntmps73
            go_wp2
            go_ret
            exact ⟨rfl, HB0.out⟩
          · skip
            rw [show opE o s v n m f l = 0 by unfold opE; simp_all]
            clear hs hv hn
            go_enter Tryd.func73, Tryd.ntmps73
            go_wp2
            go_ret
            exact ⟨rfl, HB0.out⟩

set_option maxRecDepth 100000 in
set_option maxHeartbeats 8000000 in
theorem checkNameExpr_any (k o : Int) (s : ByteArray) (v : Int) (n c : Nat) (a : Option Addr) (w : World) (hsz : s.size ≤ 9223372036854775807) :
    Calls Tryd.prog 72 #[.agg #[.int .i64 k, .int .i64 o, .string s, .int .i64 v, .slice a n c]] w fun x w' => x = .returned (.int .i64 (naE o s v n)) ∧ Below w.heap.size w w' := by
  have HB0 := Lib.hid ((Below.refl w.heap.size w).alloc (Nat.le_refl _) (.cells #[.int .i64 k, .int .i64 o, .string s, .int .i64 v, .slice a n c] TX))
  by_cases ho : ¬ o = 0
  · skip
    obtain ⟨o1, o2⟩ := ine ho
    rw [show naE o s v n = 1 by unfold naE; simp_all]
    clear ho
    go_enter Tryd.func72, Tryd.ntmps72
    go_wp2
    go_ret
    exact ⟨rfl, HB0.out⟩
  · skip
    have ho : o = 0 := Classical.not_not.1 ho
    obtain ⟨o1, o2⟩ := ieq ho
    by_cases hv : ¬ v = 0
    · skip
      obtain ⟨v1, v2⟩ := ine hv
      rw [show naE o s v n = 1 by unfold naE; simp_all]
      clear ho hv
      go_enter Tryd.func72, Tryd.ntmps72
      go_wp2
      go_ret
      exact ⟨rfl, HB0.out⟩
    · skip
      have hv : v = 0 := Classical.not_not.1 hv
      obtain ⟨v1, v2⟩ := ieq hv
      by_cases hn : ¬ n = 0
      · skip
        obtain ⟨n1, n2⟩ := neq_len hn
        rw [show naE o s v n = 1 by unfold naE; simp_all]
        clear ho hv hn
        go_enter Tryd.func72, Tryd.ntmps72
        go_wp2
        go_ret
        exact ⟨rfl, HB0.out⟩
      · skip
        have hn : n = 0 := Classical.not_not.1 hn
        obtain ⟨n1, n2⟩ := eq_len hn
        have hI := fun W => isName_same s W hsz
        cases hb : nmB s with
        | false =>
          rw [show naE o s v n = 5 by unfold naE; simp_all]
          rw [hb] at hI
          have HI := Lib.hid hI
          clear hI hb ho hv hn
          go_enter Tryd.func72, Tryd.ntmps72
          go_wp2_with fail
          refine (HI.out _).mono ?_
          rintro x w4 ⟨rfl, hw⟩
          have hw := hw.symm
          subst hw
          go_wp2
          go_ret
          exact ⟨rfl, HB0.out⟩
        | true =>
          rw [show naE o s v n = 0 by unfold naE; simp_all]
          rw [hb] at hI
          have HI := Lib.hid hI
          clear hI hb ho hv hn
          go_enter Tryd.func72, Tryd.ntmps72
          go_wp2_with fail
          refine (HI.out _).mono ?_
          rintro x w4 ⟨rfl, hw⟩
          have hw := hw.symm
          subst hw
          go_wp2
          go_ret
          exact ⟨rfl, HB0.out⟩

set_option maxRecDepth 100000 in
set_option maxHeartbeats 8000000 in
theorem checkPart_any (k o : Int) (s : ByteArray) (v : Int) (n c : Nat) (a : Option Addr) (w : World) (hsz : s.size ≤ 9223372036854775807) :
    Calls Tryd.prog 51 #[.agg #[.int .i64 k, .int .i64 o, .string s, .int .i64 v, .slice a n c]] w fun x w' => x = .returned (.int .i64 (prP k o s v n)) ∧ Below w.heap.size w w' := by
  have HB0 := Lib.hid ((Below.refl w.heap.size w).alloc (Nat.le_refl _) (.cells #[.int .i64 k, .int .i64 o, .string s, .int .i64 v, .slice a n c] TX))
  have HN := Lib.hid (checkNumber_any k o s v n c a (w.alloc (.cells #[.int .i64 k, .int .i64 o, .string s, .int .i64 v, .slice a n c] TX)))
  have HA := Lib.hid (checkNameExpr_any k o s v n c a (w.alloc (.cells #[.int .i64 k, .int .i64 o, .string s, .int .i64 v, .slice a n c] TX)) hsz)
  have HO1 := Lib.hid (checkOperation_any k o s v n c 1 1 2 a (w.alloc (.cells #[.int .i64 k, .int .i64 o, .string s, .int .i64 v, .slice a n c] TX)))
  have HO2 := Lib.hid (checkOperation_any k o s v n c 2 3 15 a (w.alloc (.cells #[.int .i64 k, .int .i64 o, .string s, .int .i64 v, .slice a n c] TX)))
  have HQ := Lib.hid (prP_eq k o s v n)
  rw [HQ.out]
  by_cases k1 : k = 1
  · obtain ⟨e1, f1⟩ := ieq k1
    simp only [if_pos k1]
    clear k1
    go_enter Tryd.func51, Tryd.ntmps51
    go_wp2_with fail
    refine HN.out.mono ?_
    rintro x w4 ⟨rfl, b4⟩
    have HB4 := Lib.hid (HB0.out.trans (b4.mono HB0.out.size))
    clear b4
    go_wp2
    go_ret
    exact ⟨rfl, HB4.out⟩
  obtain ⟨e1, f1⟩ := ine k1
  by_cases k2 : k = 2
  · obtain ⟨e2, f2⟩ := ieq k2
    simp only [if_neg k1, if_pos k2]
    clear k1 k2
    go_enter Tryd.func51, Tryd.ntmps51
    go_wp2_with fail
    refine HA.out.mono ?_
    rintro x w4 ⟨rfl, b4⟩
    have HB4 := Lib.hid (HB0.out.trans (b4.mono HB0.out.size))
    clear b4
    go_wp2
    go_ret
    exact ⟨rfl, HB4.out⟩
  obtain ⟨e2, f2⟩ := ine k2
  by_cases k3 : k = 3
  · obtain ⟨e3, f3⟩ := ieq k3
    simp only [if_neg k1, if_neg k2, if_pos k3]
    clear k1 k2 k3
    go_enter Tryd.func51, Tryd.ntmps51
    go_wp2_with fail
    refine HO1.out.mono ?_
    rintro x w4 ⟨rfl, b4⟩
    have HB4 := Lib.hid (HB0.out.trans (b4.mono HB0.out.size))
    clear b4
    go_wp2
    go_ret
    exact ⟨rfl, HB4.out⟩
  obtain ⟨e3, f3⟩ := ine k3
  by_cases k4 : k = 4
  · obtain ⟨e4, f4⟩ := ieq k4
    simp only [if_neg k1, if_neg k2, if_neg k3, if_pos k4]
    clear k1 k2 k3 k4
    go_enter Tryd.func51, Tryd.ntmps51
    go_wp2_with fail
    refine HO2.out.mono ?_
    rintro x w4 ⟨rfl, b4⟩
    have HB4 := Lib.hid (HB0.out.trans (b4.mono HB0.out.size))
    clear b4
    go_wp2
    go_ret
    exact ⟨rfl, HB4.out⟩
  obtain ⟨e4, f4⟩ := ine k4
  simp only [if_neg k1, if_neg k2, if_neg k3, if_neg k4]
  clear k1 k2 k3 k4
  go_enter Tryd.func51, Tryd.ntmps51
  go_wp2
  go_ret
  exact ⟨rfl, HB0.out⟩


end Go.Proofs.YtdgphhdkeikbaaaDoor

/-! ### ExCheck: What the program's Check returns. -/
namespace Go.Proofs.YtdgphhdkeikbaaaDoor
set_option linter.unusedSimpArgs false
set_option linter.unusedVariables false
open Go.RowKit Go.Shelf
attribute [local go_sem] Oper.semAt_some

def dmK (m : Nat) (ks : List Key) : Nat := ks.foldl (fun m k => max m k.2.2.2.2.2) m
def keP (k : Key) : Int := prP k.1 k.2.1 k.2.2.1 k.2.2.2.1 k.2.2.2.2.1
def feK (x : Int) (ks : List Key) : Int := ks.foldl (fun x k => if x = 0 then keP k else x) x
theorem dmK_app (m : Nat) (a b : List Key) : dmK m (a ++ b) = dmK (dmK m a) b := by simp [dmK]
theorem feK_app (x : Int) (a b : List Key) : feK x (a ++ b) = feK (feK x a) b := by simp [feK]
mutual
theorem dmK_pp (d : Nat) : ∀ (e : Ex) (m : Nat), dmK m (ppK (d + 1) e) = max m (d + dpE e)
  | .mk k o s v es, m => by
    have h := dmK_ppL (d + 1) es (max m (d + 1))
    have e1 : dmK m (ppK (d + 1) (.mk k o s v es)) = dmK (max m (d + 1)) (ppKL (d + 1 + 1) es) := rfl
    rw [e1, h]
    simp only [dpE]
    by_cases he : es = []
    · subst he; simp [dpL]
    · rw [if_neg he]
      have : 1 ≤ dpL es := by
        cases es with
        | nil => exact absurd rfl he
        | cons a r => have := dpE_pos a; simp only [dpL]; omega
      omega
theorem dmK_ppL (d : Nat) : ∀ (es : List Ex) (m : Nat), dmK m (ppKL (d + 1) es) = if es = [] then m else max m (d + dpL es)
  | [], m => rfl
  | a :: r, m => by
    simp only [ppKL]
    rw [dmK_app, dmK_pp d a m, dmK_ppL d r]
    simp only [dpL]
    have := dpE_pos a
    cases r with
    | nil => simp [dpL]
    | cons b r =>
      simp only [reduceCtorEq, if_false]
      omega
end
mutual
theorem feK_pp (d : Nat) : ∀ (e : Ex) (x : Int), feK x (ppK d e) = if x = 0 then prE e else x
  | .mk k o s v es, x => by
    have h := feK_ppL (d + 1) es (if x = 0 then prP k o s v es.length else x)
    have e1 : feK x (ppK d (.mk k o s v es)) = feK (if x = 0 then prP k o s v es.length else x) (ppKL (d + 1) es) := rfl
    rw [e1, h]
    simp only [prE]
    by_cases hx : x = 0
    · by_cases hp : prP k o s v es.length = 0 <;> simp [hx, hp]
    · simp [hx]
theorem feK_ppL (d : Nat) : ∀ (es : List Ex) (x : Int), feK x (ppKL d es) = if x = 0 then prL es else x
  | [], x => by by_cases hx : x = 0 <;> simp [ppKL, feK, prL, hx]
  | a :: r, x => by
    simp only [ppKL]
    rw [feK_app, feK_pp d a x, feK_ppL d r]
    simp only [prL]
    by_cases hx : x = 0
    · by_cases hp : prE a = 0 <;> simp [hx, hp]
    · simp [hx]
end
def keysP (pre : List Pt) : List Key := pre.map Pt.key
def fC (i : Nat) (pre : List Pt) : Int := match i with
  | 0 => (pre.length : Int)
  | 1 => (dmK 0 (keysP pre) : Nat)
  | _ => feK 0 (keysP pre)
abbrev TEr : TypeId := 27
def tC (i : Nat) : TypeId := match i with
  | 0 => 3
  | 1 => 3
  | _ => TEr
theorem fC_dm (pre : List Pt) (x : Pt) : fC 1 (pre ++ [x]) = max (fC 1 pre) (x.d : Int) := by
  simp only [fC, keysP, List.map_append, dmK_app]
  simp only [List.map_cons, List.map_nil, dmK, List.foldl_cons, List.foldl_nil, Pt.key]
  omega
theorem fC_fe (pre : List Pt) (x : Pt) : fC 2 (pre ++ [x]) = if fC 2 pre = 0 then prP x.k x.o x.s x.v x.n else fC 2 pre := by
  simp only [fC, keysP, List.map_append, feK_app]
  rfl

set_option maxRecDepth 100000 in
set_option maxHeartbeats 8000000 in
theorem check_any (e : Ex) (sl : Value) (w : World) (hK : KX w e sl) (hf : fitE e) :
    Calls Tryd.prog 34 #[exV e sl] w fun x w' => x = .returned (.int .i64 (ckE e)) ∧ Below w.heap.size w w' := by
  obtain ⟨w1, hw1⟩ : ∃ X, (((w.alloc (.cells #[.int .i64 e.k, .int .i64 e.o, .string e.s, .int .i64 e.v, sl] TX)).alloc (.cells #[.int .i64 0] 3)).alloc (.cells #[.int .i64 0] 3)).alloc (.cells #[.int .i64 0] TEr) = X := ⟨_, rfl⟩
  have hb1 : Below w.heap.size w w1 := by rw [← hw1]; exact ((((Below.refl _ w).alloc (Nat.le_refl _) _).alloc (by simp) _).alloc (by simp; omega) _).alloc (by simp; omega) _
  have hs1 : w1.heap.size = w.heap.size + 4 := by rw [← hw1]; simp
  have hx1 : AtX w1 w.heap.size 0 e sl := by
    rw [← hw1]
    exact ((((boxX w e.k e.o e.s e.v sl e.es).keep (Below.heap_alloc _ _ _ (by simp))).keep (Below.heap_alloc _ _ _ (by simp; omega))).keep (Below.heap_alloc _ _ _ (by simp; omega)))
  have hE1 : ∀ i, i < 3 → w1.heap[w.heap.size + 1 + i]? = some (.cells #[.int .i64 0] (tC i)) := by
    intro i hi
    rw [← hw1]
    have a0 := World.alloc_heap_new (w.alloc (.cells #[.int .i64 e.k, .int .i64 e.o, .string e.s, .int .i64 e.v, sl] TX)) (.cells #[.int .i64 0] 3)
    have a1 := World.alloc_heap_new ((w.alloc (.cells #[.int .i64 e.k, .int .i64 e.o, .string e.s, .int .i64 e.v, sl] TX)).alloc (.cells #[.int .i64 0] 3)) (.cells #[.int .i64 0] 3)
    have a2 := World.alloc_heap_new (((w.alloc (.cells #[.int .i64 e.k, .int .i64 e.o, .string e.s, .int .i64 e.v, sl] TX)).alloc (.cells #[.int .i64 0] 3)).alloc (.cells #[.int .i64 0] 3)) (.cells #[.int .i64 0] TEr)
    simp only [World.size_alloc] at a0 a1 a2
    match i, hi with
    | 0, _ =>
      rw [Below.heap_alloc _ _ _ (by first | (simp; done) | (simp; omega)), Below.heap_alloc _ _ _ (by simp)]
      exact a0
    | 1, _ =>
      rw [Below.heap_alloc _ _ _ (by simp)]
      exact a1
    | 2, _ => exact a2
  have HP := Lib.hid (parts_any e sl w1)
  have HW := Lib.hid hw1
  obtain ⟨x0, x1, x2, x3, x4⟩ := hx1
  have HE1 := Lib.hid hE1
  have HS1 := Lib.hid hs1
  rw [← hw1] at x0 x1 x2 x3 x4
  simp only [exV] at HP ⊢
  clear hw1 hE1 hs1
  refine (callsIn_wide (n := 9)).1 ?_
  refine callsIn_of_wp_marks Tryd.func34 rfl trivial ?_ rfl
  simp only [Tryd.ntmps34, List.size_toArray, List.length_cons, List.length_nil, Nat.reduceAdd, Nat.reduceSub, Array.replicate_succ, Array.replicate_zero, List.push_toArray, List.append_toArray, List.nil_append, List.cons_append]
  gi_wp2_with fail
  rw [HW.out]
  refine ⟨trivial, ?_⟩
  refine (callsIn_wide.2 HP.out).mono ?_
  rintro x w2 ⟨rfl, hw2⟩
  have hs1 := HS1.out
  have hb2 : Below w1.heap.size w1 w2 := by rw [hw2]; exact (Below.refl _ _).alloc (Nat.le_refl _) _
  have hs2 : w2.heap.size = w.heap.size + 5 := by rw [hw2]; simp [hs1]
  have hX : AtX w2 (w.heap.size + 4) 0 e sl := by rw [hw2, ← hs1]; exact boxX w1 e.k e.o e.s e.v sl e.es
  have hbw : Below w.heap.size w w2 := hb1.trans (hb2.mono hb1.size)
  have hK2 : KA (fun b => b < w.heap.size) w2 e.es sl := KA.keep hK hbw.size (fun b h1 _ => ⟨h1, hbw.block b h1⟩)
  have HI0 : Hid (BxI w (w.heap.size + 1) 3 fC tC (fun b => w.heap.size + 1 ≤ b ∧ b < w.heap.size + 1 + 3) [] w2) := Lib.hid ⟨hbw, by omega, fun i hi => by
    rw [hb2.block _ (by omega), HE1.out i hi]
    match i, hi with
    | 0, _ => rfl
    | 1, _ => rfl
    | 2, _ => rfl, fun b => Iff.rfl⟩
  have HX := Lib.hid hX
  have HK2 := Lib.hid hK2
  have HF := Lib.hid hf
  have HS2 := Lib.hid hs2
  rw [hs1]
  clear hX hK2 hbw hb1 hb2 hw2 hK hf x0 x1 x2 x3 x4 HP hs1
  gi_wp2_with fail
  refine wpIn_range_pt (w := w2) (gf := 69) (lb := #[ptrV (w.heap.size + 4)]) (X := fun xs => xs.map Pt.key = (ppK 1 e).take 101) rfl (enters_of Tryd.func69 (by kernel_rfl) rfl)
    (fun b => w.heap.size + 1 ≤ b ∧ b < w.heap.size + 1 + 3) (BxI w (w.heap.size + 1) 3 fC tC)
    (fun Φ pre A B h k => h.own k (by omega)) (fun Φ pre A B r o h hg ho hc hr => h.turn hg ho hc (by omega)) (fun Φ pre A h => h.cells) HI0.out
    (fun J W1 hC g1 s1 hJ => (iter_any hC e sl _ W1 (HX.out.keep (g1.block _ HX.out.lt (by simp))) (HK2.out.keep g1.size (fun b h1 h2 => ⟨h2, g1.block b h1 (by simp)⟩)) HF.out hJ (fun b hb => by omega) (by omega) (by omega)).mono (fun e' W' h => h))
    (fun x n => { tmps := #[.agg #[.int .i64 e.k, .int .i64 e.o, .string e.s, .int .i64 e.v, sl], .pointer (some ⟨w.heap.size, 0, none⟩), .int .i64 0, .pointer (some ⟨w.heap.size + 1, 0, none⟩), .pointer (some ⟨w.heap.size + 2, 0, none⟩), .pointer (some ⟨w.heap.size + 3, 0, none⟩), .pointer (some ⟨n, 0, none⟩), .int .i64 (x.d : Int), .agg #[.int .i64 e.k, .int .i64 e.o, .string e.s, .int .i64 e.v, sl], .func (.func 69) #[] #[ptrV (w.heap.size + 4)], ptV x, .int .i64 (x.d : Int), undef, undef, undef, undef, undef, undef, undef, undef, undef, undef, undef, undef, undef, undef], defers := [] }) (fun x W => W.alloc (.cells #[.int .i64 x.k, .int .i64 x.o, .string x.s, .int .i64 x.v, .slice x.a x.n x.c] TX))
    (fun x n W => W.heap[n]? = some (.cells #[.int .i64 x.k, .int .i64 x.o, .string x.s, .int .i64 x.v, .slice x.a x.n x.c] TX)) (fun x W => (Below.refl _ _).alloc (Nat.le_refl _) _) (fun x W => World.alloc_heap_new W _)
    (fun x n A B r o h hg ho hc => (hg.block _ (lt_of_heap h) (fun e => by cases e; rw [h] at ho; cases ho; simp [Obj.isCells] at hc)).trans h) ?assign ?body ?done
  case assign =>
    intro l x W K hK
    unfold ptV
    gi_wp2
    exact hK
  case body =>
    intro l Φ pre x M n W hI hbp hM hsz hlen
    have h0 := hI.e 0 (by omega)
    have h1 := hI.e 1 (by omega)
    have h2 := hI.e 2 (by omega)
    simp only [Nat.add_zero, tC, Nat.add_assoc, Nat.reduceAdd] at h0 h1 h2
    have e0 : fC 0 pre = (pre.length : Int) := rfl
    have E1 := Lib.hid (fC_dm pre x)
    have E2 := Lib.hid (fC_fe pre x)
    rw [e0] at h0
    obtain ⟨m, hm⟩ : ∃ m, fC 1 pre = m := ⟨_, rfl⟩
    obtain ⟨q, hq⟩ : ∃ q, fC 2 pre = q := ⟨_, rfl⟩
    rw [hm] at h1 E1
    rw [hq] at h2 E2
    have hnE : ∀ i, i < 3 → n ≠ w.heap.size + 1 + i := fun i hi e => by
      have := hI.e i hi
      rw [← e, hbp] at this
      injection this with this
      injection this with t1 t2
      simp at t1
    obtain ⟨n0, g0⟩ := setBox (v := .int .i64 ((pre.length : Int) + 1)) h0
    have c0 := box_cell h0
    have z0 : W.frozen? ⟨w.heap.size + 1, 0, none⟩ = false := by rw [Lib.frozen_of_heap h0]
    have h1' := (g0.block _ (lt_of_heap h1) (by simp)).trans h1
    have h2' := (g0.block _ (lt_of_heap h2) (by simp)).trans h2
    have hb' := (g0.block _ (lt_of_heap hbp) (by have := hnE 0 (by omega); simp; omega)).trans hbp
    have c1 := box_cell h1'
    have z1 : (W.setCell ⟨w.heap.size + 1, 0, none⟩ (.int .i64 ((pre.length : Int) + 1))).frozen? ⟨w.heap.size + 2, 0, none⟩ = false := by rw [Lib.frozen_of_heap h1']
    have hko1 := keepsOthers_row g0 h0
    have hfr1 : Fr (w2.heap.size + 2) M Φ Φ none W (W.setCell ⟨w.heap.size + 1, 0, none⟩ (.int .i64 ((pre.length : Int) + 1))) := Fr.inΦ g0 ((hI.phi _).2 (by omega))
    rcases Int.lt_trichotomy m (x.d : Int) with hmd | hmd | hmd
    · skip
      obtain ⟨n1, g1⟩ := setBox (v := .int .i64 ((x.d : Int))) h1'
      have n0' := (g1.block _ (lt_of_heap n0) (by simp)).trans n0
      have h2'' := (g1.block _ (lt_of_heap h2') (by simp)).trans h2'
      have hb'' := (g1.block _ (lt_of_heap hb') (by have := hnE 1 (by omega); simp; omega)).trans hb'
      have hko2 := KeepsOthers.trans' hko1 (keepsOthers_row g1 h1')
      have hfr2 := hfr1.trans (Fr.inΦ (B0 := w2.heap.size + 2) (M := M) (Φ := Φ) (go := none) g1 ((hI.phi _).2 (by omega)))
      have hbl2 : Below w.heap.size w (((W.setCell ⟨w.heap.size + 1, 0, none⟩ (.int .i64 ((pre.length : Int) + 1)))).setCell ⟨w.heap.size + 2, 0, none⟩ (.int .i64 ((x.d : Int)))) := (hI.below.grown g0 (by have := hI.below.size; omega) (fun b e => by cases e; omega)).grown g1 (by have := hI.below.size; have := g0.size; omega) (fun b e => by cases e; omega)
      have hFm : fC 1 (pre ++ [x]) = (x.d : Int) := by rw [E1.out]; omega
      have c2 := box_cell h2''
      obtain ⟨b0, b1, b2, b3, b4⟩ : AtX (((W.setCell ⟨w.heap.size + 1, 0, none⟩ (.int .i64 ((pre.length : Int) + 1)))).setCell ⟨w.heap.size + 2, 0, none⟩ (.int .i64 ((x.d : Int)))) n 0 (.mk x.k x.o x.s x.v []) (.slice x.a x.n x.c) := by
        refine ⟨?_, ?_, ?_, ?_, ?_⟩ <;> rw [Lib.cell_of_heap hb''] <;> rfl
      simp only [Ex.k, Ex.o, Ex.s, Ex.v] at b0 b1 b2 b3 b4
      obtain ⟨W2, hW2⟩ : ∃ X, ((W.setCell ⟨w.heap.size + 1, 0, none⟩ (.int .i64 ((pre.length : Int) + 1)))).setCell ⟨w.heap.size + 2, 0, none⟩ (.int .i64 ((x.d : Int))) = X := ⟨_, rfl⟩
      have HC := Lib.hid (checkPart_any x.k x.o x.s x.v x.n x.c x.a W2 x.fit)
      have HW2 := Lib.hid hW2
      have HKO := Lib.hid (hW2 ▸ hko2)
      have HFR := Lib.hid (hW2 ▸ hfr2)
      have HBL := Lib.hid (hW2 ▸ hbl2)
      have HN0 := Lib.hid (hW2 ▸ n0')
      have HN1 := Lib.hid (hW2 ▸ n1)
      have HN2 := Lib.hid (hW2 ▸ h2'')
      have HFM := Lib.hid hFm
      have HI := Lib.hid hI
      have z2 : W2.frozen? ⟨w.heap.size + 3, 0, none⟩ = false := by rw [Lib.frozen_of_heap HN2.out]
      clear hW2 hko2 hfr2 hbl2 n0' n1 h2'' hb'' hb' h2' hnE hI h0 h1 h2 hko1 hfr1 g0 g1 n0 h1' hbp hFm
      by_cases hq0 : q = 0
      · obtain ⟨q1, q2⟩ := ieq hq0
        have HE2 : Hid (fC 2 (pre ++ [x]) = prP x.k x.o x.s x.v x.n) := Lib.hid (by rw [E2.out, if_pos hq0])
        clear hq0 z2
        gi_wp2_with fail
        rw [HW2.out]
        refine ⟨trivial, ?_⟩
        refine (CallsIn.inRound l (callsIn_wide.2 HC.out)).mono ?_
        rintro e4 w4 ⟨rfl, b4'⟩
        have N0 := (b4'.block _ (lt_of_heap HN0.out)).trans HN0.out
        have N1 := (b4'.block _ (lt_of_heap HN1.out)).trans HN1.out
        have N2 := (b4'.block _ (lt_of_heap HN2.out)).trans HN2.out
        have z3 : w4.frozen? ⟨w.heap.size + 3, 0, none⟩ = false := by rw [Lib.frozen_of_heap N2]
        have cc := box_cell N2
        obtain ⟨N3, g3⟩ := setBox (v := .int .i64 (prP x.k x.o x.s x.v x.n)) N2
        have N0' := (g3.block _ (lt_of_heap N0) (by simp)).trans N0
        have N1' := (g3.block _ (lt_of_heap N1) (by simp)).trans N1
        have HR : Hid (ptPost (w2.heap.size + 2) M (BxI w (w.heap.size + 1) 3 fC tC) Φ (pre ++ [x]) W .normal { tmps := #[], defers := [] } (w4.setCell ⟨w.heap.size + 3, 0, none⟩ (.int .i64 (prP x.k x.o x.s x.v x.n)))) := Lib.hid (by
          refine ⟨KeepsOthers.trans' (KeepsOthers.trans' HKO.out (keepsOthers_below b4')) (keepsOthers_row g3 N2), Φ, (HFR.out.trans (Fr.below b4')).trans (Fr.inΦ g3 ((HI.out.phi _).2 (by omega))), ⟨(HBL.out.trans (b4'.mono HBL.out.size)).grown g3 (by have := HBL.out.size; have := b4'.size; omega) (fun b e => by cases e; omega), HI.out.hE, fun i hi => ?_, HI.out.phi⟩⟩
          match i, hi with
          | 0, _ => rw [show fC 0 (pre ++ [x]) = (pre.length : Int) + 1 by simp [fC]]; exact N0'
          | 1, _ => rw [HFM.out]; exact N1'
          | 2, _ => rw [HE2.out]; exact N3)
        clear b4' N0 N1 N2 N3 g3 N0' N1'
        gi_wp2
        exact HR.out
      · obtain ⟨q1, q2⟩ := ine hq0
        have HE2 : Hid (fC 2 (pre ++ [x]) = q) := Lib.hid (by rw [E2.out, if_neg hq0])
        have HR : Hid (ptPost (w2.heap.size + 2) M (BxI w (w.heap.size + 1) 3 fC tC) Φ (pre ++ [x]) W .normal { tmps := #[], defers := [] } W2) := Lib.hid (by
          refine ⟨HKO.out, Φ, HFR.out, ⟨HBL.out, HI.out.hE, fun i hi => ?_, HI.out.phi⟩⟩
          match i, hi with
          | 0, _ => rw [show fC 0 (pre ++ [x]) = (pre.length : Int) + 1 by simp [fC]]; exact HN0.out
          | 1, _ => rw [HFM.out]; exact HN1.out
          | 2, _ => rw [HE2.out]; exact HN2.out)
        clear hq0 z2
        gi_wp2
        rw [HW2.out]
        exact HR.out
    · subst hmd
      obtain ⟨n1, g1⟩ := setBox (v := .int .i64 ((x.d : Int))) h1'
      have n0' := (g1.block _ (lt_of_heap n0) (by simp)).trans n0
      have h2'' := (g1.block _ (lt_of_heap h2') (by simp)).trans h2'
      have hb'' := (g1.block _ (lt_of_heap hb') (by have := hnE 1 (by omega); simp; omega)).trans hb'
      have hko2 := KeepsOthers.trans' hko1 (keepsOthers_row g1 h1')
      have hfr2 := hfr1.trans (Fr.inΦ (B0 := w2.heap.size + 2) (M := M) (Φ := Φ) (go := none) g1 ((hI.phi _).2 (by omega)))
      have hbl2 : Below w.heap.size w (((W.setCell ⟨w.heap.size + 1, 0, none⟩ (.int .i64 ((pre.length : Int) + 1)))).setCell ⟨w.heap.size + 2, 0, none⟩ (.int .i64 ((x.d : Int)))) := (hI.below.grown g0 (by have := hI.below.size; omega) (fun b e => by cases e; omega)).grown g1 (by have := hI.below.size; have := g0.size; omega) (fun b e => by cases e; omega)
      have hFm : fC 1 (pre ++ [x]) = (x.d : Int) := by rw [E1.out]; omega
      have c2 := box_cell h2''
      obtain ⟨b0, b1, b2, b3, b4⟩ : AtX (((W.setCell ⟨w.heap.size + 1, 0, none⟩ (.int .i64 ((pre.length : Int) + 1)))).setCell ⟨w.heap.size + 2, 0, none⟩ (.int .i64 ((x.d : Int)))) n 0 (.mk x.k x.o x.s x.v []) (.slice x.a x.n x.c) := by
        refine ⟨?_, ?_, ?_, ?_, ?_⟩ <;> rw [Lib.cell_of_heap hb''] <;> rfl
      simp only [Ex.k, Ex.o, Ex.s, Ex.v] at b0 b1 b2 b3 b4
      obtain ⟨W2, hW2⟩ : ∃ X, ((W.setCell ⟨w.heap.size + 1, 0, none⟩ (.int .i64 ((pre.length : Int) + 1)))).setCell ⟨w.heap.size + 2, 0, none⟩ (.int .i64 ((x.d : Int))) = X := ⟨_, rfl⟩
      have HC := Lib.hid (checkPart_any x.k x.o x.s x.v x.n x.c x.a W2 x.fit)
      have HW2 := Lib.hid hW2
      have HKO := Lib.hid (hW2 ▸ hko2)
      have HFR := Lib.hid (hW2 ▸ hfr2)
      have HBL := Lib.hid (hW2 ▸ hbl2)
      have HN0 := Lib.hid (hW2 ▸ n0')
      have HN1 := Lib.hid (hW2 ▸ n1)
      have HN2 := Lib.hid (hW2 ▸ h2'')
      have HFM := Lib.hid hFm
      have HI := Lib.hid hI
      have z2 : W2.frozen? ⟨w.heap.size + 3, 0, none⟩ = false := by rw [Lib.frozen_of_heap HN2.out]
      clear hW2 hko2 hfr2 hbl2 n0' n1 h2'' hb'' hb' h2' hnE hI h0 h1 h2 hko1 hfr1 g0 g1 n0 h1' hbp hFm
      by_cases hq0 : q = 0
      · obtain ⟨q1, q2⟩ := ieq hq0
        have HE2 : Hid (fC 2 (pre ++ [x]) = prP x.k x.o x.s x.v x.n) := Lib.hid (by rw [E2.out, if_pos hq0])
        clear hq0 z2
        gi_wp2_with fail
        rw [HW2.out]
        refine ⟨trivial, ?_⟩
        refine (CallsIn.inRound l (callsIn_wide.2 HC.out)).mono ?_
        rintro e4 w4 ⟨rfl, b4'⟩
        have N0 := (b4'.block _ (lt_of_heap HN0.out)).trans HN0.out
        have N1 := (b4'.block _ (lt_of_heap HN1.out)).trans HN1.out
        have N2 := (b4'.block _ (lt_of_heap HN2.out)).trans HN2.out
        have z3 : w4.frozen? ⟨w.heap.size + 3, 0, none⟩ = false := by rw [Lib.frozen_of_heap N2]
        have cc := box_cell N2
        obtain ⟨N3, g3⟩ := setBox (v := .int .i64 (prP x.k x.o x.s x.v x.n)) N2
        have N0' := (g3.block _ (lt_of_heap N0) (by simp)).trans N0
        have N1' := (g3.block _ (lt_of_heap N1) (by simp)).trans N1
        have HR : Hid (ptPost (w2.heap.size + 2) M (BxI w (w.heap.size + 1) 3 fC tC) Φ (pre ++ [x]) W .normal { tmps := #[], defers := [] } (w4.setCell ⟨w.heap.size + 3, 0, none⟩ (.int .i64 (prP x.k x.o x.s x.v x.n)))) := Lib.hid (by
          refine ⟨KeepsOthers.trans' (KeepsOthers.trans' HKO.out (keepsOthers_below b4')) (keepsOthers_row g3 N2), Φ, (HFR.out.trans (Fr.below b4')).trans (Fr.inΦ g3 ((HI.out.phi _).2 (by omega))), ⟨(HBL.out.trans (b4'.mono HBL.out.size)).grown g3 (by have := HBL.out.size; have := b4'.size; omega) (fun b e => by cases e; omega), HI.out.hE, fun i hi => ?_, HI.out.phi⟩⟩
          match i, hi with
          | 0, _ => rw [show fC 0 (pre ++ [x]) = (pre.length : Int) + 1 by simp [fC]]; exact N0'
          | 1, _ => rw [HFM.out]; exact N1'
          | 2, _ => rw [HE2.out]; exact N3)
        clear b4' N0 N1 N2 N3 g3 N0' N1'
        gi_wp2
        exact HR.out
      · obtain ⟨q1, q2⟩ := ine hq0
        have HE2 : Hid (fC 2 (pre ++ [x]) = q) := Lib.hid (by rw [E2.out, if_neg hq0])
        have HR : Hid (ptPost (w2.heap.size + 2) M (BxI w (w.heap.size + 1) 3 fC tC) Φ (pre ++ [x]) W .normal { tmps := #[], defers := [] } W2) := Lib.hid (by
          refine ⟨HKO.out, Φ, HFR.out, ⟨HBL.out, HI.out.hE, fun i hi => ?_, HI.out.phi⟩⟩
          match i, hi with
          | 0, _ => rw [show fC 0 (pre ++ [x]) = (pre.length : Int) + 1 by simp [fC]]; exact HN0.out
          | 1, _ => rw [HFM.out]; exact HN1.out
          | 2, _ => rw [HE2.out]; exact HN2.out)
        clear hq0 z2
        gi_wp2
        rw [HW2.out]
        exact HR.out
    · skip
      obtain ⟨n1, g1⟩ := setBox (v := .int .i64 (m)) h1'
      have n0' := (g1.block _ (lt_of_heap n0) (by simp)).trans n0
      have h2'' := (g1.block _ (lt_of_heap h2') (by simp)).trans h2'
      have hb'' := (g1.block _ (lt_of_heap hb') (by have := hnE 1 (by omega); simp; omega)).trans hb'
      have hko2 := KeepsOthers.trans' hko1 (keepsOthers_row g1 h1')
      have hfr2 := hfr1.trans (Fr.inΦ (B0 := w2.heap.size + 2) (M := M) (Φ := Φ) (go := none) g1 ((hI.phi _).2 (by omega)))
      have hbl2 : Below w.heap.size w (((W.setCell ⟨w.heap.size + 1, 0, none⟩ (.int .i64 ((pre.length : Int) + 1)))).setCell ⟨w.heap.size + 2, 0, none⟩ (.int .i64 (m))) := (hI.below.grown g0 (by have := hI.below.size; omega) (fun b e => by cases e; omega)).grown g1 (by have := hI.below.size; have := g0.size; omega) (fun b e => by cases e; omega)
      have hFm : fC 1 (pre ++ [x]) = m := by rw [E1.out]; omega
      have c2 := box_cell h2''
      obtain ⟨b0, b1, b2, b3, b4⟩ : AtX (((W.setCell ⟨w.heap.size + 1, 0, none⟩ (.int .i64 ((pre.length : Int) + 1)))).setCell ⟨w.heap.size + 2, 0, none⟩ (.int .i64 (m))) n 0 (.mk x.k x.o x.s x.v []) (.slice x.a x.n x.c) := by
        refine ⟨?_, ?_, ?_, ?_, ?_⟩ <;> rw [Lib.cell_of_heap hb''] <;> rfl
      simp only [Ex.k, Ex.o, Ex.s, Ex.v] at b0 b1 b2 b3 b4
      obtain ⟨W2, hW2⟩ : ∃ X, ((W.setCell ⟨w.heap.size + 1, 0, none⟩ (.int .i64 ((pre.length : Int) + 1)))).setCell ⟨w.heap.size + 2, 0, none⟩ (.int .i64 (m)) = X := ⟨_, rfl⟩
      have HC := Lib.hid (checkPart_any x.k x.o x.s x.v x.n x.c x.a W2 x.fit)
      have HW2 := Lib.hid hW2
      have HKO := Lib.hid (hW2 ▸ hko2)
      have HFR := Lib.hid (hW2 ▸ hfr2)
      have HBL := Lib.hid (hW2 ▸ hbl2)
      have HN0 := Lib.hid (hW2 ▸ n0')
      have HN1 := Lib.hid (hW2 ▸ n1)
      have HN2 := Lib.hid (hW2 ▸ h2'')
      have HFM := Lib.hid hFm
      have HI := Lib.hid hI
      have z2 : W2.frozen? ⟨w.heap.size + 3, 0, none⟩ = false := by rw [Lib.frozen_of_heap HN2.out]
      clear hW2 hko2 hfr2 hbl2 n0' n1 h2'' hb'' hb' h2' hnE hI h0 h1 h2 hko1 hfr1 g0 g1 n0 h1' hbp hFm
      by_cases hq0 : q = 0
      · obtain ⟨q1, q2⟩ := ieq hq0
        have HE2 : Hid (fC 2 (pre ++ [x]) = prP x.k x.o x.s x.v x.n) := Lib.hid (by rw [E2.out, if_pos hq0])
        clear hq0 z2
        gi_wp2_with fail
        rw [HW2.out]
        refine ⟨trivial, ?_⟩
        refine (CallsIn.inRound l (callsIn_wide.2 HC.out)).mono ?_
        rintro e4 w4 ⟨rfl, b4'⟩
        have N0 := (b4'.block _ (lt_of_heap HN0.out)).trans HN0.out
        have N1 := (b4'.block _ (lt_of_heap HN1.out)).trans HN1.out
        have N2 := (b4'.block _ (lt_of_heap HN2.out)).trans HN2.out
        have z3 : w4.frozen? ⟨w.heap.size + 3, 0, none⟩ = false := by rw [Lib.frozen_of_heap N2]
        have cc := box_cell N2
        obtain ⟨N3, g3⟩ := setBox (v := .int .i64 (prP x.k x.o x.s x.v x.n)) N2
        have N0' := (g3.block _ (lt_of_heap N0) (by simp)).trans N0
        have N1' := (g3.block _ (lt_of_heap N1) (by simp)).trans N1
        have HR : Hid (ptPost (w2.heap.size + 2) M (BxI w (w.heap.size + 1) 3 fC tC) Φ (pre ++ [x]) W .normal { tmps := #[], defers := [] } (w4.setCell ⟨w.heap.size + 3, 0, none⟩ (.int .i64 (prP x.k x.o x.s x.v x.n)))) := Lib.hid (by
          refine ⟨KeepsOthers.trans' (KeepsOthers.trans' HKO.out (keepsOthers_below b4')) (keepsOthers_row g3 N2), Φ, (HFR.out.trans (Fr.below b4')).trans (Fr.inΦ g3 ((HI.out.phi _).2 (by omega))), ⟨(HBL.out.trans (b4'.mono HBL.out.size)).grown g3 (by have := HBL.out.size; have := b4'.size; omega) (fun b e => by cases e; omega), HI.out.hE, fun i hi => ?_, HI.out.phi⟩⟩
          match i, hi with
          | 0, _ => rw [show fC 0 (pre ++ [x]) = (pre.length : Int) + 1 by simp [fC]]; exact N0'
          | 1, _ => rw [HFM.out]; exact N1'
          | 2, _ => rw [HE2.out]; exact N3)
        clear b4' N0 N1 N2 N3 g3 N0' N1'
        gi_wp2
        exact HR.out
      · obtain ⟨q1, q2⟩ := ine hq0
        have HE2 : Hid (fC 2 (pre ++ [x]) = q) := Lib.hid (by rw [E2.out, if_neg hq0])
        have HR : Hid (ptPost (w2.heap.size + 2) M (BxI w (w.heap.size + 1) 3 fC tC) Φ (pre ++ [x]) W .normal { tmps := #[], defers := [] } W2) := Lib.hid (by
          refine ⟨HKO.out, Φ, HFR.out, ⟨HBL.out, HI.out.hE, fun i hi => ?_, HI.out.phi⟩⟩
          match i, hi with
          | 0, _ => rw [show fC 0 (pre ++ [x]) = (pre.length : Int) + 1 by simp [fC]]; exact HN0.out
          | 1, _ => rw [HFM.out]; exact HN1.out
          | 2, _ => rw [HE2.out]; exact HN2.out)
        clear hq0 z2
        gi_wp2
        rw [HW2.out]
        exact HR.out
  case done =>
    intro D Φ xs W hD hX hI hK
    have h0 := hI.e 0 (by omega)
    have h1 := hI.e 1 (by omega)
    have h2 := hI.e 2 (by omega)
    simp only [Nat.add_zero, tC, Nat.add_assoc, Nat.reduceAdd] at h0 h1 h2
    have e0 : fC 0 xs = (min (szE e) 101 : Nat) := by
      have := congrArg List.length hX
      rw [List.length_map, List.length_take, ppK_length] at this
      simp only [fC]
      omega
    have e12 : szE e ≤ 100 → fC 1 xs = (dpE e : Nat) ∧ fC 2 xs = prE e := fun h => by
      have hX2 : keysP xs = ppK 1 e := by unfold keysP; rw [hX, List.take_of_length_le (by rw [ppK_length]; omega)]
      constructor
      · simp only [fC]
        rw [hX2, dmK_pp 0 e 0]
        omega
      · simp only [fC]
        rw [hX2, feK_pp 1 e 0, if_pos rfl]
    rw [e0] at h0
    obtain ⟨m, hm⟩ : ∃ m, fC 1 xs = m := ⟨_, rfl⟩
    obtain ⟨q, hq⟩ : ∃ q, fC 2 xs = q := ⟨_, rfl⟩
    rw [hm] at h1 e12
    rw [hq] at h2 e12
    have c0 := box_cell h0
    have c1 := box_cell h1
    have c2 := box_cell h2
    obtain ⟨g, hg⟩ : ∃ g, min (szE e) 101 = g := ⟨_, rfl⟩
    rw [hg] at c0
    have HG := Lib.hid hg
    have HI := Lib.hid hI
    have HK := Lib.hid hK
    have HE12 := Lib.hid e12
    have gD := Lib.hid (grownBy_putObj' W D (.deferred none))
    clear hI h0 h1 h2 hX hK e12 hg e0 hm hq
    by_cases hg : 100 < g
    · have m1 : (100 : Int) < (g : Int) := by omega
      have HR : Hid (ckE e = 4) := Lib.hid (by have := HG.out; unfold ckE; rw [if_pos (by omega)])
      clear hg
      gi_wp2
      refine ⟨by simp, .inl ⟨_, _, rfl, run_takeDeferred HK.out, ?_⟩⟩
      exact ⟨_, results_tmp rfl _ _ _, by rw [HR.out]; rfl, (HI.out.turn gD.out HK.out rfl (by omega)).below⟩
    · have m1 : ¬ (100 : Int) < (g : Int) := by omega
      have hsz : szE e ≤ 100 := by have := HG.out; omega
      obtain ⟨e1, e2⟩ := HE12.out hsz
      have HSZ := Lib.hid hsz
      subst e1
      by_cases hd : 12 < dpE e
      · have m2 : (12 : Int) < (dpE e : Int) := by omega
        have HR : Hid (ckE e = 22) := Lib.hid (by unfold ckE; rw [if_neg (by omega), if_pos hd])
        clear hg hd hsz e2
        gi_wp2
        refine ⟨by simp, .inl ⟨_, _, rfl, run_takeDeferred HK.out, ?_⟩⟩
        exact ⟨_, results_tmp rfl _ _ _, by rw [HR.out]; rfl, (HI.out.turn gD.out HK.out rfl (by omega)).below⟩
      · have m2 : ¬ (12 : Int) < (dpE e : Int) := by omega
        have HR : Hid (ckE e = q) := Lib.hid (by unfold ckE; rw [if_neg (by omega), if_neg hd, e2])
        clear hg hd hsz e2
        gi_wp2
        refine ⟨by simp, .inl ⟨_, _, rfl, run_takeDeferred HK.out, ?_⟩⟩
        exact ⟨_, results_tmp rfl _ _ _, by rw [HR.out]; rfl, (HI.out.turn gD.out HK.out rfl (by omega)).below⟩

end Go.Proofs.YtdgphhdkeikbaaaDoor
