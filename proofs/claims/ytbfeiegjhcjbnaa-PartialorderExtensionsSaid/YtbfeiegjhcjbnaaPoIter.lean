/-
  The iterator over the linear extensions, and the law of a loop over it.
-/
import Derived.Test.YtbfeiegjhcjbnaaPoExt
namespace Go.Proofs.Ytbfeiegjhcjbnaa
open Go.RowKit Go.Shelf
attribute [local go_sem] Oper.semAt_some

set_option maxRecDepth 100000 in
set_option maxHeartbeats 8000000 in
theorem iter_any {B0 l A N Br : Nat} {g : Nat → Nat} {f : Nat → Nat → Bool} {J Jx : (Nat → Prop) → List (List Nat) → World → Prop} (hC : Coll B0 l J Jx) (hN : N ≤ 200) (hL : Low2 N f) (Φ : Nat → Prop) (w : World)
    (hr : w.heap[Br]? = some (.cells #[matV A N] 53 (0, 0))) (hm : MatK 0 A N N g f w) (nr : ¬ Φ Br) (na : ¬ Φ A) (ng : ∀ i, i < N → ¬ Φ (g i)) (hJ : J Φ [] w) (hB : B0 ≤ w.heap.size) :
    CallsIn Fence.wide 9 Try.prog 68 #[yieldV l, ptrV Br] w fun e w' => (∃ v, e = .returned v) ∧ ∃ Φ', J Φ' (extN N f N []) w' ∨ ∃ q, q <+: extN N f N [] ∧ q ≠ [] ∧ Jx Φ' q w' := by
  obtain ⟨w1, hw1⟩ : ∃ x, w.alloc (.cells #[yieldV l] 50) = x := ⟨_, rfl⟩
  have a1 := World.alloc_heap_new w (.cells #[yieldV l] 50)
  have s1 : w1.heap.size = w.heap.size + 1 := by rw [← hw1]; simp
  have g1 : w.grownBy w1 none := by rw [← hw1]; exact World.grownBy_alloc w _ none
  rw [hw1] at a1
  obtain ⟨w2, hw2⟩ : ∃ x, w1.alloc (.cells #[extV Br w.heap.size (w.heap.size + 1)] 35) = x := ⟨_, rfl⟩
  have a2 := World.alloc_heap_new w1 (.cells #[extV Br w.heap.size (w.heap.size + 1)] 35)
  have s2 : w2.heap.size = w.heap.size + 2 := by rw [← hw2]; simp [s1]
  have g2 : w1.grownBy w2 none := by rw [← hw2]; exact World.grownBy_alloc w1 _ none
  rw [hw2, s1] at a2
  have g12 : w.grownBy w2 none := grown_trans g1 g2
  have y1 : w2.heap[w.heap.size]? = some (.cells #[yieldV l] 50 (0, 0)) := (g2.block _ (by omega) (by simp)).trans a1
  have hcl := hC.cells _ _ _ hJ
  have hnew : ∀ b, w.heap.size ≤ b → ¬ Φ b := fun b hb hp => by obtain ⟨c', t', z', hc⟩ := hcl _ hp; have := lt_of_heap hc; omega
  have hE2 : Env Φ A N Br w.heap.size (w.heap.size + 1) l g f w2 := {
    r := (g12.block _ (lt_of_heap hr) (by simp)).trans hr
    y := y1
    e := a2
    m := hm.grown g12
    nr := nr
    ny := hnew _ (Nat.le_refl _)
    ne := hnew _ (by omega)
    na := na
    ng := ng }
  have hJ2 := hC.own _ _ _ _ hJ (Ab.grown g12 (fun r e => by cases e))
  have HE2 := Lib.hid hE2
  have HJ2 := Lib.hid hJ2
  have HNW := Lib.hid hnew
  have HEL := Lib.hid (elements_any 0 A N g f w2.drew (hE2.m.drew) hN)
  have c1 := box_cell hE2.r
  have c3 := box_cell hE2.e
  have s2' : w2.heap.size = w.heap.size + 1 + 1 := by omega
  clear hr hm nr na ng hJ a1 a2 g1 g2 g12 y1 hcl hnew hE2 hJ2 s2
  refine callsIn_of_wp Try.func68 rfl trivial ?_ rfl
  simp only [Try.ntmps68, List.size_toArray, List.length_cons, List.length_nil, Nat.reduceAdd, Nat.reduceSub, Array.replicate_succ, Array.replicate_zero, List.push_toArray, List.append_toArray, List.nil_append, List.cons_append]
  gi_wp2_with fail
  refine AnyS.calm (S := fun W' => W'.cell? ⟨w.heap.size + 1, 0, none⟩ = some (extV Br w.heap.size (w.heap.size + 1)) ∧ W'.cell? ⟨Br, 0, none⟩ = some (matV A N)) (by kernel_rfl) ?_
  refine AnyS.take (i := 0) (v := extV Br w.heap.size (w.heap.size + 1)) (open_wide 9 _) (by kernel_rfl) rfl (by kernel_rfl) (by kernel_rfl) (fun _ _ _ h => h) (Or.inl ⟨by rfl, ?_⟩) ⟨c3, c1⟩ ?_
  · rintro w' ⟨h1, h2⟩
    go_simp
  simp only [Act.put, List.setIfInBounds_toArray, List.set_cons_zero, List.set_cons_succ]
  refine AnyS.take (i := 1) (v := matV A N) (open_wide 9 _) (by kernel_rfl) rfl (by kernel_rfl) (by kernel_rfl) (fun _ _ _ h => h) (Or.inl ⟨by rfl, ?_⟩) ⟨c3, c1⟩ ?_
  · rintro w' ⟨h1, h2⟩
    go_simp
  simp only [Act.put, List.setIfInBounds_toArray, List.set_cons_zero, List.set_cons_succ]
  refine AnyS.next (i := 2) rfl (by kernel_rfl) ?_
  gi_wp2_with fail
  refine ⟨trivial, ?_⟩
  refine (callsIn_wide.2 HEL.out).mono ?_
  rintro e w3 ⟨G, rfl, hnm, b3⟩
  have b3' : Below w2.heap.size w2 w3 := ⟨b3.os, b3.tape, b3.output, b3.size, b3.block⟩
  have g3 : w2.grownBy w3 none := grownOf b3'
  have hF : Fr B0 w2.heap.size Φ Φ none w2 w3 := Fr.own g3 (fun r e => by cases e)
  have hE3 := HE2.out.fr hF (fun b e => by cases e)
  have hJ3 := hC.own _ _ _ _ HJ2.out (Ab.grown g3 (fun r e => by cases e))
  have hG := hnm.lt
  have hG2 : w2.heap.size ≤ G := hG.1
  have hs3 := g3.size
  have HX := Lib.hid (extend_any hC hN hL N [] (.slice none 0 0) none G N Φ [] w3 (by simp) (OrdP.nil N f) (.nil _) (fun b e => by cases e) (ownsRow_base (by have : w2.drew.heap.size = w2.heap.size := rfl; omega) hnm) (HNW.out G (by omega)) (by simp) hE3 hJ3 (by omega))
  have HE3 := Lib.hid hE3
  clear hE3 hJ3 hF g3 b3 b3' hnm hG
  gi_wp2
  refine ⟨⟨box_cell HE3.out.e, box_cell HE3.out.r⟩, ?_⟩
  refine AnyS.next (i := 3) rfl (by kernel_rfl) ?_
  gi_wp2_with fail
  refine ⟨trivial, ?_⟩
  refine (callsIn_wide.2 HX.out).mono ?_
  rintro e w4 ⟨Φ', k4, _, hres⟩
  have hE4 := HE3.out.fr k4 (fun b e => by cases e)
  have HE4 := Lib.hid hE4
  have HRES : Hid (∃ Φ', J Φ' (extN N f N []) w4 ∨ ∃ q, q <+: extN N f N [] ∧ q ≠ [] ∧ Jx Φ' q w4) := Lib.hid (by
    rcases hres with ⟨_, hj⟩ | ⟨_, q, h1, h2, hj⟩
    · exact ⟨Φ', .inl hj⟩
    · exact ⟨Φ', .inr ⟨q, h1, h2, hj⟩⟩)
  clear k4 hE4
  rcases hres with ⟨rfl, hj⟩ | ⟨rfl, q, h1, h2, hj⟩
  · clear hj
    gi_wp2
    refine ⟨⟨box_cell HE4.out.e, box_cell HE4.out.r⟩, ?_⟩
    refine AnyS.done (by kernel_rfl) ?_ _
    dsimp only [calmQ]
    gi_wp2
    go_end0
    exact ⟨⟨_, rfl⟩, HRES.out⟩
  · clear hj h1 h2
    gi_wp2
    refine ⟨⟨box_cell HE4.out.e, box_cell HE4.out.r⟩, ?_⟩
    refine AnyS.done (by kernel_rfl) ?_ _
    dsimp only [calmQ]
    gi_wp2
    go_end0
    exact ⟨⟨_, rfl⟩, HRES.out⟩

/-- extensions boxes the relation, and returns the iterator. -/
theorem extensions_any (A N : Nat) (w : World) :
    Calls Try.prog 60 #[matV A N] w fun e w' => e = .returned (.func (.func 68) #[] #[ptrV w.heap.size]) ∧ w' = w.alloc (.cells #[matV A N] 53) := by
  go_enter Try.func60, Try.ntmps60
  go_wp2
  go_ret
  exact ⟨rfl, rfl⟩

/-! ### The loop over the extensions -/

/-- The loop's record. -/
def recL (fn : FuncId) (tmps : Array Value) (p : Tmp) (assign body : Code) (K : Nat) (st : LoopState) (pe : Option Code) : Loop := { state := st, pending := pe, fn, tmps, params := #[p], assign, body, defers := K }
theorem Fr.turn {B0 M : Nat} {Φ : Nat → Prop} {go : Option Nat} {A B : World} {r : Nat} {o : Obj} (h : A.grownBy B (some r)) (ho : A.heap[r]? = some o) (hc : o.isCells = false) (hr : r < B0) : Fr B0 M Φ Φ go A B :=
  ⟨h.os, h.tape, h.output, h.size, fun b o' _ hb _ _ hc' => (h.block b (lt_of_heap hb) (fun e => by
    cases e
    rw [ho] at hb
    cases hb
    rcases hc' with h1 | h1
    · omega
    · rw [h1] at hc; cases hc)).trans hb, fun _ h => .inl h⟩
/-- How a round of the loop may be left. -/
def collPost (B0 M : Nat) (JJ : (Nat → Prop) → List (List Nat) → World → Prop) (JX : Code → (Nat → Prop) → List (List Nat) → World → Prop) (Φ : Nat → Prop) (xs : List (List Nat)) (W : World) : Exit → Act → World → Prop
  | .normal, _, W' => KeepsOthers W W' ∧ ∃ Φ', Fr B0 M Φ Φ' none W W' ∧ JJ Φ' xs W'
  | .exit id, _, W' => KeepsOthers W W' ∧ ∃ Φ', Fr B0 M Φ Φ' none W W' ∧ JX (.exit id) Φ' xs W'
  | _, _, _ => False

set_option maxHeartbeats 2000000 in
theorem wpIn_range_coll {n : Nat} {g : Operand} {p : Tmp} {assign body : Code} {Q : Exit → Act → World → Prop} {a : Act} {w : World} {gf : Nat} {lb : Array Value} {X : List (List Nat)} (hg : a.eval g = .func (.func gf) #[] lb) (eg : ∀ args w, (callFunc gf args).run Try.prog w = .ok (.enter gf args) w)
    (Φ₀ : Nat → Prop) (JJ : (Nat → Prop) → List (List Nat) → World → Prop) (JX : Code → (Nat → Prop) → List (List Nat) → World → Prop)
    (own : ∀ Φ pre A B, JJ Φ pre A → Ab (w.heap.size + 2) Φ A B → JJ Φ pre B) (ownx : ∀ c Φ pre A B, JX c Φ pre A → Ab (w.heap.size + 2) Φ A B → JX c Φ pre B)
    (turn : ∀ Φ pre A B r o, JJ Φ pre A → A.grownBy B (some r) → A.heap[r]? = some o → o.isCells = false → w.heap.size ≤ r → JJ Φ pre B) (turnx : ∀ c Φ pre A B r o, JX c Φ pre A → A.grownBy B (some r) → A.heap[r]? = some o → o.isCells = false → w.heap.size ≤ r → JX c Φ pre B)
    (cells : ∀ Φ pre A, JJ Φ pre A → ∀ b, Φ b → ∃ c t z, A.heap[b]? = some (.cells c t z)) (cellsx : ∀ c Φ pre A, JX c Φ pre A → ∀ b, Φ b → ∃ c t z, A.heap[b]? = some (.cells c t z))
    (h0 : JJ Φ₀ [] w)
    (hit : ∀ (J Jx : (Nat → Prop) → List (List Nat) → World → Prop) (W1 : World), Coll (w.heap.size + 2) (w.heap.size + 1) J Jx → w.grownBy W1 none → W1.heap.size = w.heap.size + 2 → J Φ₀ [] W1 →
      Calls Try.prog gf (#[yieldV (w.heap.size + 1)] ++ lb) W1 fun e W' => (∃ v, e = .returned v) ∧ ∃ Φ', J Φ' X W' ∨ ∃ q, q <+: X ∧ q ≠ [] ∧ Jx Φ' q W')
    (a₁ : Value → Act)
    (hassign : ∀ (l : Nat) (v : Value) (W : World) (K : Act → World → Prop), K (a₁ v) W → assign.wpIn (Fence.wide.inRound l) 8 Try.prog (Exit.then K (fun _ _ _ => False)) { tmps := a.tmps.setIfInBounds p v, defers := [] } W)
    (hbody : ∀ (l : Nat) (Φ : Nat → Prop) (pre : List (List Nat)) (x : List Nat) (v : Value) (M : Nat) (W : World), JJ Φ pre W → CloneAt (w.heap.size + 2) M Φ x v W → M ≤ W.heap.size → x.length ≤ 200 → body.wpIn (Fence.wide.inRound l) 8 Try.prog (collPost (w.heap.size + 2) M JJ JX Φ (pre ++ [x]) W) (a₁ v) W)
    (hdone : ∀ (D : Nat) (Φ : Nat → Prop) (W : World), w.heap.size ≤ D → JJ Φ X W → W.heap[D]? = some (.deferred (some [])) → Q .normal { a with defers := { target := .collected D, args := #[] } :: a.defers } W)
    (hstop : ∀ (D : Nat) (c : Code) (Φ : Nat → Prop) (q : List (List Nat)) (W : World), w.heap.size ≤ D → q <+: X → JX c Φ q W → W.heap[D]? = some (.deferred (some [])) → c.wpIn Fence.wide n Try.prog Q { a with defers := { target := .collected D, args := #[] } :: a.defers } W) :
    (Code.rangeFunc g #[p] assign body).wpIn Fence.wide n Try.prog Q a w := by
  refine wpIn_rangeFunc ?_
  intro fn hfn
  obtain ⟨W0, hW0⟩ : ∃ x, w.alloc (.deferred (some [])) = x := ⟨_, rfl⟩
  have aK := World.alloc_heap_new w (.deferred (some []))
  have sK : W0.heap.size = w.heap.size + 1 := by rw [← hW0]; simp
  have gK : w.grownBy W0 none := by rw [← hW0]; exact World.grownBy_alloc w _ none
  rw [hW0] at aK
  obtain ⟨W1, hW1⟩ : ∃ x, W0.alloc (.loop (recL fn a.tmps p assign body w.heap.size .ready none)) = x := ⟨_, rfl⟩
  have aL := World.alloc_heap_new W0 (.loop (recL fn a.tmps p assign body w.heap.size .ready none))
  have sL : W1.heap.size = w.heap.size + 2 := by rw [← hW1]; simp [sK]
  have gL : W0.grownBy W1 none := by rw [← hW1]; exact World.grownBy_alloc W0 _ none
  rw [hW1, sK] at aL
  have aK1 : W1.heap[w.heap.size]? = some (.deferred (some [])) := (gL.block _ (by omega) (by simp)).trans aK
  have g1 : w.grownBy W1 none := grown_trans gK gL
  refine ⟨w.heap.size + 1, [{ target := .collected w.heap.size, args := #[] }], W1, { target := .fn (.func gf) lb, args := #[yieldV (w.heap.size + 1)] }, W1, gf, #[yieldV (w.heap.size + 1)] ++ lb, W1, ?_, ?_, fun _ _ => trivial, ?_, fun h => (by cases h), ?_⟩
  · rw [← hW1, ← hW0]
    exact run_enterLoop_outer _ _ _ _ _
  · simp only [resolve, hg]
    simp [go_sem]
  · simp [invoke, go_sem, eg]
  · have hC : Coll (w.heap.size + 2) (w.heap.size + 1)
        (fun Φ pre W => JJ Φ pre W ∧ W.heap[w.heap.size + 1]? = some (.loop (recL fn a.tmps p assign body w.heap.size .ready none)) ∧ W.heap[w.heap.size]? = some (.deferred (some [])))
        (fun Φ pre W => ∃ c, JX c Φ pre W ∧ W.heap[w.heap.size + 1]? = some (.loop (recL fn a.tmps p assign body w.heap.size .done (some c))) ∧ W.heap[w.heap.size]? = some (.deferred (some []))) := {
      own := fun Φ pre A B h k => ⟨own Φ pre A B h.1 k, k.keep _ _ h.2.1 (.inl (by omega)), k.keep _ _ h.2.2 (.inl (by omega))⟩
      ownx := fun Φ pre A B h k => by
        obtain ⟨c, h1, h2, h3⟩ := h
        exact ⟨c, ownx c Φ pre A B h1 k, k.keep _ _ h2 (.inl (by omega)), k.keep _ _ h3 (.inl (by omega))⟩
      cells := fun Φ pre A h => cells Φ pre A h.1
      cellsx := fun Φ pre A h => by
        obtain ⟨c, h1, _⟩ := h
        exact cellsx c Φ pre A h1
      yields := by
        rintro Φ pre x v M W ⟨hj, hl, hk⟩ hcl hM hx
        have hy := run_yield (P := Try.prog) (args := #[v]) hl rfl
        refine ⟨fn, a.tmps.setIfInBounds p v, assign, body, ?_, roundIn_of_wpIn trivial (hassign _ v W _ ?_)⟩
        · rw [hy]
          simp [recL]
        refine ⟨_, run_beginRound hl rfl, ?_⟩
        have hlt := lt_of_heap hl
        have gB := grownBy_putObj' W (w.heap.size + 1) (.loop { recL fn a.tmps p assign body w.heap.size .ready none with state := .busy })
        have hl2 : (W.putObj (w.heap.size + 1) (.loop { recL fn a.tmps p assign body w.heap.size .ready none with state := .busy })).heap[w.heap.size + 1]? = some (.loop { recL fn a.tmps p assign body w.heap.size .ready none with state := .busy }) := World.putObj_heap_same hlt
        obtain ⟨W2, hW2⟩ : ∃ x, W.putObj (w.heap.size + 1) (.loop { recL fn a.tmps p assign body w.heap.size .ready none with state := .busy }) = x := ⟨_, rfl⟩
        rw [hW2] at gB hl2 ⊢
        have hk2 : W2.heap[w.heap.size]? = some (.deferred (some [])) := (gB.block _ (by omega) (by simp)).trans hk
        have hcl2 : CloneAt (w.heap.size + 2) M Φ x v W2 := by
          rcases hcl with h | ⟨G, c, e, ho, h1, h2⟩
          · exact .inl h
          · subst e
            obtain ⟨c', hc⟩ := own_typeS ho
            exact .inr ⟨G, c, rfl, own_keep ho (gB.block _ (lt_of_heap hc) (fun e => by cases e; rw [hl] at hc; cases hc)), h1, h2⟩
        refine wpIn_mono (hbody _ Φ pre x v M W2 (turn _ _ _ _ _ _ hj gB hl rfl (by omega)) hcl2 (by have := gB.size; omega) hx) ?_
        have fin : ∀ (jump : Option Code) (W3 : World), KeepsOthers W2 W3 →
            (Instr.endRound (w.heap.size + 1) jump).run Try.prog W3 = .ok (.bool jump.isNone) (W3.putObj (w.heap.size + 1) (.loop (recL fn a.tmps p assign body w.heap.size (if jump.isNone then .ready else .done) jump))) ∧
            W3.heap[w.heap.size + 1]? = some (.loop { recL fn a.tmps p assign body w.heap.size .ready none with state := .busy }) ∧
            (W3.putObj (w.heap.size + 1) (.loop (recL fn a.tmps p assign body w.heap.size (if jump.isNone then .ready else .done) jump))).heap[w.heap.size + 1]? = some (.loop (recL fn a.tmps p assign body w.heap.size (if jump.isNone then .ready else .done) jump)) ∧
            (W3.putObj (w.heap.size + 1) (.loop (recL fn a.tmps p assign body w.heap.size (if jump.isNone then .ready else .done) jump))).heap[w.heap.size]? = some (.deferred (some [])) := fun jump W3 hk3 => by
          have hl3 := hk3.same _ _ hl2 rfl
          exact ⟨run_endRound (P := Try.prog) jump hl3, hl3, World.putObj_heap_same (lt_of_heap hl3), (World.putObj_heap_other (by omega)).trans (hk3.same _ _ hk2 rfl)⟩
        rintro e a3 W3 hp
        cases e with
        | normal =>
          obtain ⟨hko, Φ', hfr, hjj⟩ := hp
          obtain ⟨hr, hl3, hl4, hk4⟩ := fin none W3 hko
          have g3 := grownBy_putObj' W3 (w.heap.size + 1) (.loop (recL fn a.tmps p assign body w.heap.size .ready none))
          exact ⟨_, _, hr, Φ', ((Fr.turn gB hl rfl (by omega)).trans hfr).trans (Fr.turn g3 hl3 rfl (by omega)), .inl ⟨rfl, turn _ _ _ _ _ _ hjj g3 hl3 rfl (by omega), hl4, hk4⟩⟩
        | exit id =>
          obtain ⟨hko, Φ', hfr, hjj⟩ := hp
          obtain ⟨hr, hl3, hl4, hk4⟩ := fin (some (.exit id)) W3 hko
          have g3 := grownBy_putObj' W3 (w.heap.size + 1) (.loop (recL fn a.tmps p assign body w.heap.size .done (some (.exit id))))
          exact ⟨_, _, hr, Φ', ((Fr.turn gB hl rfl (by omega)).trans hfr).trans (Fr.turn g3 hl3 rfl (by omega)), .inr ⟨rfl, .exit id, turnx _ _ _ _ _ _ _ hjj g3 hl3 rfl (by omega), hl4, hk4⟩⟩
        | ret => exact hp.elim
        | goto t => exact hp.elim
        | panic ch => exact hp.elim
        | outgrown => exact hp.elim }
    refine (callsIn_wide.2 (hit _ _ W1 hC g1 sL ⟨own _ _ _ _ h0 (Ab.grown g1 (fun r e => by cases e)), aL, aK1⟩)).mono ?_
    rintro e W2 ⟨⟨v, rfl⟩, Φ', (⟨hj, hl, hk⟩ | ⟨q, hq, _, c, hj, hl, hk⟩)⟩
    · have g3 := grownBy_putObj' W2 (w.heap.size + 1) (.loop { recL fn a.tmps p assign body w.heap.size .ready none with state := .exhausted })
      exact ⟨none, _, run_endLoop (P := Try.prog) hl (by simp [recL]), hdone _ Φ' _ (Nat.le_refl _) (turn _ _ _ _ _ _ hj g3 hl rfl (by omega)) ((World.putObj_heap_other (by omega)).trans hk)⟩
    · have g3 := grownBy_putObj' W2 (w.heap.size + 1) (.loop { recL fn a.tmps p assign body w.heap.size .done (some c) with state := .exhausted })
      exact ⟨some c, _, run_endLoop (P := Try.prog) hl (by simp [recL]), hstop _ c Φ' q _ (Nat.le_refl _) hq (turnx _ _ _ _ _ _ _ hj g3 hl rfl (by omega)) ((World.putObj_heap_other (by omega)).trans hk)⟩

end Go.Proofs.Ytbfeiegjhcjbnaa
