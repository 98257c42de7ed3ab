/-
  The program's function that calls itself and hands on the linear extensions.
-/
import Derived.Laws.EntriesVeiled
import Derived.Test.YtbfeiegjhcjbnaaPoFrame
namespace Go.Proofs.Ytbfeiegjhcjbnaa
open Go.RowKit Go.Shelf
attribute [local go_sem] Oper.semAt_some

abbrev ptrV (b : Nat) : Value := .pointer (some ⟨b, 0, none⟩)
abbrev yieldV (l : Nat) : Value := .func (.yield l) #[] #[]
abbrev extV (Br By Be : Nat) : Value := .func (.func 69) #[] #[ptrV Br, ptrV By, ptrV Be]

/-- The variables that the function has captured, and the relation. -/
structure Env (Φ : Nat → Prop) (A N Br By Be l : Nat) (g : Nat → Nat) (f : Nat → Nat → Bool) (W : World) : Prop where
  r : W.heap[Br]? = some (.cells #[matV A N] 53 (0, 0))
  y : W.heap[By]? = some (.cells #[yieldV l] 50 (0, 0))
  e : W.heap[Be]? = some (.cells #[extV Br By Be] 35 (0, 0))
  m : MatK 0 A N N g f W
  nr : ¬ Φ Br
  ny : ¬ Φ By
  ne : ¬ Φ Be
  na : ¬ Φ A
  ng : ∀ i, i < N → ¬ Φ (g i)
theorem own_keep {w w' : World} {B s n g c : Nat} {T : TypeId} {xs : List Value} (h : w.ownsRow B T s (.slice (some ⟨g, 0, none⟩) n c) n xs) (hb : w'.heap[g]? = w.heap[g]?) : w'.ownsRow B T s (.slice (some ⟨g, 0, none⟩) n c) n xs := by
  obtain ⟨h1, h2⟩ := h
  refine ⟨h1, ?_⟩
  rcases h2 with ⟨e, _⟩ | ⟨g', cap, cur, e, hB, hgg, r⟩
  · cases e
  · cases e
    exact .inr ⟨_, _, cur, rfl, hB, hb.trans hgg, r⟩
/-- The row of an extension's beginning is a row of ints. -/
def GoTI (go : Option Nat) (W : World) : Prop := ∀ b, go = some b → ∃ c, W.heap[b]? = some (.cells c TI (0, 0))
theorem GoTI.ne {go : Option Nat} {W : World} (h : GoTI go W) {b : Nat} {c : Array Value} {t : TypeId} {z : Nat × Nat} (hb : W.heap[b]? = some (.cells c t z)) (ht : t ≠ TI) : go ≠ some b := by
  intro e
  obtain ⟨c', h'⟩ := h b e
  rw [hb] at h'
  injection h' with h'
  injection h' with _ h' _
  exact ht h'
theorem Env.fr {Φ Φ' : Nat → Prop} {B0 A N Br By Be l : Nat} {g : Nat → Nat} {f : Nat → Nat → Bool} {go : Option Nat} {w W : World} (h : Env Φ A N Br By Be l g f w) (k : Fr B0 w.heap.size Φ Φ' go w W) (hg : GoTI go w) : Env Φ' A N Br By Be l g f W := by
  obtain ⟨cA, hA⟩ := own_typeS h.m.outer
  have row : ∀ i, i < N → ∃ c, w.heap[g i]? = some (.cells c TBool (0, 0)) := fun i hi => own_typeS (h.m.row i hi)
  exact {
    r := k.keep _ _ (lt_of_heap h.r) h.r h.nr (hg.ne h.r (by decide)) (.inr rfl)
    y := k.keep _ _ (lt_of_heap h.y) h.y h.ny (hg.ne h.y (by decide)) (.inr rfl)
    e := k.keep _ _ (lt_of_heap h.e) h.e h.ne (hg.ne h.e (by decide)) (.inr rfl)
    m := ⟨own_keep h.m.outer ((k.keep _ _ (lt_of_heap hA) hA h.na (hg.ne hA (by decide)) (.inr rfl)).trans hA.symm), fun i hi => by
      obtain ⟨c, hc⟩ := row i hi
      exact own_keep (h.m.row i hi) ((k.keep _ _ (lt_of_heap hc) hc (h.ng i hi) (hg.ne hc (by decide)) (.inr rfl)).trans hc.symm), h.m.inj⟩
    nr := k.not (lt_of_heap h.r) h.nr
    ny := k.not (lt_of_heap h.y) h.ny
    ne := k.not (lt_of_heap h.e) h.ne
    na := k.not (lt_of_heap hA) h.na
    ng := fun i hi => by
      obtain ⟨c, hc⟩ := row i hi
      exact k.not (lt_of_heap hc) (h.ng i hi) }

/-- A copy of an extension. -/
def CloneAt (B0 M : Nat) (Φ : Nat → Prop) (x : List Nat) (v : Value) (W : World) : Prop := (v = .slice none 0 0 ∧ x = []) ∨ ∃ G c, v = .slice (some ⟨G, 0, none⟩) x.length c ∧ W.ownsRow B0 TI 1 v x.length (natV x) ∧ ¬ Φ G ∧ M ≤ G
/-- The collector: the loop that the extensions are handed to. -/
structure Coll (B0 l : Nat) (J Jx : (Nat → Prop) → List (List Nat) → World → Prop) : Prop where
  own : ∀ Φ pre A B, J Φ pre A → Ab B0 Φ A B → J Φ pre B
  ownx : ∀ Φ pre A B, Jx Φ pre A → Ab B0 Φ A B → Jx Φ pre B
  cells : ∀ Φ pre A, J Φ pre A → ∀ b, Φ b → ∃ c t z, A.heap[b]? = some (.cells c t z)
  cellsx : ∀ Φ pre A, Jx Φ pre A → ∀ b, Φ b → ∃ c t z, A.heap[b]? = some (.cells c t z)
  yields : ∀ Φ pre x v M W, J Φ pre W → CloneAt B0 M Φ x v W → M ≤ W.heap.size → x.length ≤ 200 → YieldAt Fence.wide 8 Try.prog l #[v] W fun e W' => ∃ Φ', Fr B0 M Φ Φ' none W W' ∧ ((e = .returned (.bool true) ∧ J Φ' (pre ++ [x]) W') ∨ (e = .returned (.bool false) ∧ Jx Φ' (pre ++ [x]) W'))

/-- What a call of the function leaves. -/
def ExtR (B0 N : Nat) (f : Nat → Nat → Bool) (J Jx : (Nat → Prop) → List (List Nat) → World → Prop) (m : Nat) (out : List Nat) (sv : Value) (go : Option Nat) (Φ : Nat → Prop) (pre : List (List Nat)) (w : World) (e : Ending) (w' : World) : Prop :=
  ∃ Φ', Fr B0 w.heap.size Φ Φ' go w w' ∧ StartR sv go out w' ∧ ((e = .returned (.bool true) ∧ J Φ' (pre ++ extN N f m out) w') ∨ (e = .returned (.bool false) ∧ ∃ q, q <+: extN N f m out ∧ q ≠ [] ∧ Jx Φ' (pre ++ q) w'))

/-- slices.Clone of the beginning of an extension. -/
theorem cloneS_any (sv : Value) (go : Option Nat) (out : List Nat) (w : World) (hS : StartR sv go out w) (hl : out.length ≤ 200) :
    Calls Try.prog 66 #[sv] w fun e w' => ∃ v, e = .returned v ∧ ((v = .slice none 0 0 ∧ out = []) ∨ ∃ G c, v = .slice (some ⟨G, 0, none⟩) out.length c ∧ w'.ownsRow w.heap.size TI 1 v out.length (natV out)) ∧ Below w.heap.size w w' := by
  cases hS with
  | nil =>
    refine (Any.slices_Clone_int_nil Try.cloneI 0 0 w).mono ?_
    rintro e w' ⟨rfl, rfl⟩
    exact ⟨_, rfl, .inl ⟨rfl, rfl⟩, Below.refl _ _⟩
  | row h =>
    rename_i g off cap
    refine (Any.slices_Clone_int Try.cloneI g off out.length cap (out.map fun (x : Nat) => (x : Int)) w (by simp) (by omega) (fun j hj => by
      rw [List.length_map] at hj
      rw [h.cell (List.getElem?_eq_getElem hj), List.getD_eq_getElem?_getD, List.getElem?_map, List.getElem?_eq_getElem hj]
      rfl)).mono ?_
    rintro e w' ⟨v', rfl, ho, hne, hb⟩
    rw [List.take_of_length_le (by simp), List.map_map] at ho
    obtain ⟨G, d, rfl⟩ := ownsRow_some ho hne
    exact ⟨_, rfl, .inr ⟨G, d, rfl, ho⟩, hb⟩

/-- The function's three variables. -/
theorem ext_boxes (sv lv : Value) (w : World) : ∃ w3, ((w.alloc (.cells #[sv] 23)).alloc (.cells #[lv] 23)).alloc (.cells #[.bool false] 4) = w3 ∧ w3.heap.size = w.heap.size + 3 ∧
    w3.heap[w.heap.size]? = some (.cells #[sv] 23 (0, 0)) ∧ w3.heap[w.heap.size + 1]? = some (.cells #[lv] 23 (0, 0)) ∧ w3.heap[w.heap.size + 1 + 1]? = some (.cells #[.bool false] 4 (0, 0)) ∧ w.grownBy w3 none := by
  obtain ⟨w1, h1⟩ : ∃ x, w.alloc (.cells #[sv] 23) = x := ⟨_, rfl⟩
  have a1 := World.alloc_heap_new w (.cells #[sv] 23)
  have s1 : w1.heap.size = w.heap.size + 1 := by rw [← h1]; simp
  rw [h1] at a1
  obtain ⟨w2, h2⟩ : ∃ x, w1.alloc (.cells #[lv] 23) = x := ⟨_, rfl⟩
  have a2 := World.alloc_heap_new w1 (.cells #[lv] 23)
  have s2 : w2.heap.size = w.heap.size + 2 := by rw [← h2]; simp [s1]
  have b2 : w2.heap[w.heap.size]? = w1.heap[w.heap.size]? := by rw [← h2]; exact Below.heap_alloc _ _ _ (by omega)
  rw [h2] at a2
  obtain ⟨w3, h3⟩ : ∃ x, w2.alloc (.cells #[.bool false] 4) = x := ⟨_, rfl⟩
  have a3 := World.alloc_heap_new w2 (.cells #[.bool false] 4)
  have s3 : w3.heap.size = w.heap.size + 3 := by rw [← h3]; simp [s2]
  have b3 : ∀ k, k < w2.heap.size → w3.heap[k]? = w2.heap[k]? := fun k hk => by rw [← h3]; exact Below.heap_alloc _ _ _ hk
  rw [h3] at a3
  rw [s1] at a2
  rw [s2] at a3
  rw [h1, h2, h3]
  refine ⟨w3, rfl, s3, (b3 _ (by omega)).trans (b2.trans a1), (b3 _ (by omega)).trans a2, a3, ?_⟩
  rw [← h3, ← h2, ← h1]
  exact grownOf ((((Below.refl _ w).alloc (Nat.le_refl _) _).alloc (by simp) _).alloc (by simp; omega) _)

/-- The function's result lies in a cell. -/
theorem ext_result (tmps : Array Value) (w : World) (b : Nat) (r : Bool) (hp : tmps[7]? = some (ptrV b)) (hc : w.cell? ⟨b, 0, none⟩ = some (.bool r)) : (results Try.f69 tmps).run Try.prog w = .ok (.bool r) w := by
  have hres : Try.f69.results = #[.cell 7 4] := by kernel_rfl
  have hp' : tmps[7]?.getD undef = ptrV b := by rw [hp]; rfl
  simp only [results, hres]
  go_simp

/-- An append whose run is known. -/
theorem wpListIn_append_run {F : Fence} {n : Nat} {P : Program} (w : World) {ops : Array Oper} {rest : List Oper} {o : Oper} {a : Act} {Q : Exit → Act → World → Prop}
    (hg : o.guard = none) (s x : Operand) (t : TypeId) (hop : o.op = Op.call { callee := Callee.builtin Builtin.append, args := #[s, x], argTypes := #[t, t] })
    (v u v' : Value) (w' : World) (hs : a.eval s = v) (hx : a.eval x = u) (hrun : (Builtin.append_ #[t, t] o.type #[v, u]).run P w = .ok v' w') (hK : wpListIn F n P ops Q rest (a.put o.dst v') w') :
    wpListIn F n P ops Q (o :: rest) a w := by
  refine wpListIn_plain hg fun K hK' => ?_
  unfold Oper.wpIn
  refine ⟨?_, ?_⟩
  · simp [Oper.about, hop, resolve, Target.leads, Sem.run_pure]
  · rw [Oper.semAt_plain F _ _ (by rw [hop]; intro c hc'; cases hc')]
    simp [execOp, hop, resolve, invoke, builtin, hs, hx, hrun, Result.andThen]
    exact hK' _ _ hK

/-- What holds between two rounds of the function's loop. -/
structure ExtI (B0 N Gl cl : Nat) (f : Nat → Nat → Bool) (out : List Nat) (sv : Value) (go : Option Nat) (Φ : Nat → Prop) (w : World) (Φ' : Nat → Prop) (W : World) : Prop where
  fr : Fr B0 w.heap.size Φ Φ' go w W
  st : StartR sv go out W
  nm : NumAt B0 Gl N cl (lefV N f out) W
  ng : ¬ Φ' Gl
  b5 : W.heap[w.heap.size]? = some (.cells #[sv] 23 (0, 0))
  b6 : W.heap[w.heap.size + 1]? = some (.cells #[.slice (some ⟨Gl, 0, none⟩) N cl] 23 (0, 0))
  b7 : W.heap[w.heap.size + 1 + 1]? = some (.cells #[.bool false] 4 (0, 0))
  n5 : ¬ Φ' w.heap.size
  n6 : ¬ Φ' (w.heap.size + 1)
  n7 : ¬ Φ' (w.heap.size + 1 + 1)
/-- A step that turns nothing of it. -/
theorem ExtI.same {B0 N Gl cl : Nat} {f : Nat → Nat → Bool} {out : List Nat} {sv : Value} {go : Option Nat} {Φ Φ' : Nat → Prop} {w W W' : World} {row : Option Nat} (h : ExtI B0 N Gl cl f out sv go Φ w Φ' W) (hg : W.grownBy W' row) (hr : ∀ r, row = some r → w.heap.size + 3 ≤ r) (hgo : ∀ b, go = some b → b < w.heap.size) (hgl : Gl < w.heap.size) : ExtI B0 N Gl cl f out sv go Φ w Φ' W' where
  fr := h.fr.trans (Fr.own hg (fun r e => .inr (by have := hr r e; omega)))
  st := h.st.block (fun b e => hg.block b (by obtain ⟨c, hc⟩ := h.st.type b e; exact lt_of_heap hc) (fun e2 => by have := hr b e2.symm; have := hgo b e; omega))
  nm := h.nm.block (hg.block _ h.nm.lt.2 (fun e => by have := hr _ e.symm; omega))
  ng := h.ng
  b5 := (hg.block _ (lt_of_heap h.b5) (fun e => by have := hr _ e.symm; omega)).trans h.b5
  b6 := (hg.block _ (lt_of_heap h.b6) (fun e => by have := hr _ e.symm; omega)).trans h.b6
  b7 := (hg.block _ (lt_of_heap h.b7) (fun e => by have := hr _ e.symm; omega)).trans h.b7
  n5 := h.n5
  n6 := h.n6
  n7 := h.n7
/-- Steps of the function's own, with the row to which one element has been appended, and then the call of itself. -/
theorem ExtI.call {B0 N Gl cl gn : Nat} {f : Nat → Nat → Bool} {out : List Nat} {sv : Value} {go : Option Nat} {Φ Φ' Φ'' : Nat → Prop} {w W W3 W4 : World} (h : ExtI B0 N Gl cl f out sv go Φ w Φ' W) (hg : W.grownBy W3 (some gn)) (hn : go = some gn ∨ W.heap.size ≤ gn) (k : Fr B0 W3.heap.size Φ' Φ'' (some gn) W3 W4) (hS : StartR sv go out W4) (hgo : ∀ b, go = some b → b < w.heap.size) (hgl : Gl < w.heap.size) (hne : go ≠ some Gl) : ExtI B0 N Gl cl f out sv go Φ w Φ'' W4 := by
  have hs := h.fr.size
  have s3 := hg.size
  have l5 := lt_of_heap h.b5
  have l7 := lt_of_heap h.b7
  have hgn : ∀ b, b < W.heap.size → go ≠ some b → b ≠ gn := fun b hb hne e => by
    subst e
    rcases hn with h1 | h1
    · exact hne h1
    · omega
  have kk : ∀ (b : Nat) (o : Obj), W.heap[b]? = some o → go ≠ some b → ¬ Φ' b → (B0 ≤ b ∨ o.isCells = true) → W4.heap[b]? = some o := fun b o hb hne hn' hc => by
    have hlt := lt_of_heap hb
    have e1 := hgn b hlt hne
    exact k.keep b o (by omega) ((hg.block b hlt (by simpa using e1)).trans hb) hn' (by simpa using Ne.symm e1) hc
  have nn : ∀ b, b < W.heap.size → ¬ Φ' b → ¬ Φ'' b := fun b hb hn' => k.not (by omega) hn'
  have gx : ∀ d, go ≠ some (w.heap.size + d) := fun d e => by have := hgo _ e; omega
  exact {
    fr := (h.fr.trans (Fr.own hg (fun r e => by
      cases e
      rcases hn with h1 | h1
      · exact .inl h1
      · exact .inr (by omega)))).trans (k.weaken (by omega) (fun b e => by
      cases e
      rcases hn with h1 | h1
      · exact .inl h1
      · exact .inr (by omega)))
    st := hS
    nm := by
      obtain ⟨c, hc⟩ := own_typeS h.nm
      exact h.nm.block ((kk Gl _ hc hne h.ng (.inr rfl)).trans hc.symm)
    ng := nn Gl (by omega) h.ng
    b5 := kk _ _ h.b5 (gx 0) h.n5 (.inr rfl)
    b6 := kk _ _ h.b6 (gx 1) h.n6 (.inr rfl)
    b7 := kk _ _ h.b7 (gx 2) h.n7 (.inr rfl)
    n5 := nn _ (by omega) h.n5
    n6 := nn _ (by omega) h.n6
    n7 := nn _ (by omega) h.n7 }

set_option maxRecDepth 100000 in
set_option maxHeartbeats 8000000 in
theorem extend_any {B0 l A N Br By Be : Nat} {g : Nat → Nat} {f : Nat → Nat → Bool} {J Jx : (Nat → Prop) → List (List Nat) → World → Prop} (hC : Coll B0 l J Jx) (hN : N ≤ 200) (hL : Low2 N f) :
    ∀ (m : Nat) (out : List Nat) (sv : Value) (go : Option Nat) (Gl cl : Nat) (Φ : Nat → Prop) (pre : List (List Nat)) (w : World),
      out.length + m = N → OrdP N f out → StartR sv go out w → (∀ b, go = some b → B0 ≤ b ∧ ¬ Φ b) → NumAt B0 Gl N cl (lefV N f out) w → ¬ Φ Gl → go ≠ some Gl → Env Φ A N Br By Be l g f w → J Φ pre w → B0 ≤ w.heap.size →
      Calls Try.prog 69 #[sv, .slice (some ⟨Gl, 0, none⟩) N cl, ptrV Br, ptrV By, ptrV Be] w (ExtR B0 N f J Jx m out sv go Φ pre w) := by
  intro m
  induction m with
  | zero =>
    intro out sv go Gl cl Φ pre w hlen hord hS hgo hR hnl hgl hE hJ hB
    obtain ⟨w3, hw3, s3, x5, x6, x7, hgr⟩ := ext_boxes sv (.slice (some ⟨Gl, 0, none⟩) N cl) w
    have hFr : Fr B0 w.heap.size Φ Φ go w w3 := Fr.own hgr (fun r e => by cases e)
    have hE3 := hE.fr hFr hS.type
    have hS3 : StartR sv go out w3 := hS.block (fun b e => hgr.block b (by obtain ⟨c, hc⟩ := hS.type b e; exact lt_of_heap hc) (by simp))
    have hJ3 := hC.own _ _ _ _ hJ (Ab.grown hgr (fun r e => by cases e))
    obtain ⟨a0, c0, hsv⟩ := hS.value
    obtain rfl : out.length = N := by omega
    subst hsv
    refine (callsIn_wide (n := 9)).1 ?_
    refine callsIn_of_wp_marks Try.func69 rfl trivial ?_ rfl
    simp only [Try.ntmps69, List.size_toArray, List.length_cons, List.length_nil, Nat.reduceAdd, Nat.reduceSub, Array.replicate_succ, Array.replicate_zero, List.push_toArray, List.append_toArray, List.nil_append, List.cons_append]
    have HLT := Lib.hid (hC.cells _ _ _ hJ)
    have HGO := Lib.hid hgo
    have HST0 := Lib.hid hS.type
    have HE3 := Lib.hid hE3
    have HS3 := Lib.hid hS3
    have HJ3 := Lib.hid hJ3
    have HF3 := Lib.hid hFr
    have X5 := Lib.hid x5
    have X7 := Lib.hid x7
    have c5 := box_cell x5
    have c2 := box_cell hE3.r
    have c3 := box_cell hE3.y
    clear hE hE3 hS hS3 hJ hJ3 hFr hgr x5 x6 x7 hR hord hgo hgl hnl
    gi_wp2_with fail
    refine AnyS.calm (S := fun W' => W'.cell? ⟨w.heap.size, 0, none⟩ = some (.slice a0 out.length c0) ∧ W'.cell? ⟨By, 0, none⟩ = some (yieldV l)) (by kernel_rfl) ?_
    refine AnyS.take (i := 0) (v := yieldV l) (open_wide 9 _) (by kernel_rfl) rfl (by kernel_rfl) (by kernel_rfl) (fun _ _ _ h => h) (Or.inl ⟨by rfl, ?_⟩) ⟨c5, c3⟩ ?_
    · rintro w' ⟨h1, h2⟩
      go_simp
    simp only [Act.put, List.setIfInBounds_toArray, List.set_cons_zero, List.set_cons_succ]
    refine AnyS.take (i := 1) (v := .slice a0 out.length c0) (open_wide 9 _) (by kernel_rfl) rfl (by kernel_rfl) (by kernel_rfl) (fun _ _ _ h => h) (Or.inl ⟨by rfl, ?_⟩) ⟨c5, c3⟩ ?_
    · rintro w' ⟨h1, h2⟩
      go_simp
    simp only [Act.put, List.setIfInBounds_toArray, List.set_cons_zero, List.set_cons_succ]
    refine AnyS.next (i := 2) rfl (by kernel_rfl) ?_
    have HCL := Lib.hid (cloneS_any (.slice a0 out.length c0) go out w3.drew (HS3.out.block (fun _ _ => rfl)) hN)
    gi_wp2_with fail
    refine ⟨trivial, ?_⟩
    refine (callsIn_wide.2 HCL.out).mono ?_
    rintro e w4 ⟨v, rfl, hcl, b4⟩
    have b4' : Below w3.heap.size w3 w4 := ⟨b4.os, b4.tape, b4.output, b4.size, b4.block⟩
    have y5 := (b4'.block _ (lt_of_heap X5.out)).trans X5.out
    have y7 := (b4'.block _ (lt_of_heap X7.out)).trans X7.out
    have y3 := (b4'.block _ (lt_of_heap HE3.out.y)).trans HE3.out.y
    have d5 := box_cell y5
    have d3 := box_cell y3
    have hJ4 := hC.own _ _ _ _ HJ3.out (Ab.below b4')
    have hF4 := HF3.out.trans (Fr.below (B0 := B0) (M := w.heap.size) (Φ := Φ) (go := go) b4')
    have hcl2 : CloneAt B0 w3.heap.size Φ out v w4 := by
      rcases hcl with h | ⟨G, c, e, ho⟩
      · exact .inl h
      · have hG : w3.heap.size ≤ G := by rw [e] at ho; exact (World.ownsRow.lt ho G rfl).1
        refine .inr ⟨G, c, e, ownsRow_base (by have : w3.drew.heap.size = w3.heap.size := rfl; omega) ho, fun hp => ?_, hG⟩
        obtain ⟨c', t', z', hc⟩ := HLT.out G hp
        have := lt_of_heap hc
        omega
    obtain ⟨fn, tmps, asg, body, hy, hRR⟩ := hC.yields Φ pre out v w3.heap.size w4 hJ4 hcl2 b4'.size hN
    have HRR := Lib.hid hRR
    have Y5 := Lib.hid y5
    have Y7 := Lib.hid y7
    have Y3 := Lib.hid y3
    have HF4 := Lib.hid hF4
    have HB4 := Lib.hid b4'
    clear hcl hcl2 hRR y5 y7 y3 hF4 b4 b4' hJ4
    gi_wp2
    refine ⟨⟨d5, d3⟩, ?_⟩
    refine AnyS.next (i := 3) rfl (by kernel_rfl) ?_
    gi_wp2
    refine HRR.out.mono ?_
    rintro e w5 ⟨Φ', hf, hres⟩
    have n5 : ¬ Φ (w.heap.size) := fun hp => by obtain ⟨c', t', z', hc⟩ := HLT.out _ hp; have := lt_of_heap hc; omega
    have n7 : ¬ Φ (w.heap.size + 1 + 1) := fun hp => by obtain ⟨c', t', z', hc⟩ := HLT.out _ hp; have := lt_of_heap hc; omega
    have y5 := hf.keep _ _ (by omega) Y5.out n5 (by simp) (.inr rfl)
    have y7 := hf.keep _ _ (by omega) Y7.out n7 (by simp) (.inr rfl)
    have y3 := hf.keep _ _ (lt_of_heap HE3.out.y) Y3.out HE3.out.ny (by simp) (.inr rfl)
    have m7 := hf.not (b := w.heap.size + 1 + 1) (by omega) n7
    have d5 := box_cell y5
    have d3 := box_cell y3
    have d7 := box_cell y7
    have z7 := Lib.frozen_of_heap y7 0
    have HF5 := Lib.hid (HF4.out.trans (hf.weaken (M := w.heap.size) (go := go) (by omega) (fun b e => by cases e)))
    have HF := Lib.hid hf
    have M7 := Lib.hid m7
    have HST4 : Hid (StartR (.slice a0 out.length c0) go out w4) := Lib.hid (HS3.out.block (fun b e => HB4.out.block b (by obtain ⟨c', hc⟩ := HS3.out.type b e; exact lt_of_heap hc)))
    have Y5' := Lib.hid y5
    have Y7' := Lib.hid y7
    have Y3' := Lib.hid y3
    clear hf n5 n7 y5 y7 y3 m7 hy
    rcases hres with ⟨rfl, hj⟩ | ⟨rfl, hj⟩
    · have HJ5 := Lib.hid hj
      clear hj
      gi_wp2
      refine ⟨⟨d5, d3⟩, ?_⟩
      refine AnyS.next (i := 4) rfl (by kernel_rfl) ?_
      gi_wp2
      obtain ⟨w6, hw6⟩ : ∃ x, w5.setCell ⟨w.heap.size + 1 + 1, 0, none⟩ (.bool true) = x := ⟨_, rfl⟩
      have hk6 : ∀ k, k ≠ w.heap.size + 1 + 1 → w6.heap[k]? = w5.heap[k]? := fun k hk => by rw [← hw6]; exact Below.heap_setCell _ _ _ _ hk
      have g6 : w5.grownBy w6 (some (w.heap.size + 1 + 1)) := by rw [← hw6]; exact grownBy_setCell' w5 _ _
      have hBy : By ≠ w.heap.size + 1 + 1 := fun e => by
        have h1 := HE3.out.y
        rw [e, X7.out] at h1
        injection h1 with h1
        injection h1 with _ h1 _
        exact absurd h1 (by decide)
      have e7 : w6.heap[w.heap.size + 1 + 1]? = some (.cells #[.bool true] 4 (0, 0)) := by
        rw [← hw6, heap_setCell_same w5 _ 0 _ _ _ Y7'.out]
        rfl
      rw [hw6]
      refine ⟨⟨box_cell ((hk6 _ (by omega)).trans Y5'.out), box_cell ((hk6 _ hBy).trans Y3'.out)⟩, ?_⟩
      refine AnyS.done (by kernel_rfl) ?_ _
      dsimp only [calmQ]
      gi_wp2
      refine ⟨_, ext_result _ _ _ _ rfl (box_cell e7), Φ', HF5.out.trans (Fr.own g6 (fun r e => by cases e; exact .inr (by omega))), ?_, .inl ⟨rfl, ?_⟩⟩
      · refine HST4.out.block (fun b e => ?_)
        obtain ⟨c', hc⟩ := HST4.out.type b e
        have hbw : b < w.heap.size := by
          obtain ⟨c2, hc2⟩ := HST0.out b e
          exact lt_of_heap hc2
        rw [hk6 b (by omega), HF.out.keep b _ (by omega) hc (HGO.out b e).2 (by simp) (.inr rfl), hc]
      · exact hC.own _ _ _ _ HJ5.out (Ab.grown g6 (fun r e => by cases e; exact ⟨by omega, M7.out⟩))
    · have HJ5 := Lib.hid hj
      clear hj
      gi_wp2
      refine ⟨⟨d5, d3⟩, ?_⟩
      refine AnyS.next (i := 4) rfl (by kernel_rfl) ?_
      gi_wp2
      obtain ⟨w6, hw6⟩ : ∃ x, w5.setCell ⟨w.heap.size + 1 + 1, 0, none⟩ (.bool false) = x := ⟨_, rfl⟩
      have hk6 : ∀ k, k ≠ w.heap.size + 1 + 1 → w6.heap[k]? = w5.heap[k]? := fun k hk => by rw [← hw6]; exact Below.heap_setCell _ _ _ _ hk
      have g6 : w5.grownBy w6 (some (w.heap.size + 1 + 1)) := by rw [← hw6]; exact grownBy_setCell' w5 _ _
      have hBy : By ≠ w.heap.size + 1 + 1 := fun e => by
        have h1 := HE3.out.y
        rw [e, X7.out] at h1
        injection h1 with h1
        injection h1 with _ h1 _
        exact absurd h1 (by decide)
      have e7 : w6.heap[w.heap.size + 1 + 1]? = some (.cells #[.bool false] 4 (0, 0)) := by
        rw [← hw6, heap_setCell_same w5 _ 0 _ _ _ Y7'.out]
        rfl
      rw [hw6]
      refine ⟨⟨box_cell ((hk6 _ (by omega)).trans Y5'.out), box_cell ((hk6 _ hBy).trans Y3'.out)⟩, ?_⟩
      refine AnyS.done (by kernel_rfl) ?_ _
      dsimp only [calmQ]
      gi_wp2
      refine ⟨_, ext_result _ _ _ _ rfl (box_cell e7), Φ', HF5.out.trans (Fr.own g6 (fun r e => by cases e; exact .inr (by omega))), ?_, .inr ⟨rfl, [out], ⟨[], by simp [extN]⟩, by simp, ?_⟩⟩
      · refine HST4.out.block (fun b e => ?_)
        obtain ⟨c', hc⟩ := HST4.out.type b e
        have hbw : b < w.heap.size := by
          obtain ⟨c2, hc2⟩ := HST0.out b e
          exact lt_of_heap hc2
        rw [hk6 b (by omega), HF.out.keep b _ (by omega) hc (HGO.out b e).2 (by simp) (.inr rfl), hc]
      · exact hC.ownx _ _ _ _ HJ5.out (Ab.grown g6 (fun r e => by cases e; exact ⟨by omega, M7.out⟩))
  | succ m ih =>
    intro out sv go Gl cl Φ pre w hlen hord hS hgo hR hnl hgl hE hJ hB
    obtain ⟨w3, hw3, s3, x5, x6, x7, hgr⟩ := ext_boxes sv (.slice (some ⟨Gl, 0, none⟩) N cl) w
    have hgoW : ∀ b, go = some b → b < w.heap.size := fun b e => by obtain ⟨c, hc⟩ := hS.type b e; exact lt_of_heap hc
    have hglW : Gl < w.heap.size := hR.lt.2
    have hcl := hC.cells _ _ _ hJ
    have hnew : ∀ b, w.heap.size ≤ b → ¬ Φ b := fun b hb hp => by obtain ⟨c', t', z', hc⟩ := hcl _ hp; have := lt_of_heap hc; omega
    have hJ3 := hC.own _ _ _ _ hJ (Ab.grown hgr (fun r e => by cases e))
    have hI3 : ExtI B0 N Gl cl f out sv go Φ w Φ w3 := {
      fr := Fr.own hgr (fun r e => by cases e)
      st := hS.block (fun b e => hgr.block b (hgoW b e) (by simp))
      nm := hR.block (hgr.block _ hglW (by simp))
      ng := hnl
      b5 := x5
      b6 := x6
      b7 := x7
      n5 := hnew _ (by omega)
      n6 := hnew _ (by omega)
      n7 := hnew _ (by omega) }
    obtain ⟨a0, c0, hsv⟩ := hS.value
    have hGT : GoTI go w := hS.type
    have hE3 := hE.fr hI3.fr hGT
    refine (callsIn_wide (n := 9)).1 ?_
    refine callsIn_of_wp_marks Try.func69 rfl trivial ?_ rfl
    simp only [Try.ntmps69, List.size_toArray, List.length_cons, List.length_nil, Nat.reduceAdd, Nat.reduceSub, Array.replicate_succ, Array.replicate_zero, List.push_toArray, List.append_toArray, List.nil_append, List.cons_append]
    subst hsv
    have c5 := box_cell x5
    have c6 := box_cell x6
    have c2 := box_cell hE3.r
    have m1 : ((out.length : Int) == (N : Int)) = false := by rw [beq_eq_false_iff_ne]; omega
    have m2 : (out.length == N) = false := by rw [beq_eq_false_iff_ne]; omega
    have HI3 := Lib.hid hI3
    have HE := Lib.hid hE
    have HJ3 := Lib.hid hJ3
    have HGT := Lib.hid hGT
    have HGO := Lib.hid hgo
    have HGW := Lib.hid hgoW
    have HNE := Lib.hid hgl
    have HORD := Lib.hid hord
    have HIH := Lib.hid ih
    have HNEW := Lib.hid hnew
    have HMN := Lib.hid (minimal_any (.slice (some ⟨Gl, 0, none⟩) N cl) w3 ⟨_, _, _, rfl⟩)
    clear hE hE3 hS hJ hJ3 hgr x5 x6 x7 hR hord hgo hgl hnl hI3 hGT hgoW ih hnew hcl
    gi_wp2_with fail
    refine ⟨trivial, ?_⟩
    refine (callsIn_wide.2 HMN.out).mono ?_
    rintro e w4 ⟨rfl, hw4⟩
    have s4 : w4.heap.size = w3.heap.size + 1 := by rw [hw4]; simp
    have xm : w4.heap[w3.heap.size]? = some (.cells #[.slice (some ⟨Gl, 0, none⟩) N cl] 23 (0, 0)) := by rw [hw4]; exact World.alloc_heap_new w3 _
    have g4 : w3.grownBy w4 none := by rw [hw4]; exact World.grownBy_alloc w3 _ none
    have HI4 := Lib.hid (HI3.out.same g4 (fun r e => by cases e) HGW.out hglW)
    have HJ4 := Lib.hid (hC.own _ _ _ _ HJ3.out (Ab.grown g4 (fun r e => by cases e)))
    have hM : w.heap.size + 3 ≤ w4.heap.size := by omega
    clear hw4 g4 hw3 c5 c6 c2
    rw [s3] at xm
    gi_wp2_with fail
    refine wpIn_rangeFunc_ownG (w0 := w4) rfl (by omega) (gf := 74) (lb := #[ptrV (w.heap.size + 3)]) rfl trivial (enters_of Try.func74 (by kernel_rfl) rfl)
      (min_stops (9 - 1) (by omega) B0 Gl (w.heap.size + 3) N cl (lefV N f out) hN w4 xm HI4.out.nm)
      (fun h k => k.trans h) (fun W b o o' hl h h1 h2 => World.putObj_heap_other (by omega)) (Below.refl _ _) (fun _ => rfl)
      (fun xs W => w4.heap.size ≤ W.heap.size ∧ ∃ Φ', J Φ' (pre ++ extL N f m out (valsM xs)) W ∧ ExtI B0 N Gl cl f out (.slice a0 out.length c0) go Φ w Φ' W)
      (fun c xs W => c = .ret ∧ ∃ Φ', (∃ ys y q, xs = ys ++ [y] ∧ q <+: extN N f m (out ++ [y.1]) ∧ q ≠ [] ∧ Jx Φ' (pre ++ (extL N f m out (valsM ys) ++ q)) W) ∧ ExtI B0 N Gl cl f out (.slice a0 out.length c0) go Φ w Φ' W)
      ?hI ?hIx ⟨Nat.le_refl _, Φ, by simpa [extL, valsM] using HJ4.out, HI4.out⟩
      (fun x => { tmps := #[.slice a0 out.length c0, .slice (some ⟨Gl, 0, none⟩) N cl, ptrV Br, ptrV By, ptrV Be, ptrV w.heap.size, ptrV (w.heap.size + 1), ptrV (w.heap.size + 1 + 1), .int .i64 (x.1 : Int), .slice a0 out.length c0, .int .i64 (out.length : Int), matV A N, .int .i64 (N : Int), .bool false, undef, undef, undef, undef, .slice (some ⟨Gl, 0, none⟩) N cl, .func (.func 74) #[] #[ptrV (w.heap.size + 3)], .int .i64 (x.1 : Int), undef, undef, undef, undef, undef, undef, undef, undef, undef, undef, undef], defers := [] }) ?assign ?body ?done ?stop
    case hI =>
      rintro xs W W' row ⟨hs, Φ', hj, hi⟩ hg hr
      refine ⟨Nat.le_trans hs hg.size, Φ', hC.own _ _ _ _ hj (Ab.grown hg (fun r e => ?_)), hi.same hg (fun r e => by have := (hr r e).1; omega) HGW.out hglW⟩
      obtain ⟨h1, o, h2, h3⟩ := hr r e
      refine ⟨by omega, fun hp => ?_⟩
      obtain ⟨c', t', z', hc⟩ := hC.cells _ _ _ hj r hp
      rw [h2] at hc
      cases hc
      simp [Obj.isCells] at h3
    case hIx =>
      rintro c xs W W' row ⟨hc0, Φ', ⟨ys, y, q, hq0, hq1, hq2, hj⟩, hi⟩ hg hr
      refine ⟨hc0, Φ', ⟨ys, y, q, hq0, hq1, hq2, hC.ownx _ _ _ _ hj (Ab.grown hg (fun r e => ?_))⟩, hi.same hg (fun r e => by have := (hr r e).1; omega) HGW.out hglW⟩
      obtain ⟨h1, o, h2, h3⟩ := hr r e
      refine ⟨by omega, fun hp => ?_⟩
      obtain ⟨c', t', z', hc⟩ := hC.cellsx _ _ _ hj r hp
      rw [h2] at hc
      cases hc
      simp [Obj.isCells] at h3
    case assign =>
      intro lp x W K hK
      gi_wp2
      exact hK
    case body =>
      rintro lp xs ⟨u, hu, hpu⟩ W ⟨hsW, Φ', hj, hi⟩ hlen2
      have hfu : freeF N f out u = true := by rw [← lefV_free]; exact hpu
      have hcells := hC.cells _ _ _ hj
      have hnewW : ∀ b, W.heap.size ≤ b → ¬ Φ' b := fun b hb hp => by obtain ⟨c', t', z', hc⟩ := hcells _ hp; have := lt_of_heap hc; omega
      have hsw : w.heap.size ≤ W.heap.size := hi.fr.size
      have hol : out.length ≤ 200 := by omega
      have g0 : W.grownBy W.drew none := ⟨rfl, rfl, rfl, Nat.le_refl _, fun _ _ _ => rfl⟩
      obtain ⟨W1, hW1⟩ : ∃ x, W.drew.alloc (.cells #[.int .i64 (u : Int)] 3) = x := ⟨_, rfl⟩
      have s1 : W1.heap.size = W.heap.size + 1 := by rw [← hW1, World.size_alloc]; rfl
      have g1 : W.grownBy W1 none := by rw [← hW1]; exact grown_trans g0 (World.grownBy_alloc W.drew _ none)
      have had : W1.cell? ⟨W.heap.size, 0, none⟩ = some (.int .i64 (u : Int)) := by
        rw [← hW1]
        exact box_cell (World.alloc_heap_new W.drew _)
      have hst1 : StartR (.slice a0 out.length c0) go out W1 := hi.st.block (fun b e => g1.block b (by obtain ⟨c', hc⟩ := hi.st.type b e; exact lt_of_heap hc) (by simp))
      obtain ⟨v', gn, W2, hrun, hS2, hcase, hback⟩ := hst1.snoc u ⟨W.heap.size, 0, none⟩ had (by omega)
      have hgn : go = some gn ∨ W.heap.size ≤ gn := hcase.imp (fun h => h.1) (fun h => by omega)
      have g2 : W1.grownBy W2 (some gn) := by
        rcases hcase with ⟨_, h⟩ | ⟨_, h⟩
        · exact h
        · exact grown_weak h _
      have g12 : W.grownBy W2 (some gn) := grown_trans (grown_weak g1 _) g2
      have hgnB : B0 ≤ gn ∧ ¬ Φ' gn := by
        rcases hgn with h | h
        · exact ⟨(HGO.out gn h).1, hi.fr.not (HGW.out gn h) (HGO.out gn h).2⟩
        · exact ⟨by omega, hnewW gn h⟩
      have hgnM : go = some gn ∨ w.heap.size ≤ gn := hgn.imp id (fun h => by omega)
      have hgnl : Gl ≠ gn := fun e => by
        rcases hgn with h | h
        · exact HNE.out (by rw [e]; exact h)
        · omega
      have hF2 : Fr B0 w.heap.size Φ Φ' go w W2 := hi.fr.trans (Fr.own g12 (fun r e => by cases e; exact hgnM))
      have hE2 := HE.out.fr hF2 HGT.out
      have hEW := HE.out.fr hi.fr HGT.out
      have nm2 := hi.nm.block (g12.block Gl hi.nm.lt.2 (by simpa using hgnl))
      have HWO := Lib.hid (without_any 0 A N B0 Gl cl u g f out W2 hE2.m nm2 hN hL HORD.out hu hfu)
      have hbox : ∀ (k : Nat), k < W.heap.size → k ≠ gn → W2.heap[k]? = W.heap[k]? := fun k hk hne => g12.block k hk (by simpa using hne)
      have hl5 := lt_of_heap hi.b5
      have hl6 := lt_of_heap hi.b6
      have hl7 := lt_of_heap hi.b7
      have q5 : gn ≠ w.heap.size := fun e => by
        rcases hgn with h | h
        · have := HGW.out gn h; omega
        · omega
      have q6 : gn ≠ w.heap.size + 1 := fun e => by
        rcases hgn with h | h
        · have := HGW.out gn h; omega
        · omega
      have t5 := box_cell hi.b5
      have t6 := box_cell hi.b6
      have tr := box_cell hEW.r
      have te := box_cell hEW.e
      have t15 : W1.heap[w.heap.size]? = some (.cells #[.slice a0 out.length c0] 23 (0, 0)) := (g1.block _ hl5 (by simp)).trans hi.b5
      have t16 : W1.heap[w.heap.size + 1]? = some (.cells #[.slice (some ⟨Gl, 0, none⟩) N cl] 23 (0, 0)) := (g1.block _ hl6 (by simp)).trans hi.b6
      have t1r : W1.heap[Br]? = some (.cells #[matV A N] 53 (0, 0)) := (g1.block _ (lt_of_heap hEW.r) (by simp)).trans hEW.r
      have t1e : W1.heap[Be]? = some (.cells #[extV Br By Be] 35 (0, 0)) := (g1.block _ (lt_of_heap hEW.e) (by simp)).trans hEW.e
      have t25 := (hbox _ hl5 (Ne.symm q5)).trans hi.b5
      have t26 := (hbox _ hl6 (Ne.symm q6)).trans hi.b6
      have T15 := Lib.hid t15
      have T16 := Lib.hid t16
      have T1R := Lib.hid t1r
      have T1E := Lib.hid t1e
      have T25 := Lib.hid t25
      have T26 := Lib.hid t26
      have HE2 := Lib.hid hE2
      have HI := Lib.hid hi
      have HJ := Lib.hid hj
      have HS2 := Lib.hid hS2
      have HBK := Lib.hid hback
      have HRUN := Lib.hid hrun
      have HGNB := Lib.hid hgnB
      have HGN := Lib.hid hgn
      have HGNM := Lib.hid hgnM
      have HG12 := Lib.hid g12
      have HG2 := Lib.hid g2
      have HG1 := Lib.hid g1
      have HNW := Lib.hid hnewW
      have HCASE := Lib.hid hcase
      have HFU := Lib.hid hfu
      have HPU := Lib.hid hpu
      clear hE2 hi hj hS2 hback hrun hgnB hgn hgnM g12 g2 g1 g0 hnewW hcase hcells hst1 hF2 hEW nm2 hbox t15 t16 t1r t1e t25 t26 hfu had
      gi_wp2_with fail
      refine AnyS.calm (S := fun W' => W'.cell? ⟨Be, 0, none⟩ = some (extV Br By Be) ∧ W'.cell? ⟨w.heap.size, 0, none⟩ = some (.slice a0 out.length c0) ∧ W'.cell? ⟨Br, 0, none⟩ = some (matV A N) ∧ W'.cell? ⟨w.heap.size + 1, 0, none⟩ = some (.slice (some ⟨Gl, 0, none⟩) N cl)) (by kernel_rfl) ?_
      refine AnyS.take (i := 0) (v := extV Br By Be) (open_round _ lp _) (by kernel_rfl) rfl (by kernel_rfl) (by kernel_rfl) (fun _ _ _ h => h) (Or.inl ⟨by rfl, ?_⟩) ⟨te, t5, tr, t6⟩ ?_
      · rintro w' ⟨h1, h2, h3, h4⟩
        go_simp
      simp only [Act.put, List.setIfInBounds_toArray, List.set_cons_zero, List.set_cons_succ]
      refine AnyS.take (i := 1) (v := .slice a0 out.length c0) (open_round _ lp _) (by kernel_rfl) rfl (by kernel_rfl) (by kernel_rfl) (fun _ _ _ h => h) (Or.inl ⟨by rfl, ?_⟩) ⟨te, t5, tr, t6⟩ ?_
      · rintro w' ⟨h1, h2, h3, h4⟩
        go_simp
      simp only [Act.put, List.setIfInBounds_toArray, List.set_cons_zero, List.set_cons_succ]
      refine AnyS.take (i := 2) (v := .int .i64 (u : Int)) (open_round _ lp _) (by kernel_rfl) rfl (by kernel_rfl) (by kernel_rfl) (fun _ _ _ h => h) (Or.inl ⟨by rfl, ?_⟩) ⟨te, t5, tr, t6⟩ ?_
      · rintro w' ⟨h1, h2, h3, h4⟩
        go_simp
      simp only [Act.put, List.setIfInBounds_toArray, List.set_cons_zero, List.set_cons_succ]
      refine AnyS.take (i := 5) (v := matV A N) (open_round _ lp _) (by kernel_rfl) rfl (by kernel_rfl) (by kernel_rfl) (fun _ _ _ h => h) (Or.inl ⟨by rfl, ?_⟩) ⟨te, t5, tr, t6⟩ ?_
      · rintro w' ⟨h1, h2, h3, h4⟩
        go_simp
      simp only [Act.put, List.setIfInBounds_toArray, List.set_cons_zero, List.set_cons_succ]
      refine AnyS.take (i := 6) (v := .slice (some ⟨Gl, 0, none⟩) N cl) (open_round _ lp _) (by kernel_rfl) rfl (by kernel_rfl) (by kernel_rfl) (fun _ _ _ h => h) (Or.inl ⟨by rfl, ?_⟩) ⟨te, t5, tr, t6⟩ ?_
      · rintro w' ⟨h1, h2, h3, h4⟩
        go_simp
      simp only [Act.put, List.setIfInBounds_toArray, List.set_cons_zero, List.set_cons_succ]
      refine AnyS.take (i := 7) (v := .int .i64 (u : Int)) (open_round _ lp _) (by kernel_rfl) rfl (by kernel_rfl) (by kernel_rfl) (fun _ _ _ h => h) (Or.inl ⟨by rfl, ?_⟩) ⟨te, t5, tr, t6⟩ ?_
      · rintro w' ⟨h1, h2, h3, h4⟩
        go_simp
      simp only [Act.put, List.setIfInBounds_toArray, List.set_cons_zero, List.set_cons_succ]
      refine AnyS.next (i := 3) rfl (by kernel_rfl) ?_
      gi_wp2
      refine ⟨⟨box_cell T1E.out, box_cell T15.out, box_cell T1R.out, box_cell T16.out⟩, ?_⟩
      refine AnyS.next (i := 4) rfl (by kernel_rfl) ?_
      gi_wp2_with (gi_at_builtin; refine wpListIn_append_run _ rfl _ _ 23 rfl _ _ _ _ rfl rfl HRUN.out ?_)
      refine ⟨⟨box_cell HE2.out.e, box_cell T25.out, box_cell HE2.out.r, box_cell T26.out⟩, ?_⟩
      refine AnyS.next (i := 8) rfl (by kernel_rfl) ?_
      gi_wp2_with fail
      refine ⟨trivial, ?_⟩
      refine (CallsIn.inRound lp (callsIn_wide.2 HWO.out)).mono ?_
      rintro e W3 ⟨G, c, rfl, hnm3, b3⟩
      have g3 : W2.grownBy W3 none := grownOf b3
      have g13 : W.grownBy W3 (some gn) := grown_trans HG12.out (grown_weak g3 _)
      have hF3 : Fr B0 w.heap.size Φ Φ' go w W3 := HI.out.fr.trans (Fr.own g13 (fun r e => by cases e; exact HGNM.out))
      have hE3 := HE.out.fr hF3 HGT.out
      have hS3 : StartR v' (some gn) (out ++ [u]) W3 := HS2.out.block (fun b e => g3.block b (by obtain ⟨c', hc⟩ := HS2.out.type b e; exact lt_of_heap hc) (by simp))
      have hgn2 : gn < W2.heap.size := by obtain ⟨c', hc⟩ := HS2.out.type gn rfl; exact lt_of_heap hc
      have hG3 := hnm3.lt
      have hJ3 := hC.own _ _ _ _ HJ.out (Ab.grown g13 (fun r e => by cases e; exact HGNB.out))
      have s2W : W.heap.size ≤ W2.heap.size := HG12.out.size
      have r5 := (g3.block _ (lt_of_heap T25.out) (by simp)).trans T25.out
      have r6 := (g3.block _ (lt_of_heap T26.out) (by simp)).trans T26.out
      have HREC := Lib.hid (HIH.out (out ++ [u]) v' (some gn) G c Φ' (pre ++ extL N f m out (valsM xs)) W3 (by simp; omega) (HORD.out.snoc hL hu HFU.out) hS3 (fun b e => by cases e; exact HGNB.out) (ownsRow_base (by omega) hnm3) (HNW.out G (by omega)) (fun e => by cases e; omega) hE3 hJ3 (by omega))
      have HE3 := Lib.hid hE3
      have R5 := Lib.hid r5
      have R6 := Lib.hid r6
      have HG13 := Lib.hid g13
      have HG3 := Lib.hid g3
      have HGN2 := Lib.hid hgn2
      clear hE3 r5 r6 g13 g3 hF3 hS3 hJ3 hnm3 b3 hgn2
      gi_wp2
      refine ⟨⟨box_cell HE3.out.e, box_cell R5.out, box_cell HE3.out.r, box_cell R6.out⟩, ?_⟩
      refine AnyS.next (i := 9) rfl (by kernel_rfl) ?_
      gi_wp2_with fail
      refine ⟨trivial, ?_⟩
      refine (CallsIn.inRound lp (callsIn_wide.2 HREC.out)).mono ?_
      rintro e W4 ⟨Φ'', k4, hS4, hres⟩
      have hgneq : ∀ b, b < W.heap.size → go ≠ some b → b ≠ gn := fun b hb hne e => by
        subst e
        rcases HGN.out with h1 | h1
        · exact hne h1
        · omega
      have kk : ∀ (b : Nat) (o : Obj), W.heap[b]? = some o → b ≠ gn → ¬ Φ' b → (B0 ≤ b ∨ o.isCells = true) → W4.heap[b]? = some o := fun b o hb hne hn hc => by
        have hlt := lt_of_heap hb
        exact k4.keep b o (by have := HG13.out.size; omega) ((HG13.out.block b hlt (by simpa using hne)).trans hb) hn (by simpa using Ne.symm hne) hc
      have hSt4 : StartR (.slice a0 out.length c0) go out W4 := HBK.out W4 hS4 (fun b e hne => by
        obtain ⟨c', hc⟩ := HI.out.st.type b e
        rw [kk b _ hc hne (HI.out.fr.not (HGW.out b e) (HGO.out b e).2) (.inr rfl)]
        exact ((HG1.out.block b (lt_of_heap hc) (by simp)).trans hc).symm)
      have hI4 : ExtI B0 N Gl cl f out (.slice a0 out.length c0) go Φ w Φ'' W4 := HI.out.call HG13.out HGN.out k4 hSt4 HGW.out hglW HNE.out
      have hE4 := HE.out.fr hI4.fr HGT.out
      have hKF : KeepsFrom w4.heap.size W W4 := ⟨Nat.le_trans HG13.out.size k4.size, fun k o hk hko ho => by
        refine kk k o hko (fun e => ?_) (fun hp => ?_) (.inl (by omega))
        · subst e
          rcases HGN.out with h1 | h1
          · have := HGW.out _ h1; omega
          · have := lt_of_heap hko; omega
        · obtain ⟨c', t', z', hc⟩ := hC.cells _ _ _ HJ.out k hp
          rw [hko] at hc
          cases hc
          simp [Obj.isCells] at ho⟩
      have hKG : KG Gl W W4 := by
        obtain ⟨c', hc⟩ := own_typeS HI.out.nm
        exact (kk Gl _ hc hgnl HI.out.ng (.inr rfl)).trans hc.symm
      have HKF := Lib.hid hKF
      have HKG := Lib.hid hKG
      have HI4 := Lib.hid hI4
      have HE4 := Lib.hid hE4
      have hs4 : w4.heap.size ≤ W4.heap.size := by have := hKF.size; omega
      clear k4 hS4 kk hSt4 hI4 hE4 hKF hKG hgneq HREC
      rcases hres with ⟨rfl, hj⟩ | ⟨rfl, q, hq1, hq2, hj⟩
      · have HJ4 : Hid (J Φ'' (pre ++ extL N f m out (valsM (xs ++ [⟨u, hu, HPU.out⟩]))) W4) := Lib.hid (by rw [valsM_snoc, extL_snoc, ← List.append_assoc]; exact hj)
        clear hj
        gi_wp2
        refine ⟨⟨box_cell HE4.out.e, box_cell HI4.out.b5, box_cell HE4.out.r, box_cell HI4.out.b6⟩, ?_⟩
        refine AnyS.next (i := 10) rfl (by kernel_rfl) ?_
        gi_wp2
        refine ⟨⟨box_cell HE4.out.e, box_cell HI4.out.b5, box_cell HE4.out.r, box_cell HI4.out.b6⟩, ?_⟩
        refine AnyS.done (by kernel_rfl) ?_ _
        dsimp only [calmQ]
        gi_wp2
        exact ⟨HKF.out, HKG.out, hs4, Φ'', HJ4.out, HI4.out⟩
      · have HJ4 : Hid (Jx Φ'' (pre ++ (extL N f m out (valsM xs) ++ q)) W4) := Lib.hid (by rw [← List.append_assoc]; exact hj)
        clear hj
        have d7 := box_cell HI4.out.b7
        have z7 := Lib.frozen_of_heap HI4.out.b7 0
        obtain ⟨W5, hW5⟩ : ∃ x, W4.setCell ⟨w.heap.size + 1 + 1, 0, none⟩ (.bool false) = x := ⟨_, rfl⟩
        have g5 : W4.grownBy W5 none := by
          have g := grownBy_setCell' W4 (w.heap.size + 1 + 1) (.bool false)
          rw [hW5] at g
          refine ⟨g.os, g.tape, g.output, g.size, fun k hk _ => ?_⟩
          by_cases e : k = w.heap.size + 1 + 1
          · subst e
            rw [← hW5, heap_setCell_same W4 _ 0 _ _ _ HI4.out.b7, HI4.out.b7]
            rfl
          · exact g.block k hk (by simpa using e)
        have HI5 := Lib.hid (HI4.out.same g5 (fun r e => by cases e) HGW.out hglW)
        have HJ5 := Lib.hid (hC.ownx _ _ _ _ HJ4.out (Ab.grown g5 (fun r e => by cases e)))
        have HKF5 : Hid (KeepsFrom w4.heap.size W W5) := Lib.hid ⟨Nat.le_trans HKF.out.size g5.size, fun k o hk hko ho => by
          have h4 := HKF.out.same k o hk hko ho
          exact (g5.block k (lt_of_heap h4) (by simp)).trans h4⟩
        clear g5
        gi_wp2
        refine ⟨⟨box_cell HE4.out.e, box_cell HI4.out.b5, box_cell HE4.out.r, box_cell HI4.out.b6⟩, ?_⟩
        refine AnyS.next (i := 10) rfl (by kernel_rfl) ?_
        gi_wp2
        refine ⟨⟨box_cell HE4.out.e, box_cell HI4.out.b5, box_cell HE4.out.r, box_cell HI4.out.b6⟩, ?_⟩
        refine AnyS.done (by kernel_rfl) ?_ _
        dsimp only [calmQ]
        gi_wp2
        exact ⟨HKF5.out, rfl, Φ'', ⟨xs, ⟨u, hu, HPU.out⟩, q, rfl, hq1, hq2, HJ5.out⟩, HI5.out⟩
    case done =>
      rintro D xs W hD hx ⟨hsW, Φ', hj, hi⟩ hK
      have hsel : selN N (zeroB (lefV N f out)) = selN N (freeF N f out) := by
        have : zeroB (lefV N f out) = freeF N f out := by funext j; exact lefV_free
        rw [this]
      have HX : Hid (extL N f m out (valsM xs) = extN N f (m + 1) out) := Lib.hid (by rw [hx, hsel, extN_succ])
      have d7 := box_cell hi.b7
      have z7 := Lib.frozen_of_heap hi.b7 0
      obtain ⟨W5, hW5⟩ : ∃ x, W.setCell ⟨w.heap.size + 1 + 1, 0, none⟩ (.bool true) = x := ⟨_, rfl⟩
      have g5 : W.grownBy W5 (some (w.heap.size + 1 + 1)) := by rw [← hW5]; exact grownBy_setCell' W _ _
      have e7 : W5.heap[w.heap.size + 1 + 1]? = some (.cells #[.bool true] 4 (0, 0)) := by
        rw [← hW5, heap_setCell_same W _ 0 _ _ _ hi.b7]
        rfl
      have hK5 : W5.heap[D]? = some (.deferred (some [])) := (g5.block D (lt_of_heap hK) (by simp; omega)).trans hK
      have gD := grownBy_putObj' W5 D (.deferred none)
      have hnD : ¬ Φ' D := fun hp => by
        obtain ⟨c', t', z', hc⟩ := hC.cells _ _ _ hj D hp
        rw [hK] at hc
        cases hc
      have hJ6 := hC.own _ _ _ _ (hC.own _ _ _ _ hj (Ab.grown g5 (fun r e => by cases e; exact ⟨by omega, hi.n7⟩))) (Ab.grown gD (fun r e => by cases e; exact ⟨by omega, hnD⟩))
      have hF6 := (hi.fr.trans (Fr.own (B0 := B0) (M := w.heap.size) (Φ := Φ') (go := go) g5 (fun r e => by cases e; exact .inr (by omega)))).trans (Fr.own (B0 := B0) (M := w.heap.size) (Φ := Φ') (go := go) gD (fun r e => by cases e; exact .inr (by omega)))
      have e76 : (W5.putObj D (.deferred none)).heap[w.heap.size + 1 + 1]? = some (.cells #[.bool true] 4 (0, 0)) := (gD.block _ (lt_of_heap e7) (by simp; omega)).trans e7
      have hst6 : StartR (.slice a0 out.length c0) go out (W5.putObj D (.deferred none)) := hi.st.block (fun b e => by
        obtain ⟨c', hc⟩ := hi.st.type b e
        have hb := HGW.out b e
        have hbW := lt_of_heap hc
        rw [gD.block b (by have := g5.size; omega) (by simp; omega), g5.block b hbW (by simp; omega)])
      have HJ6 := Lib.hid hJ6
      have HF6 := Lib.hid hF6
      have HST6 := Lib.hid hst6
      have HK5 := Lib.hid hK5
      have E76 := Lib.hid e76
      clear hj hi hx hsel g5 e7 hK hK5 gD hnD hJ6 hF6 e76 hst6
      gi_wp2
      refine ⟨by simp, .inl ⟨_, _, rfl, run_takeDeferred HK5.out, ?_⟩⟩
      refine ⟨_, ext_result _ _ _ _ rfl (box_cell E76.out), Φ', HF6.out, HST6.out, .inl ⟨rfl, ?_⟩⟩
      rw [← HX.out]
      exact HJ6.out
    case stop =>
      rintro D c xs W hD hx ⟨rfl, Φ', ⟨ys, y, q, rfl, hq1, hq2, hj⟩, hi⟩ hK
      have hsel : selN N (zeroB (lefV N f out)) = selN N (freeF N f out) := by
        have : zeroB (lefV N f out) = freeF N f out := by funext j; exact lefV_free
        rw [this]
      rw [valsM_snoc, hsel] at hx
      have HPRE := Lib.hid (extL_pre hx hq1)
      have gD := grownBy_putObj' W D (.deferred none)
      have hnD : ¬ Φ' D := fun hp => by
        obtain ⟨c', t', z', hc⟩ := hC.cellsx _ _ _ hj D hp
        rw [hK] at hc
        cases hc
      have HJ6 := Lib.hid (hC.ownx _ _ _ _ hj (Ab.grown gD (fun r e => by cases e; exact ⟨by omega, hnD⟩)))
      have HI6 := Lib.hid (hi.same gD (fun r e => by cases e; omega) HGW.out hglW)
      have HK := Lib.hid hK
      have hne : extL N f m out (valsM ys) ++ q ≠ [] := by
        intro e
        exact hq2 (List.append_eq_nil_iff.1 e).2
      have HNE2 := Lib.hid hne
      clear hj hi hx hsel hK gD hnD hne
      gi_wp2
      refine ⟨by simp, .inl ⟨_, _, rfl, run_takeDeferred HK.out, ?_⟩⟩
      exact ⟨_, ext_result _ _ _ _ rfl (box_cell HI6.out.b7), Φ', HI6.out.fr, HI6.out.st, .inr ⟨rfl, _, HPRE.out, HNE2.out, HJ6.out⟩⟩

end Go.Proofs.Ytbfeiegjhcjbnaa
