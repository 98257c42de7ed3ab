/-
  What the program's Extensions and Least of partialorder return.
-/
import Derived.Test.YtbfeiegjhcjbnaaPoIter
import Derived.Test.YtbfeiegjhcjbnaaPoGen
namespace Go.Proofs.Ytbfeiegjhcjbnaa
open Go.RowKit Go.Shelf
attribute [local go_sem] Oper.semAt_some

abbrev TL : TypeId := 23
theorem infoL : (Try.prog.info? TL).map (fun i => (i.zero, i.size, i.bytes)) = some (some (.slice none 0 0), 1, 24) := by kernel_rfl

/-- An extension that has been collected. -/
def ElR (B : Nat) (x : List Nat) (v : Value) (W : World) : Prop := (v = .slice none 0 0 ∧ x = []) ∨ ∃ G c, v = .slice (some ⟨G, 0, none⟩) x.length c ∧ W.ownsRow B TI 1 v x.length (natV x)
/-- The extensions that have been collected. -/
def LisR (B : Nat) (ll : List (List Nat)) (v : Value) (vs : List Value) (W : World) : Prop := W.ownsRow B TL 1 v ll.length vs ∧ vs.length = ll.length ∧ ∀ (i : Nat) (x : List Nat) (u : Value), ll[i]? = some x → vs[i]? = some u → ElR B x u W
theorem ElR.keep {B : Nat} {x : List Nat} {v : Value} {A W : World} (h : ElR B x v A) (hk : ∀ b, v.ownBlock = some b → W.heap[b]? = A.heap[b]?) : ElR B x v W := by
  rcases h with h | ⟨G, c, rfl, ho⟩
  · exact .inl h
  · exact .inr ⟨G, c, rfl, own_keep ho (hk G rfl)⟩
theorem ElR.type {B : Nat} {x : List Nat} {v : Value} {A : World} (h : ElR B x v A) : ∀ b, v.ownBlock = some b → ∃ c, A.heap[b]? = some (.cells c TI (0, 0)) := by
  intro b hb
  rcases h with ⟨rfl, _⟩ | ⟨G, c, rfl, ho⟩
  · simp [Value.ownBlock] at hb
  · simp [Value.ownBlock] at hb
    subst hb
    exact own_typeS ho
theorem own_nilkeep {B n s : Nat} {T : TypeId} {v : Value} {xs : List Value} {A W : World} (h : A.ownsRow B T s v n xs) (hk : ∀ b, v.ownBlock = some b → W.heap[b]? = A.heap[b]?) : W.ownsRow B T s v n xs := by
  obtain ⟨h1, h2⟩ := h
  refine ⟨h1, ?_⟩
  rcases h2 with e | ⟨g', cap, cur, e, hB, hgg, r⟩
  · exact .inl e
  · subst e
    exact .inr ⟨_, _, cur, rfl, hB, (hk g' rfl).trans hgg, r⟩
theorem own_nilType {B n s : Nat} {T : TypeId} {v : Value} {xs : List Value} {A : World} (h : A.ownsRow B T s v n xs) : ∀ b, v.ownBlock = some b → B ≤ b ∧ ∃ c, A.heap[b]? = some (.cells c T (0, 0)) := by
  intro b hb
  rcases h.2 with ⟨rfl, _⟩ | ⟨g', cap, cur, rfl, hB, hgg, r⟩
  · simp [Value.ownBlock] at hb
  · simp [Value.ownBlock] at hb
    subst hb
    exact ⟨hB, _, hgg⟩

/-- The collector's blocks: its variable, the row of what it has collected, the extensions' own rows. -/
def phiC (E : Nat) (v : Value) (vs : List Value) (b : Nat) : Prop := b = E ∨ v.ownBlock = some b ∨ ∃ u, u ∈ vs ∧ u.ownBlock = some b
/-- What the collector has when it has been handed these extensions: the first most ones. -/
structure ColI (w : World) (T E most : Nat) (Φ : Nat → Prop) (ll : List (List Nat)) (v : Value) (vs : List Value) (W : World) : Prop where
  below : Below w.heap.size w W
  hT : w.heap.size ≤ T
  hE : w.heap.size ≤ E
  t : W.heap[T]? = some (.cells #[.int .i64 (most : Int)] 3 (0, 0))
  e : W.heap[E]? = some (.cells #[v] 36 (0, 0))
  l : LisR w.heap.size ll v vs W
  phi : ∀ b, Φ b → phiC E v vs b
  phi' : ∀ b, phiC E v vs b → Φ b
theorem ColI.cells {w W : World} {T E most : Nat} {Φ : Nat → Prop} {ll : List (List Nat)} {v : Value} {vs : List Value} (h : ColI w T E most Φ ll v vs W) : ∀ b, Φ b → ∃ c t z, W.heap[b]? = some (.cells c t z) := by
  intro b hb
  rcases h.phi b hb with rfl | hv | ⟨u, hu, hv⟩
  · exact ⟨_, _, _, h.e⟩
  · obtain ⟨_, c, hc⟩ := own_nilType h.l.1 b hv
    exact ⟨_, _, _, hc⟩
  · obtain ⟨i, hi, e⟩ := List.getElem_of_mem hu
    have hl := h.l.2.1
    obtain ⟨c, hc⟩ := (h.l.2.2 i _ u (List.getElem?_eq_getElem (by omega)) (by rw [List.getElem?_eq_getElem hi, e])).type b hv
    exact ⟨_, _, _, hc⟩
/-- Steps that turn none of the collector's blocks, nor what lay before. -/
theorem ColI.keep {w A B : World} {T E most : Nat} {Φ : Nat → Prop} {ll : List (List Nat)} {v : Value} {vs : List Value} (h : ColI w T E most Φ ll v vs A) (hb : Below w.heap.size A B) (hT : B.heap[T]? = A.heap[T]?) (hk : ∀ b, Φ b → B.heap[b]? = A.heap[b]?) : ColI w T E most Φ ll v vs B where
  below := h.below.trans hb
  hT := h.hT
  hE := h.hE
  t := hT.trans h.t
  e := (hk E (h.phi' E (.inl rfl))).trans h.e
  l := ⟨own_nilkeep h.l.1 (fun b hv => hk b (h.phi' b (.inr (.inl hv)))), h.l.2.1, fun i x u hx hu => (h.l.2.2 i x u hx hu).keep (fun b hv => hk b (h.phi' b (.inr (.inr ⟨u, List.mem_of_getElem? hu, hv⟩))))⟩
  phi := h.phi
  phi' := h.phi'
theorem ColI.own {w A B : World} {T E most B0 : Nat} {Φ : Nat → Prop} {ll : List (List Nat)} {v : Value} {vs : List Value} (h : ColI w T E most Φ ll v vs A) (hT : T < B0) (k : Ab B0 Φ A B) (hw : w.heap.size ≤ B0) : ColI w T E most Φ ll v vs B := by
  refine h.keep ⟨k.os, k.tape, k.output, k.size, fun b hb => ?_⟩ ?_ (fun b hb => ?_)
  · have hlt : b < A.heap.size := by have := h.below.size; omega
    obtain ⟨o, ho⟩ : ∃ o, A.heap[b]? = some o := ⟨_, Array.getElem?_eq_getElem hlt⟩
    rw [ho]
    exact k.keep b o ho (.inl (by omega))
  · rw [h.t]
    exact k.keep T _ h.t (.inl hT)
  · obtain ⟨c, t, z, hc⟩ := h.cells b hb
    rw [hc]
    exact k.keep b _ hc (.inr hb)
theorem ColI.turn {w A B : World} {T E most r : Nat} {o : Obj} {Φ : Nat → Prop} {ll : List (List Nat)} {v : Value} {vs : List Value} (h : ColI w T E most Φ ll v vs A) (hg : A.grownBy B (some r)) (ho : A.heap[r]? = some o) (hc : o.isCells = false) (hr : w.heap.size ≤ r) : ColI w T E most Φ ll v vs B := by
  refine h.keep ⟨hg.os, hg.tape, hg.output, hg.size, fun b hb => hg.block b (by have := h.below.size; omega) (by simp; omega)⟩ (hg.block T (lt_of_heap h.t) (fun e => ?_)) (fun b hb => ?_)
  · cases e
    rw [h.t] at ho
    cases ho
    simp [Obj.isCells] at hc
  · obtain ⟨c, t, z, hcc⟩ := h.cells b hb
    refine hg.block b (lt_of_heap hcc) (fun e => ?_)
    cases e
    rw [hcc] at ho
    cases ho
    simp [Obj.isCells] at hc

/-- One extension more: into the row itself, or a new one. -/
theorem appendL {B n : Nat} {v u : Value} {vs : List Value} {w : World} (h : w.ownsRow B TL 1 v n vs) (hB : B ≤ w.heap.size) (hu : u.oneCell' = true) (ad : Addr) (had : w.cell? ad = some u) (hn : n ≤ 6000) :
    ∃ (v' : Value) (w' : World) (gn : Nat), (Builtin.append_ #[36, 36] 36 #[v, .slice (some ad) 1 1]).run Try.prog w = .ok v' w' ∧ w'.ownsRow B TL 1 v' (n + 1) (vs ++ [u]) ∧ v'.ownBlock = some gn ∧
      ((v.ownBlock = some gn ∧ w.grownBy w' (some gn)) ∨ (w.heap.size ≤ gn ∧ w.grownBy w' none)) := by
  obtain ⟨i1, ji, jz0, jz1, jz2⟩ := info_parts infoL
  have hone : ∀ x ∈ [u], x.oneCell' = true := by
    intro x hx
    simp at hx
    subst hx
    exact hu
  have hnews : ∀ (j : Nat) (x : Value), [u][j]? = some x → w.cell? (ad.add j) = some x := by
    intro j x hj
    match j, hj with
    | 0, hj =>
      simp at hj
      subst hj
      have : ad.add 0 = ad := by obtain ⟨a, b, c⟩ := ad; cases c <;> simp [Addr.add]
      rw [this]
      exact had
  have fresh : ∀ (v' : Value) (w' : World), w'.ownsRow w.heap.size TL 1 v' (n + 1) (vs ++ [u]) → ∃ gn, v'.ownBlock = some gn ∧ w.heap.size ≤ gn := by
    intro v' w' ho
    rcases ho.2 with ⟨_, e⟩ | ⟨g', cap', cur', rfl, hBg, _⟩
    · omega
    · exact ⟨g', rfl, hBg⟩
  have h' := h
  rcases h.2 with ⟨rfl, e⟩ | ⟨g, cap, cur, rfl, hBg, hg, k1, k2, k3, k4⟩
  · subst e
    have hvs : vs = [] := by have := h.1; simpa using this
    subst hvs
    obtain ⟨v', w', hrun, ho, hgw, _⟩ := run_append_own (P := Try.prog) w w.heap.size 36 36 TL i1 (.slice none 0 0) 1 24 Try.underlying36 ji jz0 jz1 jz2 rfl (by decide) (.slice none 0 0) 0 [] (World.ownsRow_nil _ _ _ _) ad 1 1 [u] rfl hnews hone (by unfold maxLen; omega) (by omega) (Nat.le_refl _)
    obtain ⟨gn, e1, e2⟩ := fresh v' w' ho
    exact ⟨v', w', gn, hrun, ownsRow_base hB ho, e1, .inr ⟨e2, hgw⟩⟩
  · by_cases hr : n + 1 ≤ cap
    · obtain ⟨v', w', hrun, ho, hgw, _⟩ := run_append_own (P := Try.prog) w B 36 36 TL i1 (.slice none 0 0) 1 24 Try.underlying36 ji jz0 jz1 jz2 rfl (by decide) _ n vs h' ad 1 1 [u] rfl hnews hone (by unfold maxLen; omega) (by omega) hB
      have hroom := run_append_room_cells (P := Try.prog) w 36 36 TL i1 Try.underlying36 ji g 0 n cap ad 1 1 [u] (by rw [jz1]; rfl) hnews hone hr (fun j hj => by
        simp at hj
        subst hj
        rw [jz1, Nat.mul_one, Nat.add_zero, Nat.zero_add, Lib.cell_of_heap hg]
        have : n < cur.size := by omega
        simp [this]) (fun j hj => by rw [Lib.frozen_of_heap hg])
      rw [hroom] at hrun
      injection hrun with e1 e2
      refine ⟨v', w', g, ?_, ho, ?_, .inl ⟨rfl, hgw⟩⟩
      · rw [hroom, e1, e2]
      · rw [← e1]
        rfl
    · obtain ⟨v', w', hrun, ho, hgw⟩ := run_append_arg_grows (P := Try.prog) w 36 36 TL i1 (.slice none 0 0) 1 24 Try.underlying36 ji jz0 jz1 jz2 rfl (by decide) ⟨g, 0, none⟩ n cap vs (by have := h'.1; omega) (fun j x hj => by
        have hlt := (List.getElem?_eq_some_iff.1 hj).1
        have := World.ownsRow.cellAt h' j (by have := h'.1; omega)
        rw [hj] at this
        rw [Go.WideShapes.add_plain, Nat.zero_add]
        exact this) ad 1 1 [u] rfl hnews (by omega) (by unfold maxLen; omega) (by omega)
      obtain ⟨gn, e1, e2⟩ := fresh v' w' ho
      exact ⟨v', w', gn, hrun, ownsRow_base hB ho, e1, .inr ⟨e2, hgw⟩⟩

end Go.Proofs.Ytbfeiegjhcjbnaa
