/-
  A loop in whose rounds a range over a function stands: the marks on the activation's deferred calls grow from round to round.
-/
import Derived.RangeFuncNested
import Derived.RangeFuncCalls
import Derived.RangeFuncLeaves
import Derived.Deep.LoopGhost
import Derived.Test.YtcggmonnajggcaaDevAhead
namespace Go.Proofs.Ytcggmonnajggcaa
open Go.RowKit

theorem wpIn_loop_ghost {F : Fence} {n : Nat} {P : Program} {Q : Exit → Act → World → Prop} {a : Act} {w : World} {c : Code} (I : Nat → Act → World → Prop) (n₀ : Nat) (h₀ : I n₀ a w)
    (round : ∀ k a w, I k a w → ∀ K : Act → World → Prop, (∀ k' a' w', k' < k → I k' a' w' → K a' w') → c.wpIn F n P (Exit.then K Q) a w) : (Code.loop c).wpIn F n P Q a w := by
  refine wpIn_loop (fun a w => ∃ n, I n a w) (fun a w => leastOf (fun n => I n a w)) ⟨n₀, h₀⟩ ?_
  intro a w hI
  have hs := leastOf_spec hI
  exact round _ a w hs.1 _ (fun k' a' w' hlt hI' => ⟨⟨k', hI'⟩, Nat.lt_of_le_of_lt ((leastOf_spec (p := fun n => I n a' w') ⟨k', hI'⟩).2 k' hI') hlt⟩)

/-- The marks that the ranges over a function have left: each one's block is there, and holds no call. -/
def DefsOk (B : Nat) (ds : List Deferred) (w : World) : Prop := ∃ Ds : List Nat, ds = Ds.map (fun D => { target := .collected D, args := #[] }) ∧ Ds.Nodup ∧ ∀ D, D ∈ Ds → B ≤ D ∧ w.heap[D]? = some (.deferred (some []))
theorem DefsOk.nil (B : Nat) (w : World) : DefsOk B [] w := ⟨[], rfl, List.nodup_nil, fun D h => by simp at h⟩
/-- Whatever is no cells lies as it lay. -/
def Keeps (A W : World) : Prop := ∀ (k : Nat) (o : Obj), A.heap[k]? = some o → o.isCells = false → W.heap[k]? = some o
theorem Keeps.refl (A : World) : Keeps A A := fun _ _ h _ => h
theorem Keeps.trans {A B C : World} (h : Keeps A B) (k : Keeps B C) : Keeps A C := fun i o hi ho => k i o (h i o hi ho) ho
theorem Keeps.below {A W : World} (h : Below A.heap.size A W) : Keeps A W := fun k _ hk _ => (h.block k (Array.getElem?_eq_some_iff.1 hk).1).trans hk
theorem Keeps.grown {A W : World} (h : A.grownBy W none) : Keeps A W := fun k _ hk _ => (h.block k (Array.getElem?_eq_some_iff.1 hk).1 (by simp)).trans hk
theorem Keeps.row {A W : World} {row : Option Nat} (h : A.grownBy W row) (hr : ∀ r, row = some r → ∃ c t fz, A.heap[r]? = some (.cells c t fz)) : Keeps A W := fun k o hk ho => by
  rw [h.block k (Array.getElem?_eq_some_iff.1 hk).1 ?_]
  · exact hk
  · intro e
    obtain ⟨c, t, fz, hc⟩ := hr k e.symm
    rw [hk] at hc
    cases hc
    simp [Obj.isCells] at ho
theorem DefsOk.keep {B : Nat} {ds : List Deferred} {w W : World} (h : DefsOk B ds w) (hk : Keeps w W) : DefsOk B ds W := by
  obtain ⟨Ds, e, hn, ha⟩ := h
  exact ⟨Ds, e, hn, fun D hD => ⟨(ha D hD).1, hk D _ (ha D hD).2 rfl⟩⟩
theorem DefsOk.cons {B : Nat} {ds : List Deferred} {w W : World} {D : Nat} (h : DefsOk B ds w) (hk : Keeps w W) (hD : w.heap.size ≤ D) (hB : B ≤ D) (hw : W.heap[D]? = some (.deferred (some []))) : DefsOk B ({ target := .collected D, args := #[] } :: ds) W := by
  obtain ⟨Ds, rfl, hn, ha⟩ := h
  refine ⟨D :: Ds, rfl, List.nodup_cons.2 ⟨fun hm => ?_, hn⟩, fun E hE => ?_⟩
  · have := (Array.getElem?_eq_some_iff.1 (ha D hm).2).1
    omega
  · rcases List.mem_cons.1 hE with rfl | hE
    · exact ⟨hB, hw⟩
    · exact ⟨(ha E hE).1, hk E _ (ha E hE).2 rfl⟩
/-- What taking the marks over does to the world: what lies below B, and all cells, lie as they lay. -/
structure Shut (B : Nat) (w w' : World) : Prop where
  below : Below B w w'
  cells : ∀ (k : Nat) (c : Array Value) (t : TypeId) (fz : Nat × Nat), w.heap[k]? = some (.cells c t fz) → w'.heap[k]? = some (.cells c t fz)
theorem Shut.own {B B0 n s : Nat} {T : TypeId} {v : Value} {xs : List Value} {w w' : World} (h : Shut B w w') (ho : w.ownsRow B0 T s v n xs) : w'.ownsRow B0 T s v n xs := by
  obtain ⟨h1, h2⟩ := ho
  refine ⟨h1, ?_⟩
  rcases h2 with h2 | ⟨g, cap, cur, e, hb, hg, r⟩
  · exact .inl h2
  · exact .inr ⟨g, cap, cur, e, hb, h.cells g _ _ _ hg, r⟩
theorem DefsOk.leaves {F : Fence} {n : Nat} {P : Program} {fn : Func} {tmps : Array Value} {R : Ending → World → Prop} {B : Nat} {ds : List Deferred} {w : World} (h : DefsOk B ds w)
    (hR : ∀ w', Shut B w w' → LeavesIn F n P fn tmps R [] .returning w') : LeavesInM F n P fn tmps R ds .returning w := by
  obtain ⟨Ds, rfl, hn, ha⟩ := h
  induction Ds generalizing w with
  | nil => exact hR w ⟨Below.refl _ _, fun _ _ _ _ h => h⟩
  | cons D Ds ih =>
    obtain ⟨hn1, hn2⟩ := List.nodup_cons.1 hn
    have hD := ha D (by simp)
    refine ⟨by simp, .inl ⟨D, _, rfl, run_takeDeferred hD.2, ih ?_ hn2 ?_⟩⟩
    · intro w' hs
      refine hR w' ⟨?_, fun k c t fz hk => hs.cells k c t fz ?_⟩
      · refine (Below.trans ?_ hs.below)
        have hlt := (Array.getElem?_eq_some_iff.1 hD.2).1
        exact ⟨rfl, rfl, rfl, by simp, fun k hk => World.putObj_heap_other (by omega)⟩
      · rw [World.putObj_heap_other]
        · exact hk
        · rintro rfl
          rw [hD.2] at hk
          cases hk
    · intro E hE
      have hEE := ha E (by simp [hE])
      refine ⟨hEE.1, ?_⟩
      rw [World.putObj_heap_other]
      · exact hEE.2
      · rintro rfl
        exact hn1 hE

end Go.Proofs.Ytcggmonnajggcaa
