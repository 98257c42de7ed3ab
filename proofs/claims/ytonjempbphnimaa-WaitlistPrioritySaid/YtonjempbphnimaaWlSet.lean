/-
  What the program's set of tasks holds, and what add does to it.
-/
import Derived.Maps.OwnOps
import Derived.Maps.OwnSet
import Derived.Maps.Views
import Derived.RangeFuncBox
import Derived.Test.YtonjempbphnimaaWlVal
namespace Go.Proofs.Ytonjempbphnimaa
open Go.RowKit Go.Shelf Go.Maps

abbrev TS : TypeId := 65
abbrev TMp : TypeId := 63
theorem keyedI : Keyed Try.prog 3 := int_keyed Try.underlying3
/-- The cells of a set: of each task whether it is there, and the map of the others. -/
def tsL (seen : List Int) (mb : Option Nat) : List Value := (List.range 16).map (fun i : Nat => Value.bool (decide ((i : Int) ∈ seen))) ++ [.map mb]
structure TsI (g : Nat) (mb : Option Nat) (seen : List Int) (W : World) : Prop where
  blk : W.heap[g]? = some (.cells (tsL seen mb).toArray TS (0, 0))
  mapN : mb = none → ∀ x ∈ seen, tskP x
  mapS : ∀ b, mb = some b → ∃ (n : Nat) (D : DataW Unit), n ≤ seen.length ∧ W.ownsMap Try.prog 3 (plainElem (H := Unit) Try.prog 4) b n D ∧ ∀ x : Int, D.atKey (.int .i64 x) (.lit (.bool false)) = .lit (.bool (decide (x ∈ seen ∧ ¬ tskP x)))
theorem tsL_task (seen : List Int) (mb : Option Nat) (i : Nat) (h : i < 16) : (tsL seen mb)[i]? = some (.bool (decide ((i : Int) ∈ seen))) := by
  unfold tsL
  rw [List.getElem?_append_left (by simp; exact h)]
  simp [h]
theorem tsL_map (seen : List Int) (mb : Option Nat) : (tsL seen mb)[16]? = some (.map mb) := by
  unfold tsL
  rw [List.getElem?_append_right (by simp)]
  simp
theorem tsL_length (seen : List Int) (mb : Option Nat) : (tsL seen mb).length = 17 := by simp [tsL]
theorem TsI.task {g : Nat} {mb : Option Nat} {seen : List Int} {W : World} (h : TsI g mb seen W) (i : Nat) (hi : i < 16) : W.cell? ⟨g, i, none⟩ = some (.bool (decide ((i : Int) ∈ seen))) := by
  rw [Lib.cell_of_heap h.blk]
  simpa using tsL_task seen mb i hi
theorem TsI.map {g : Nat} {mb : Option Nat} {seen : List Int} {W : World} (h : TsI g mb seen W) : W.cell? ⟨g, 16, none⟩ = some (.map mb) := by
  rw [Lib.cell_of_heap h.blk]
  simpa using tsL_map seen mb
theorem TsI.free {g : Nat} {mb : Option Nat} {seen : List Int} {W : World} (h : TsI g mb seen W) (i : Nat) : W.frozen? ⟨g, i, none⟩ = false := Lib.frozen_of_heap h.blk i
theorem TsI.lt {g : Nat} {mb : Option Nat} {seen : List Int} {W : World} (h : TsI g mb seen W) : g < W.heap.size := (Array.getElem?_eq_some_iff.1 h.blk).1
theorem TsI.ne {g : Nat} {mb : Option Nat} {seen : List Int} {W : World} (h : TsI g mb seen W) {b : Nat} (hb : mb = some b) : b ≠ g := by
  rintro rfl
  obtain ⟨n, D, _, ⟨es, clock, h1, _⟩, _⟩ := h.mapS b hb
  rw [h.blk] at h1
  cases h1
theorem TsI.keep {g : Nat} {mb : Option Nat} {seen : List Int} {W W' : World} {r : Option Nat} (h : TsI g mb seen W) (hg : W.grownBy W' r) (h1 : some g ≠ r) (h2 : ∀ b, mb = some b → some b ≠ r) : TsI g mb seen W' :=
  ⟨(hg.block g h.lt h1).trans h.blk, h.mapN, fun b hb => by
    obtain ⟨n, D, e1, e2, e3⟩ := h.mapS b hb
    exact ⟨n, D, e1, e2.kept hg (h2 b hb), e3⟩⟩
theorem TsI.below {g : Nat} {mb : Option Nat} {seen : List Int} {W W' : World} (h : TsI g mb seen W) (hb : Below W.heap.size W W') : TsI g mb seen W' := h.keep (r := none) (grown_ofW hb none) (by simp) (fun _ _ => by simp)
def addS (seen : List Int) (x : Int) : List Int := if x ∈ seen then seen else seen ++ [x]
theorem mem_addS {seen : List Int} {x y : Int} : y ∈ addS seen x ↔ y ∈ seen ∨ y = x := by
  unfold addS
  by_cases h : x ∈ seen
  · rw [if_pos h]
    exact ⟨.inl, fun h1 => h1.elim id (fun e => e ▸ h)⟩
  · rw [if_neg h]; simp
theorem addS_length (seen : List Int) (x : Int) : seen.length ≤ (addS seen x).length := by
  unfold addS
  split
  · exact Nat.le_refl _
  · simp
theorem tsL_set (seen : List Int) (mb : Option Nat) (i : Nat) (h : i < 16) : (tsL seen mb).set i (.bool true) = tsL (addS seen i) mb := by
  apply List.ext_getElem?
  intro j
  by_cases hj : j < 16
  · rw [List.getElem?_set]
    by_cases e : i = j
    · subst e
      rw [if_pos rfl, if_pos (by rw [tsL_length]; omega), tsL_task _ _ i hj, decide_eq_true (mem_addS.2 (.inr rfl))]
    · rw [if_neg e, tsL_task _ _ j hj, tsL_task _ _ j hj]
      have : ((j : Int) ∈ addS seen i) ↔ ((j : Int) ∈ seen) := by
        rw [mem_addS]
        exact ⟨fun h => h.elim id (fun h => absurd (show i = j by omega) e), .inl⟩
      rw [decide_eq_decide.2 this]
  · by_cases h16 : j = 16
    · subst h16
      rw [List.getElem?_set_ne (by omega), tsL_map, tsL_map]
    · rw [List.getElem?_eq_none (by rw [List.length_set, tsL_length]; omega), List.getElem?_eq_none (by rw [tsL_length]; omega)]
theorem tsL_other (seen : List Int) (mb : Option Nat) (x : Int) (h : ¬ tskP x) : tsL (addS seen x) mb = tsL seen mb := by
  unfold tsL
  congr 1
  apply List.map_congr_left
  intro i hi
  have hi : i < 16 := by simpa using hi
  have : ((i : Int) ∈ addS seen x) ↔ ((i : Int) ∈ seen) := by
    rw [mem_addS]
    exact ⟨fun h1 => h1.elim id (fun h1 => absurd (show tskP x by rw [← h1]; exact ⟨by omega, by omega⟩) h), .inl⟩
  simp [this]
theorem tsL_setmap (seen : List Int) (mb : Option Nat) (b : Nat) : (tsL seen mb).set 16 (.map (some b)) = tsL seen (some b) := by
  apply List.ext_getElem?
  intro j
  by_cases hj : j < 16
  · rw [List.getElem?_set_ne (by omega), tsL_task _ _ j hj, tsL_task _ _ j hj]
  · by_cases h16 : j = 16
    · subst h16
      rw [List.getElem?_set, if_pos rfl, if_pos (by rw [tsL_length]; omega), tsL_map]
    · rw [List.getElem?_eq_none (by rw [List.length_set, tsL_length]; omega), List.getElem?_eq_none (by rw [tsL_length]; omega)]
/-- A new set holds nothing. -/
theorem ts_new (w : World) (cs : List Value) (h : cs = tsL [] none) : TsI w.heap.size none [] (w.alloc (.cells cs.toArray TS)) := by
  subst h
  exact ⟨heap_alloc_new w _, fun _ x hx => by simp at hx, fun b hb => by cases hb⟩
/-- All but the set and its map stays. -/
def KeptT (g : Nat) (mb : Option Nat) (W W' : World) : Prop := W'.os = W.os ∧ W'.tape = W.tape ∧ W'.output = W.output ∧ W.heap.size ≤ W'.heap.size ∧ ∀ k, k < W.heap.size → k ≠ g → some k ≠ mb → W'.heap[k]? = W.heap[k]?
theorem KeptT.refl (g : Nat) (mb : Option Nat) (W : World) : KeptT g mb W W := ⟨rfl, rfl, rfl, Nat.le_refl _, fun _ _ _ _ => rfl⟩
theorem look_bool {W : World} {b n : Nat} {D : DataW Unit} (h : W.ownsMap Try.prog 3 (plainElem (H := Unit) Try.prog 4) b n D) {x : Int} (hx : (Lit.int .i64 x).wf = true) {c : Bool} (hc : D.atKey (.int .i64 x) (.lit (.bool false)) = .lit (.bool c)) :
    (Instr.lookup TMp (.map (some b)) (.int .i64 x) false).run Try.prog W = .ok (.bool c) W := by
  obtain ⟨v, ps, hrun, hv⟩ := h.lookup (t := TMp) (e := 4) keyedI Try.underlying63 (z := .bool false) (by kernel_rfl) (zd := .lit (.bool false)) (zp := []) (plainElem_bool Try.underlying4 false) (keyOf_int_mk Try.underlying3 hx)
  rw [hc] at hv
  unfold plainElem at hv
  rw [Try.underlying4] at hv
  cases v <;> simp at hv
  obtain ⟨rfl, _⟩ := hv
  exact hrun

end Go.Proofs.Ytonjempbphnimaa
