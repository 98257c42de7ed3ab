/-
  A queue in a slice: its first element is cut off, elements are appended, whatever its address has come to be.
-/
import Derived.ArgAppend
import Derived.Test.YtcggmonnajggcaaDevOrder
namespace Go.Proofs.Ytcggmonnajggcaa
open Go.RowKit

/-- The slice of length l.length and capacity cap at this place holds the numbers l. -/
def QRow (g off cap : Nat) (l : List Nat) (w : World) : Prop := ∃ cur : Array Value, w.heap[g]? = some (.cells cur TI (0, 0)) ∧ l.length ≤ cap ∧ cap ≤ 9223372036854775807 ∧ off + cap ≤ cur.size ∧ ∀ (j x : Nat), l[j]? = some x → cur[off + j]? = some (.int .i64 (x : Int))
theorem QRow.lt {g off cap : Nat} {l : List Nat} {w : World} (h : QRow g off cap l w) : g < w.heap.size := by
  obtain ⟨cur, hg, _⟩ := h
  exact (Array.getElem?_eq_some_iff.1 hg).1
theorem QRow.cell {g off cap : Nat} {l : List Nat} {w : World} (h : QRow g off cap l w) {j x : Nat} (hj : l[j]? = some x) : w.cell? ⟨g, off + j, none⟩ = some (.int .i64 (x : Int)) := by
  obtain ⟨cur, hg, _, _, _, hc⟩ := h
  rw [Lib.cell_of_heap hg]
  exact hc j x hj
theorem QRow.block {g off cap : Nat} {l : List Nat} {w w' : World} (h : QRow g off cap l w) (hb : w'.heap[g]? = w.heap[g]?) : QRow g off cap l w' := by
  obtain ⟨cur, hg, r⟩ := h
  exact ⟨cur, hb.trans hg, r⟩
theorem QRow.type {g off cap : Nat} {l : List Nat} {w : World} (h : QRow g off cap l w) : ∃ c, w.heap[g]? = some (.cells c TI (0, 0)) := by
  obtain ⟨cur, hg, _⟩ := h
  exact ⟨cur, hg⟩
theorem QRow.first {w : World} (x : Nat) : QRow w.heap.size 0 1 [x] (w.alloc (.cells #[.int .i64 (x : Int)] TI)) := by
  refine ⟨_, World.alloc_heap_new w _, by simp, by omega, by simp, fun j y hj => ?_⟩
  match j, hj with
  | 0, hj => simp at hj; subst hj; rfl
theorem QRow.tail {g off cap x : Nat} {r : List Nat} {w : World} (h : QRow g off cap (x :: r) w) : ∃ off' cap', (∀ w', (Instr.slice 28 (.slice (some ⟨g, off, none⟩) (r.length + 1) cap) (some (.int .i64 1)) none none).run Try.prog w' = .ok (.slice (some ⟨g, off', none⟩) r.length cap') w') ∧ QRow g off' cap' r w := by
  obtain ⟨cur, hg, h1, h2, h3, h4⟩ := h
  simp only [List.length_cons] at h1
  refine ⟨if cap = 1 then off else off + 1, cap - 1, fun w' => ?_, cur, hg, by omega, by omega, ?_, fun j y hj => ?_⟩
  · rw [run_slice_l w' 28 (some ⟨g, off, none⟩) (r.length + 1) cap (by kernel_rfl) .i64 1 (by omega) (by omega)]
    have hz : (sizeOf (Try.prog.elem 28)).run Try.prog w' = .ok 1 w' := by kernel_rfl
    rw [hz]
    by_cases e : cap = 1
    · simp [Result.andThen, sliced, e]
    · simp [Result.andThen, sliced, e, Addr.add]
  · split <;> omega
  · have hj2 := (List.getElem?_eq_some_iff.1 hj).1
    rw [if_neg (by omega), show off + 1 + j = off + (j + 1) by omega]
    exact h4 (j + 1) y (by simpa using hj)
theorem QRow.snoc {g off cap x : Nat} {l : List Nat} {w : World} (h : QRow g off cap l w) (ad : Addr) (had : w.cell? ad = some (.int .i64 (x : Int))) (hl : l.length ≤ 1000) :
    ∃ (g' off' cap' : Nat) (w' : World), (Builtin.append_ #[28, 28] 28 #[.slice (some ⟨g, off, none⟩) l.length cap, .slice (some ad) 1 1]).run Try.prog w = .ok (.slice (some ⟨g', off', none⟩) (l.length + 1) cap') w' ∧ QRow g' off' cap' (l ++ [x]) w' ∧
      ((g' = g ∧ w.grownBy w' (some g)) ∨ (w.heap.size ≤ g' ∧ w.grownBy w' none)) := by
  obtain ⟨i1, ji, jz0, jz1, jz2⟩ := info_parts infoI
  have hnews : ∀ (j : Nat) (u : Value), [Value.int .i64 (x : Int)][j]? = some u → w.cell? (ad.add j) = some u := by
    intro j u hj
    match j, hj with
    | 0, hj =>
      simp at hj
      subst hj
      have : ad.add 0 = ad := by obtain ⟨a, b, c⟩ := ad; cases c <;> simp [Addr.add]
      rw [this]
      exact had
  have h' := h
  obtain ⟨cur, hg, h1, h2, h3, h4⟩ := h
  by_cases hr : l.length + 1 ≤ cap
  · have hcell : ∀ j, off + j < cur.size → (w.cell? ⟨g, off + j, none⟩).isSome = true := by
      intro j hj
      rw [Lib.cell_of_heap hg]
      simp [hj]
    refine ⟨g, off, cap, _, run_append_room_cells (P := Try.prog) w 28 28 TI i1 Try.underlying28 ji g off l.length cap ad 1 1 [.int .i64 (x : Int)] (by rw [jz1]; rfl) hnews (one_one _) hr ?_ ?_, ?_, .inl ⟨rfl, ?_⟩⟩
    · intro j hj
      simp at hj
      subst hj
      rw [jz1, Nat.mul_one, Nat.add_zero]
      exact hcell _ (by omega)
    · intro j hj
      rw [Lib.frozen_of_heap hg]
    · rw [jz1, Nat.mul_one]
      refine ⟨_, heap_setCell_same w g (off + l.length) cur TI (.int .i64 (x : Int)) hg, by simp; omega, h2, by simpa using h3, fun j y hj => ?_⟩
      by_cases e : j < l.length
      · rw [List.getElem?_append_left e] at hj
        rw [Array.getElem?_setIfInBounds_ne (by omega)]
        exact h4 j y hj
      · have hj2 := (List.getElem?_eq_some_iff.1 hj).1
        simp at hj2
        have e2 : j = l.length := by omega
        subst e2
        rw [List.getElem?_append_right (by omega), Nat.sub_self] at hj
        simp at hj
        subst hj
        rw [Array.getElem?_setIfInBounds_self_of_lt (by omega)]
    · rw [jz1, Nat.mul_one]
      exact ⟨rfl, rfl, rfl, by simp [World.setCells], fun k _ hk => heap_setCell_other w ⟨g, off + l.length, none⟩ k _ (fun e => hk (by simp [e]))⟩
  · obtain ⟨v', w', hrun, ho, hgw⟩ := run_append_arg_grows (P := Try.prog) w 28 28 TI i1 (.int .i64 0) 1 8 Try.underlying28 ji jz0 jz1 jz2 rfl (by decide) ⟨g, off, none⟩ l.length cap (natV l) (by simp [natV]) (fun j u hj => by
      simp only [natV, List.getElem?_map, Option.map_eq_some_iff] at hj
      obtain ⟨y, hy, rfl⟩ := hj
      have := h'.cell hy
      rw [← Go.WideShapes.add_plain] at this
      exact this) ad 1 1 [.int .i64 (x : Int)] rfl hnews (by omega) (by unfold maxLen; omega) (by omega)
    have hne : v' ≠ .slice none 0 0 := by
      rintro rfl
      rcases ho.2 with ⟨_, e⟩ | ⟨g', cap', cur', e, _⟩
      · omega
      · cases e
    have e : natV l ++ [Value.int .i64 (x : Int)] = natV (l ++ [x]) := by simp [natV]
    rw [e] at ho
    rcases ho.2 with ⟨e, _⟩ | ⟨g', cap', cur', rfl, hB, hc, k1, k2, k3, k4⟩
    · exact absurd e hne
    · refine ⟨g', 0, cap', w', hrun, ⟨cur', hc, by simpa using k1, by unfold maxLen at k2; omega, by rw [k3]; omega, fun j y hj => ?_⟩, .inr ⟨hB, hgw⟩⟩
      have hjl := (List.getElem?_eq_some_iff.1 hj).1
      have h5 : (natV (l ++ [x]))[j]? = some (.int .i64 (y : Int)) := by rw [natV, List.getElem?_map, hj]; rfl
      rw [← k4, List.getElem?_take_of_lt (by simp at hjl; omega)] at h5
      rw [Nat.zero_add]
      simpa using h5

end Go.Proofs.Ytcggmonnajggcaa
