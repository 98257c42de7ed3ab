/-
  The library's IsSorted, Clone and Compact at a list of nodes in order.
-/
import Derived.Test.YtcggmonnajggcaaDigSorted
import Derived.Lib.OwnBridge
namespace Go.Proofs.Ytcggmonnajggcaa
open Go.RowKit Go.Shelf Go.Lib Go.Sort
def Try.cloneI_ren : Go.Shelf.Ren := ⟨fun | 15 => 33 | n => n, fun | 22 => 28 | 3 => 3 | 4 => 4 | n => n, fun | n => n⟩
theorem Try.cloneI : Go.Proofs.Lays2.n15 Try.prog Try.cloneI_ren := {
  mixed := by kernel_rfl
  f15 := Try.func33.trans (congrArg some (by kernel_rfl))
  t3 := Try.underlying3
  a3 := Try.isAgg3
  z3 := Try.sizeOf3
  v3 := Try.zeroValue3
  t4 := Try.underlying4
  a4 := Try.isAgg4
  z4 := Try.sizeOf4
  v4 := Try.zeroValue4
  t22 := Try.underlying28
  a22 := Try.isAgg28
  z22 := Try.sizeOf28
  v22 := Try.zeroValue28
  i3 := by kernel_rfl }
def Try.compactI_ren : Go.Shelf.Ren := ⟨fun | 20 => 32 | n => n, fun | 22 => 28 | 3 => 3 | 4 => 4 | 0 => 0 | n => n, fun | n => n⟩
theorem Try.compactI : Go.Proofs.Lays2.n20 Try.prog Try.compactI_ren := {
  mixed := by kernel_rfl
  f20 := Try.func32.trans (congrArg some (by kernel_rfl))
  t0 := Try.underlying0
  a0 := Try.isAgg0
  z0 := Try.sizeOf0
  v0 := Try.zeroValue0
  t3 := Try.underlying3
  a3 := Try.isAgg3
  z3 := Try.sizeOf3
  v3 := Try.zeroValue3
  t4 := Try.underlying4
  a4 := Try.isAgg4
  z4 := Try.sizeOf4
  v4 := Try.zeroValue4
  t22 := Try.underlying28
  a22 := Try.isAgg28
  z22 := Try.sizeOf28
  v22 := Try.zeroValue28
  i3 := by kernel_rfl }
theorem pair_lt {l : List Nat} (h : l.Pairwise (· < ·)) (i : Nat) (hi : i + 1 < l.length) : l[i]'(by omega) < l[i + 1] := List.pairwise_iff_getElem.1 h i (i + 1) (by omega) hi (by omega)
theorem toArray_get (l : List Nat) (i : Nat) (hi : i < l.length) : (intsOf l).toArray[i]! = ((l[i] : Nat) : Int) := by
  have h : i < (intsOf l).toArray.size := by simp [intsOf]; exact hi
  rw [getElem!_pos _ i h]
  simp [intsOf]
theorem isSorted_any (n₀ : Nat) (a : Option Addr) (c : Nat) (l : List Nat) (w : World) (hI : IntsA n₀ w a (intsOf l)) (hp : l.Pairwise (· < ·)) (hl : l.length ≤ 200) :
    Calls Try.prog 31 #[.slice a (intsOf l).length c] w fun e w' => e = .returned (.bool true) ∧ ∃ q, w' = w.drewN q := by
  by_cases h0 : (intsOf l).length = 0
  · rw [h0]
    refine (AnyO.slices_IsSorted_int_none Try.sortedInts a c w).mono ?_
    rintro e w' ⟨rfl, rfl⟩
    exact ⟨rfl, 0, rfl⟩
  · obtain ⟨b, off, rfl, _, hc⟩ := hI.some_ (by omega)
    have hll := intsOf_length l
    have h := AnyO.slices_IsSorted_int Try.sortedInts b off c (intsOf l).toArray w (fun i hi => by
      have hi2 : i < (intsOf l).length := by simpa using hi
      rw [hc i hi2, getElem!_pos _ i hi]
      simp [hi2]) (by simp; omega)
    have e : Lib.downOK (fun x y => decide (x < y)) (intsOf l).toArray ((intsOf l).toArray.size - 1) = true := by
      rw [Lib.downOK_iff]
      intro i hi
      have hs : (intsOf l).toArray.size = l.length := by simp [hll]
      rw [hs] at hi
      rw [toArray_get l i (by omega), toArray_get l (i + 1) (by omega)]
      have := pair_lt hp i (by omega)
      rw [decide_eq_false_iff_not]
      omega
    rw [e] at h
    have e2 : (intsOf l).toArray.size = (intsOf l).length := by simp
    rw [e2] at h
    exact h
theorem compact_same (l : List Nat) (hp : l.Pairwise (· < ·)) : Lib.compact (intsOf l) = intsOf l := by
  unfold Lib.compact
  have hl : (intsOf l).length = (intsOf l).toArray.size := by simp
  rw [hl, Lib.compactUpTo_all _ _ (fun j hj => ?_), Lib.range_map_get]
  have hj2 : j < l.length := by simpa [intsOf] using hj
  unfold Lib.keeps
  rw [decide_eq_true_iff]
  by_cases h0 : j = 0
  · exact .inl h0
  · right
    obtain ⟨i, rfl⟩ : ∃ i, j = i + 1 := ⟨j - 1, by omega⟩
    rw [Nat.add_sub_cancel, toArray_get l i (by omega), toArray_get l (i + 1) hj2]
    have := pair_lt hp i hj2
    omega
/-- A clone of a row that is not empty: the row's own. -/
theorem clone_any (n₀ : Nat) (b off c : Nat) (l : List Nat) (w : World) (hI : IntsA n₀ w (some ⟨b, off, none⟩) (intsOf l)) (hl : l.length ≤ 200) :
    Calls Try.prog 33 #[.slice (some ⟨b, off, none⟩) (intsOf l).length c] w fun e w' => ∃ g cap, e = .returned (.slice (some ⟨g, 0, none⟩) (intsOf l).length cap) ∧ w.heap.size ≤ g ∧ (intsOf l).length ≤ cap ∧ Holds (Value.int .i64) w' g 0 (intsOf l).toArray ∧ Below w.heap.size w w' := by
  have hll := intsOf_length l
  refine (Any.slices_Clone_int Try.cloneI b off (intsOf l).length c (intsOf l) w (Nat.le_refl _) (by omega) (fun j hj => by
    obtain ⟨b', off', e, _, hc⟩ := hI j hj
    cases e
    rw [hc, List.getD_eq_getElem?_getD])).mono ?_
  rintro e w' ⟨v', rfl, ho, hne, hb⟩
  rw [List.take_length] at ho
  obtain ⟨g, cap, rfl, hg, _, hn, _, _, hH⟩ := holds_of_ownsRow ho hne
  exact ⟨g, cap, rfl, hg, hn, hH, hb⟩
theorem compact_any (B g cap : Nat) (l : List Nat) (w : World) (hH : Holds (Value.int .i64) w g 0 (intsOf l).toArray) (hp : l.Pairwise (· < ·)) (hl : l.length ≤ 200) (hn : (intsOf l).length ≤ cap) (hB : B ≤ g) :
    Calls Try.prog 32 #[.slice (some ⟨g, 0, none⟩) (intsOf l).length cap] w fun e w' => e = .returned (.slice (some ⟨g, 0, none⟩) (intsOf l).length cap) ∧ Below B w w' := by
  have hll := intsOf_length l
  have h := Any.slices_Compact_int Try.compactI g 0 cap (intsOf l) w hH (by omega) hn
  rw [compact_same l hp] at h
  refine h.mono ?_
  rintro e w' ⟨rfl, q, rfl⟩
  exact ⟨rfl, below_putRow (Below.refl _ w) hB⟩

end Go.Proofs.Ytcggmonnajggcaa
