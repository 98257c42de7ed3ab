/-
  The library's Delete of one pair of a row of pairs.
-/
import Derived.Test.YtkiomcihomkgoaaPoClone
import Derived.Test.YtkiomcihomkgoaaHeldTop
import Derived.Lib.SliceRun
namespace Go.Proofs.Ytkiomcihomkgoaa
open Go.RowKit

theorem run_clear_one (w : World) (ty : TypeId) (b o c : Nat) (hc : ∀ j, j < 2 → (w.cell? ⟨b, o + j, none⟩).isSome = true) (hf : ∀ j, j < 2 → w.frozen? ⟨b, o + j, none⟩ = false) :
    (Builtin.clear_ #[22] ty #[.slice (some ⟨b, o, none⟩) 1 c]).run Try.prog w = .ok (.tuple #[]) (w.setCells b o [.int .i64 0, .int .i64 0]) := by
  have hzc : (Builtin.zeroCells (Value.agg #[.int .i64 0, .int .i64 0]).cells 1).toList = [.int .i64 0, .int .i64 0] := by kernel_rfl
  have hst := run_storeCells_cells (P := Try.prog) b o [.int .i64 0, .int .i64 0] 0 w (by simpa using hc) (by simpa using hf) (by intro v hv'; simp at hv'; rw [hv']; rfl)
  simp only [Nat.add_zero] at hst
  simp [Builtin.clear_, run_underlying Try.underlying22, hzc, hst]
theorem own_spare {w : World} {B n g cap s : Nat} {T : TypeId} {xs : List Value} (h : w.ownsRow B T s (.slice (some ⟨g, 0, none⟩) n cap) n xs) {x : Nat} (hx : x < cap * s) : (w.cell? ⟨g, x, none⟩).isSome = true := by
  rcases h.2 with ⟨e, _⟩ | ⟨g', cap', cur, e, _, hg, _, _, hcs, _⟩
  · cases e
  · cases e
    rw [Lib.cell_of_heap hg, Array.getElem?_eq_getElem (by omega)]
    rfl
theorem own_clear {w : World} {B n g cap : Nat} {xs : List Value} (h : w.ownsRow B TE 2 (.slice (some ⟨g, 0, none⟩) n cap) n xs) (u v : Value) : (w.setCells g (n * 2) [u, v]).ownsRow B TE 2 (.slice (some ⟨g, 0, none⟩) n cap) n xs ∧ w.grownBy (w.setCells g (n * 2) [u, v]) (some g) := by
  have hl := h.1
  obtain ⟨h1, g1⟩ := World.ownsRow.stored h (n * 2) u
  obtain ⟨h2, g2⟩ := World.ownsRow.stored h1 (n * 2 + 1) v
  rw [List.set_eq_of_length_le (by rw [List.length_set]; omega), List.set_eq_of_length_le (by omega)] at h2
  exact ⟨h2, grown_trans g1 g2⟩
theorem edV_append (a b : List (Nat × Nat)) : edV (a ++ b) = edV a ++ edV b := by simp [edV]
theorem edV_take (l : List (Nat × Nat)) (i : Nat) : (edV l).take (i * 2) = edV (l.take i) := by
  by_cases h : i ≤ l.length
  · conv => lhs; rw [← List.take_append_drop i l, edV_append]
    rw [List.take_left' (by rw [edV_length, List.length_take]; omega)]
  · rw [List.take_of_length_le (by rw [edV_length]; omega), List.take_of_length_le (by omega)]
theorem edV_drop (l : List (Nat × Nat)) (i : Nat) : (edV l).drop (i * 2) = edV (l.drop i) := by
  by_cases h : i ≤ l.length
  · conv => lhs; rw [← List.take_append_drop i l, edV_append]
    rw [List.drop_left' (by rw [edV_length, List.length_take]; omega)]
  · rw [List.drop_eq_nil_of_le (by rw [edV_length]; omega), List.drop_eq_nil_of_le (by omega)]
    rfl
theorem own_prefix {w : World} {B n g cap i s : Nat} {T : TypeId} {xs : List Value} (h : w.ownsRow B T s (.slice (some ⟨g, 0, none⟩) n cap) n xs) (hi : i ≤ n) : w.ownsRow B T s (.slice (some ⟨g, 0, none⟩) i cap) i (xs.take (i * s)) := by
  obtain ⟨h1, h2⟩ := h
  have hm : i * s ≤ n * s := Nat.mul_le_mul_right _ hi
  refine ⟨by rw [List.length_take]; omega, ?_⟩
  rcases h2 with ⟨e, _⟩ | ⟨g', cap', cur, e, hB, hg, hn, hc, hcs, ht⟩
  · cases e
  · cases e
    refine .inr ⟨g, cap, cur, rfl, hB, hg, by omega, hc, hcs, ?_⟩
    rw [← ht, List.take_take]
    congr 1
    omega

set_option maxRecDepth 100000 in
set_option maxHeartbeats 4000000 in
theorem deleteE_any (B g cap k i : Nat) (L : List (Nat × Nat)) (w : World) (hL : L.length = k + 1) (hi : i ≤ k) (hO : w.ownsRow B TE 2 (.slice (some ⟨g, 0, none⟩) (k + 1) cap) (k + 1) (edV L)) :
    Calls Try.prog 33 #[.slice (some ⟨g, 0, none⟩) (k + 1) cap, .int .i64 (i : Int), .int .i64 ((i : Int) + 1)] w fun e w' => e = .returned (.slice (some ⟨g, 0, none⟩) k cap) ∧ w'.ownsRow B TE 2 (.slice (some ⟨g, 0, none⟩) k cap) k (edV (L.take i ++ L.drop (i + 1))) ∧ w.grownBy w' (some g) := by
  obtain ⟨i3, ki, kz0, kz1, kz2⟩ := info_parts infoE
  obtain ⟨hkc, hcm⟩ : k + 1 ≤ cap ∧ cap ≤ 9223372036854775807 := by
    rcases hO.2 with ⟨e, _⟩ | ⟨g', cap', cur, e, _, _, h1, h2, _⟩
    · cases e
    · cases e
      unfold maxLen at h2
      omega
  obtain ⟨A, hA, hsrc⟩ : ∃ A : Addr, (if cap = i + 1 then (some (⟨g, 0, none⟩ : Addr)) else some ⟨g, (i + 1) * 2, none⟩) = some A ∧ ∀ t u, (edV (L.drop (i + 1)))[t]? = some u → w.drew.cell? (A.add t) = some u := by
    by_cases h : cap = i + 1
    · refine ⟨_, if_pos h, fun t u hu => ?_⟩
      rw [List.drop_eq_nil_of_le (by omega)] at hu
      cases hu
    · refine ⟨_, if_neg h, fun t u hu => ?_⟩
      have ht : t < (edV (L.drop (i + 1))).length := (List.getElem?_eq_some_iff.1 hu).1
      rw [edV_length, List.length_drop] at ht
      rw [← edV_drop, List.getElem?_drop] at hu
      rw [Addr.add_lit]
      exact (World.ownsRow.cellAt hO ((i + 1) * 2 + t) (by omega)).trans hu
  have hP := own_prefix hO (i := i) (by omega)
  rw [edV_take] at hP
  have HP : Hid (w.drew.ownsRow B TE 2 (.slice (some ⟨g, 0, none⟩) i cap) i (edV (L.take i))) := Lib.hid hP
  have HS := Lib.hid hsrc
  have HO := Lib.hid hO
  clear hO hP hsrc
  have i1 : (i : Int) + 1 ≤ (k : Int) + 1 := by omega
  have i6 : i ≤ cap := by omega
  have i7 : i + 1 ≤ cap := by omega
  have i2 : (0 : Int) ≤ (i : Int) + 1 := by omega
  have i4 : (i : Int) ≤ (i : Int) + 1 := by omega
  have i5 : ((i : Int) == (i : Int) + 1) = false := by simp; omega
  go_enter Try.func33, Try.ntmps33
  go_wp2_with fail
  refine wp_region_held (S := fun _ => True) (by kernel_rfl) ?_
  change wpAnyH _ _ _ _ _ _ _ _ w.drew
  refine wpAnyH_read (i := 0) (v := .slice (some ⟨g, 0, none⟩) (k + 1) cap) rfl (by kernel_rfl) (by kernel_rfl) (by kernel_rfl) (fun _ _ _ h => h) (by rfl) (fun _ _ => rfl) trivial ?_
  simp only [Act.put, List.setIfInBounds_toArray, List.set_cons_zero, List.set_cons_succ]
  refine wpAnyH_read (i := 1) (v := .int .i64 (i : Int)) rfl (by kernel_rfl) (by kernel_rfl) (by kernel_rfl) (fun _ _ _ h => h) (by rfl) (fun _ _ => rfl) trivial ?_
  simp only [Act.put, List.setIfInBounds_toArray, List.set_cons_zero, List.set_cons_succ]
  refine wpAnyH_read (i := 2) (v := .slice (some ⟨g, 0, none⟩) i cap) rfl (by kernel_rfl) (by kernel_rfl) (by kernel_rfl) (fun _ _ _ h => h) (by rfl) ?_ trivial ?_
  · rintro w' -
    go_simp
  simp only [Act.put, List.setIfInBounds_toArray, List.set_cons_zero, List.set_cons_succ]
  refine wpAnyH_read (i := 3) (v := .slice (some ⟨g, 0, none⟩) (k + 1) cap) rfl (by kernel_rfl) (by kernel_rfl) (by kernel_rfl) (fun _ _ _ h => h) (by rfl) (fun _ _ => rfl) trivial ?_
  simp only [Act.put, List.setIfInBounds_toArray, List.set_cons_zero, List.set_cons_succ]
  refine wpAnyH_read (i := 4) (v := .int .i64 ((i : Int) + 1)) rfl (by kernel_rfl) (by kernel_rfl) (by kernel_rfl) (fun _ _ _ h => h) (by rfl) (fun _ _ => rfl) trivial ?_
  simp only [Act.put, List.setIfInBounds_toArray, List.set_cons_zero, List.set_cons_succ]
  refine wpAnyH_read (i := 5) (v := .slice (some A) (k - i) (cap - (i + 1))) rfl (by kernel_rfl) (by kernel_rfl) (by kernel_rfl) (fun _ _ _ h => h) (by rfl) ?_ trivial ?_
  · rintro w' -
    go_simp
  simp only [Act.put, List.setIfInBounds_toArray, List.set_cons_zero, List.set_cons_succ]
  refine wpAnyH_next (i := 6) rfl (by kernel_rfl) ?_
  go_wp2_with (at_builtin; refine wpList_append_fits _ rfl _ _ 22 rfl B TE i3 2 Try.underlying22 ki kz1 g i cap _ rfl HP.out A (k - i) (cap - (i + 1)) (edV (L.drop (i + 1))) rfl ?qc1 HS.out (edV_one _) ?qc2 ?_)
  case qc1 => rw [edV_length, List.length_drop]; omega
  case qc2 => omega
  intro w1 hown hgr
  have hcl := fun ty => run_clear_one w1 ty g (k * 2) (cap - k) (fun t ht => own_spare hown (by omega)) (fun t _ => World.ownsRow.frozenAt hown _)
  obtain ⟨oc, gc⟩ := own_clear hown (.int .i64 0) (.int .i64 0)
  have OC := Lib.hid oc
  have GC := Lib.hid (grown_trans hgr gc)
  have k1 : ¬ cap = k := by omega
  have k2 : k ≤ cap := by omega
  clear oc gc hown hgr
  go_wp2
  refine wpAnyH_read (i := 7) (v := .slice (some ⟨g, 0, none⟩) k cap) rfl (by kernel_rfl) (by kernel_rfl) (by kernel_rfl) (fun _ _ _ h => h) (by rfl) (fun _ _ => rfl) trivial ?_
  simp only [Act.put, List.setIfInBounds_toArray, List.set_cons_zero]
  refine wpAnyH_done (by kernel_rfl) ?_ _
  go_wp2
  go_ret
  exact ⟨rfl, by rw [edV_append]; exact OC.out, GC.out.os, GC.out.tape, GC.out.output, GC.out.size, GC.out.block⟩

end Go.Proofs.Ytkiomcihomkgoaa
