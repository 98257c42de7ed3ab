/-
  What checksum's Sum, Update and Combine return, for every argument.
-/
import Derived.Test.YtoffacjefnmmmaaSums
namespace Go.Proofs.Ytoffacjefnmmmaa
open Go.RowKit

abbrev agg2 (t : Nat × Nat) : Value := .agg #[.int .i64 (t.1 : Int), .int .i64 (t.2 : Int)]

theorem set_two {w : World} {b : Nat} {u0 u1 : Value} {T : TypeId} {fz : Nat × Nat} (h : w.heap[b]? = some (.cells #[u0, u1] T fz)) (v0 v1 : Value) :
    ((w.setCell ⟨b, 0, none⟩ v0).setCell ⟨b, 1, none⟩ v1).heap[b]? = some (.cells #[v0, v1] T fz) := by
  simp [World.setCell, Array.getElem?_modify, h]
theorem set_two_cells {w : World} {b : Nat} {u0 u1 : Value} {T : TypeId} {fz : Nat × Nat} (h : w.heap[b]? = some (.cells #[u0, u1] T fz)) (v0 v1 : Value) :
    (w.setCell ⟨b, 0, none⟩ v0).cell? ⟨b, 0, none⟩ = some v0 ∧ ((w.setCell ⟨b, 0, none⟩ v0).setCell ⟨b, 1, none⟩ v1).cell? ⟨b, 0, none⟩ = some v0 ∧ ((w.setCell ⟨b, 0, none⟩ v0).setCell ⟨b, 1, none⟩ v1).cell? ⟨b, 1, none⟩ = some v1 := by
  have h1 : (w.setCell ⟨b, 0, none⟩ v0).heap[b]? = some (.cells #[v0, u1] T fz) := by simp [World.setCell, Array.getElem?_modify, h]
  have h2 := set_two h v0 v1
  refine ⟨?_, ?_, ?_⟩
  · rw [Lib.cell_of_heap h1]; rfl
  · rw [Lib.cell_of_heap h2]; rfl
  · rw [Lib.cell_of_heap h2]; rfl

theorem noBytes_any (w : World) :
    Calls Try.prog 33 #[] w fun e w' => e = .returned (agg2 (1, 0)) ∧ Below w.heap.size w w' := by
  go_enter Try.func33, Try.ntmps33
  go_wp2
  exact bodyPost_ret (v := agg2 (1, 0)) (by simp [results, Try.results33, go_sem]) rfl ⟨rfl, (Below.refl _ _).alloc (Nat.le_refl _) _⟩

theorem split_any (n : Nat) (hn : n ≤ 4611686018427387904) (w : World) :
    Calls Try.prog 27 #[.int .i64 (n : Int)] w fun e w' => e = .returned (agg2 (n % 65536, n / 65536)) ∧ Below w.heap.size w w' := by
  go_enter Try.func27, Try.ntmps27
  go_wp2
  exact bodyPost_ret (v := agg2 (n % 65536, n / 65536)) (by simp [results, Try.results27, go_sem]) rfl ⟨rfl, (Below.refl _ _).alloc (Nat.le_refl _) _⟩

theorem checksum_any (t : Nat × Nat) (ht : Ok2 t) (w : World) :
    Calls Try.prog 29 #[agg2 t] w fun e w' => e = .returned (.int .i64 (csOf t : Int)) ∧ Below w.heap.size w w' := by
  obtain ⟨t1, t2⟩ := t
  have h1 : t1 < 65521 := ht.1
  have h2 : t2 < 65521 := ht.2
  have HE := Lib.hid (show ((csOf (t1, t2) : Nat) : Int) = (t2 : Int) * 65536 + (t1 : Int) by unfold csOf; simp)
  clear ht
  go_enter Try.func29, Try.ntmps29
  go_wp2
  go_ret
  rw [HE.out]
  exact ⟨rfl, (Below.refl _ _).alloc (Nat.le_refl _) _⟩

set_option maxHeartbeats 1000000 in
theorem extended_any (t : Nat × Nat) (ht : Ok2 t) (s : ByteArray) (hs : s.size ≤ 9223372036854775807) (w : World) :
    Calls Try.prog 28 #[agg2 t, .string s] w fun e w' => e = .returned (agg2 (adl t s.data.toList)) ∧ Below w.heap.size w w' := by
  go_enter Try.func28, Try.ntmps28
  go_wp2_with fail
  refine (eachByte_any w.heap.size t s hs _ ?_ ht).mono ?_
  · exact (Lib.alloc_old _ _ _ (by simp)).trans (World.alloc_heap_new w _)
  rintro e w1 ⟨rfl, hS, hO⟩
  obtain ⟨c0, c1, f0, f1⟩ := hS.cells
  have hb : Below w.heap.size w w1 := (((Below.refl _ w).alloc (Nat.le_refl _) _).alloc (by simp) _).trans (hO.below (Nat.le_refl _) (by simp; omega))
  have hN : w1.heap[w.heap.size + 1]? = some (.cells #[.int .i64 0, .int .i64 0] TS (0, 0)) := by
    rw [hO.grown.block _ (by simp) (by simp)]
    have := World.alloc_heap_new (w.alloc (.cells #[.int .i64 (t.1 : Int), .int .i64 (t.2 : Int)] TS)) (.cells #[.int .i64 0, .int .i64 0] TS)
    simpa using this
  have d0 : w1.cell? ⟨w.heap.size + 1, 0, none⟩ = some (.int .i64 0) := by rw [Lib.cell_of_heap hN]; rfl
  have d1 : w1.cell? ⟨w.heap.size + 1, 1, none⟩ = some (.int .i64 0) := by rw [Lib.cell_of_heap hN]; rfl
  have g0 : w1.frozen? ⟨w.heap.size + 1, 0, none⟩ = false := Lib.frozen_of_heap hN 0
  have g1 : w1.frozen? ⟨w.heap.size + 1, 1, none⟩ = false := Lib.frozen_of_heap hN 1
  obtain ⟨e0, e1, e2⟩ := set_two_cells hN (.int .i64 ((adl t s.data.toList).1 : Int)) (.int .i64 ((adl t s.data.toList).2 : Int))
  clear hN
  go_wp2
  exact bodyPost_ret (v := agg2 (adl t s.data.toList)) (by simp [results, Try.results28, go_sem, e1, e2]) rfl ⟨rfl, (hb.setCell (by simp) _).setCell (by simp) _⟩

/-! ### Sum -/

set_option maxHeartbeats 1000000 in
theorem sum_any (s : ByteArray) (hs : s.size ≤ 9223372036854775807) (w : World) :
    Calls Try.prog 18 #[.string s] w fun e w' => e = .returned (.int .i64 (sumN s.data.toList : Int)) ∧ Below w.heap.size w w' := by
  unfold sumN
  go_enter Try.func18, Try.ntmps18
  go_wp2_with fail
  refine (noBytes_any _).mono ?_
  rintro e w1 ⟨rfl, b1⟩
  have s1 := b1.size
  go_wp2_with fail
  refine (extended_any (1, 0) ok0 s hs _).mono ?_
  rintro e w2 ⟨rfl, b2⟩
  have s2 := b2.size
  go_wp2_with fail
  refine (checksum_any _ (sum_ok _) _).mono ?_
  rintro e w3 ⟨rfl, b3⟩
  go_wp2
  go_ret
  exact ⟨rfl, (b1.trans (b2.mono s1)).trans (b3.mono (by omega))⟩

/-! ### isChecksum, Update -/

/-- A number is a checksum. -/
def IsSum (n : Int) : Prop := 0 ≤ n ∧ n % 65536 < 65521 ∧ n / 65536 < 65521
instance (n : Int) : Decidable (IsSum n) := by unfold IsSum; infer_instance
theorem isSum_ok {n : Nat} (h : IsSum (n : Int)) : Ok2 (n % 65536, n / 65536) := by
  unfold IsSum at h
  exact ⟨by show n % 65536 < 65521; omega, by show n / 65536 < 65521; omega⟩
theorem isSum_csOf {t : Nat × Nat} (h : Ok2 t) : IsSum (csOf t : Int) := by
  have a := csOf_mod h; have b := csOf_div h; have := h.1; have := h.2
  unfold IsSum
  omega

theorem isChecksum_yes (n : Nat) (h : IsSum (n : Int)) (w : World) :
    Calls Try.prog 26 #[.int .i64 (n : Int)] w fun e w' => e = .returned (.bool true) ∧ w = w' := by
  unfold IsSum at h
  obtain ⟨h0, h1, h2⟩ := h
  go_enter Try.func26, Try.ntmps26
  go_wp2
  go_ret
  exact ⟨rfl, rfl⟩
theorem isChecksum_no (n : Int) (hl : -9223372036854775808 ≤ n) (hu : n ≤ 9223372036854775807) (h : ¬ IsSum n) (w : World) :
    Calls Try.prog 26 #[.int .i64 n] w fun e w' => e = .returned (.bool false) ∧ w = w' := by
  unfold IsSum at h
  by_cases h0 : 0 ≤ n
  · by_cases h1 : n % 65536 < 65521
    · have h2 : ¬ n / 65536 < 65521 := fun h2 => h ⟨h0, h1, h2⟩
      clear h
      go_enter Try.func26, Try.ntmps26
      go_wp2
      go_ret
      exact ⟨rfl, rfl⟩
    · clear h
      go_enter Try.func26, Try.ntmps26
      go_wp2
      go_ret
      exact ⟨rfl, rfl⟩
  · clear h
    go_enter Try.func26, Try.ntmps26
    go_wp2
    go_ret
    exact ⟨rfl, rfl⟩

/-- What Update returns. -/
def updV (n : Int) (l : List UInt8) : Int := if IsSum n then (csOf (adl (n.toNat % 65536, n.toNat / 65536) l) : Int) else 0
def updE (n : Int) : Int := if IsSum n then 0 else 2

set_option maxHeartbeats 1000000 in
theorem update_any (n : Int) (hl : -9223372036854775808 ≤ n) (hu : n ≤ 9223372036854775807) (s : ByteArray) (hs : s.size ≤ 9223372036854775807) (w : World) :
    Calls Try.prog 14 #[.int .i64 n, .string s] w fun e w' => e = .returned (.tuple #[.int .i64 (updV n s.data.toList), .int .i64 (updE n)]) ∧ Below w.heap.size w w' := by
  unfold updV updE
  by_cases h : IsSum n
  · rw [if_pos h, if_pos h]
    obtain ⟨m, rfl⟩ := Int.eq_ofNat_of_zero_le h.1
    have hm : m ≤ 4611686018427387904 := by unfold IsSum at h; omega
    have hk := isSum_ok h
    simp only [Int.toNat_natCast]
    have H := Lib.hid h
    clear h
    go_enter Try.func14, Try.ntmps14
    go_wp2_with fail
    refine (isChecksum_yes m H.out _).mono ?_
    rintro e w1 ⟨rfl, rfl⟩
    go_wp2_with fail
    refine (split_any m hm _).mono ?_
    rintro e w1 ⟨rfl, b1⟩
    have s1 := b1.size
    go_wp2_with fail
    refine (extended_any _ hk s hs _).mono ?_
    rintro e w2 ⟨rfl, b2⟩
    have s2 := b2.size
    go_wp2_with fail
    refine (checksum_any _ (adl_ok _ _ hk) _).mono ?_
    rintro e w3 ⟨rfl, b3⟩
    go_wp2
    go_ret2
    exact ⟨rfl, (b1.trans (b2.mono s1)).trans (b3.mono (by omega))⟩
  · rw [if_neg h, if_neg h]
    have H := Lib.hid h
    clear h
    go_enter Try.func14, Try.ntmps14
    go_wp2_with fail
    refine (isChecksum_no n hl hu H.out _).mono ?_
    rintro e w1 ⟨rfl, rfl⟩
    go_wp2
    go_ret2
    exact ⟨rfl, Below.refl _ _⟩

end Go.Proofs.Ytoffacjefnmmmaa
