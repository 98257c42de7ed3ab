/-
  checksum's two sums: what residue, add, eachByte, extended, checksum, split, isChecksum and followedBy return, and Sum.
-/
import Derived.Test.YtoffacjefnmmmaaReader
import Derived.Test.YtoffacjefnmmmaaSumPlain
import Derived.StillTailTactics
import Derived.IntWalk
namespace Go.Proofs.Ytoffacjefnmmmaa
open Go.RowKit

abbrev TS : TypeId := 44

theorem residue_nat (n : Nat) (hn : n ≤ 4611686018427387904) (w : World) :
    Calls Try.prog 48 #[.int .i64 (n : Int)] w fun e w' => e = .returned (.int .i64 ((n % 65521 : Nat) : Int)) ∧ w' = w := by
  have HN := Lib.hid (show ((n : Int) % 65521 + 65521) % 65521 = ((n % 65521 : Nat) : Int) by omega)
  go_enter Try.func48, Try.ntmps48
  go_wp2
  go_ret
  rw [HN.out]
  exact ⟨rfl, rfl⟩

/-- The two sums t lie in block b. -/
def Sums (b : Nat) (t : Nat × Nat) (w : World) : Prop := w.heap[b]? = some (.cells #[.int .i64 (t.1 : Int), .int .i64 (t.2 : Int)] TS (0, 0))
theorem Sums.lt {b : Nat} {t : Nat × Nat} {w : World} (h : Sums b t w) : b < w.heap.size := (Array.getElem?_eq_some_iff.1 h).1
theorem Sums.cells {b : Nat} {t : Nat × Nat} {w : World} (h : Sums b t w) : w.cell? ⟨b, 0, none⟩ = some (.int .i64 (t.1 : Int)) ∧ w.cell? ⟨b, 1, none⟩ = some (.int .i64 (t.2 : Int)) ∧ w.frozen? ⟨b, 0, none⟩ = false ∧ w.frozen? ⟨b, 1, none⟩ = false := by
  have := Lib.cell_of_heap h
  refine ⟨?_, ?_, Lib.frozen_of_heap h 0, Lib.frozen_of_heap h 1⟩ <;> rw [this] <;> rfl
theorem Sums.drew {b : Nat} {t : Nat × Nat} {w : World} (h : Sums b t w) (n : Nat) : Sums b t (w.drewN n) := h
theorem Sums.set0 {b : Nat} {t : Nat × Nat} {w : World} (h : Sums b t w) (x : Nat) : Sums b (x, t.2) (w.setCell ⟨b, 0, none⟩ (.int .i64 (x : Int))) := by
  unfold Sums at h ⊢
  simp [World.setCell, Array.getElem?_modify, h]
theorem Sums.set1 {b : Nat} {t : Nat × Nat} {w : World} (h : Sums b t w) (x : Nat) : Sums b (t.1, x) (w.setCell ⟨b, 1, none⟩ (.int .i64 (x : Int))) := by
  unfold Sums at h ⊢
  simp [World.setCell, Array.getElem?_modify, h]

set_option maxHeartbeats 1000000 in
theorem add_any (b : Nat) (t : Nat × Nat) (c : UInt8) (w : World) (h : Sums b t w) (ht : Ok2 t) :
    Calls Try.prog 47 #[.pointer (some ⟨b, 0, none⟩), .int .u8 (c.toNat : Int)] w fun e w' => e = .returned (.tuple #[]) ∧ Sums b (step2 t c) w' ∧ OnlyB b w w' := by
  obtain ⟨c0, c1, f0, f1⟩ := h.cells
  obtain ⟨t1, t2⟩ := t
  have h1 : t1 < 65521 := ht.1
  have h2 : t2 < 65521 := ht.2
  have h8 := byte_lt c
  obtain ⟨x, hx⟩ : ∃ x, (t1 + c.toNat) % 65521 = x := ⟨_, rfl⟩
  have hx2 : x < 65521 := by omega
  obtain ⟨y, hy⟩ : ∃ y, (t2 + x) % 65521 = y := ⟨_, rfl⟩
  have hs : step2 (t1, t2) c = (x, y) := by unfold step2; simp only [hx, hy]
  have hr1 := residue_nat (t1 + c.toNat) (by omega)
  have hr2 := residue_nat (t2 + x) (by omega)
  rw [hx, Int.natCast_add] at hr1
  rw [hy, Int.natCast_add] at hr2
  rw [hs]
  have HR1 := Lib.hid hr1
  have HR2 := Lib.hid hr2
  clear hx hy hs hr1 hr2
  go_enter Try.func47, Try.ntmps47
  go_wp2_with fail
  refine (HR1.out _).mono ?_
  rintro e w1 ⟨rfl, rfl⟩
  go_wp2
  refine wp_region_still_tail 13 (by kernel_rfl) (by kernel_rfl) ?_
  obtain ⟨w2, hw2⟩ : ∃ w2, (w1.setCell ⟨b, 0, none⟩ (.int .i64 (x : Int))).drew = w2 := ⟨_, rfl⟩
  change wpStill _ _ (w1.setCell ⟨b, 0, none⟩ (.int .i64 (x : Int))).drew (fun a' => wpList _ _ _ _ a' (w1.setCell ⟨b, 0, none⟩ (.int .i64 (x : Int))).drew) _ _
  rw [hw2]
  have hS2 : Sums b (x, t2) w2 := by rw [← hw2]; exact h.set0 x
  have hO2 : OnlyB b w1 w2 := by rw [← hw2]; exact (onlyB_set b 0 _ w1).drew 1
  obtain ⟨d0, d1, g0, g1⟩ := hS2.cells
  clear hw2 c0 c1 f0 f1
  simp only [List.take_succ_cons, List.take_zero, List.drop_succ_cons, List.drop_zero]
  have hwr : IntKind.i64.wrap ((t2 : Int) + (x : Int)) = (t2 : Int) + (x : Int) := IntWalk.i64_in _ (by omega)
  repeat still_step
  still_call (HR2.out _)
  clear hwr
  repeat still_step
  refine wpStill_nil ?_
  go_wp2
  go_end0
  exact ⟨rfl, hS2.set1 y, hO2.trans (onlyB_set _ _ _ _)⟩

/-! ### A string's bytes, by the method value -/

set_option maxHeartbeats 1000000 in
theorem eachByte_any (b : Nat) (t : Nat × Nat) (s : ByteArray) (hs : s.size ≤ 9223372036854775807) (w : World) (h : Sums b t w) (ht : Ok2 t) :
    Calls Try.prog 46 #[.string s, .func (.func 47) #[.pointer (some ⟨b, 0, none⟩)] #[]] w fun e w' => e = .returned (.tuple #[]) ∧ Sums b (adl t s.data.toList) w' ∧ OnlyB b w w' := by
  go_enter Try.func46, Try.ntmps46
  go_wp2
  go_loopw [7] (fun i wr => ∃ k : Nat, k ≤ s.size ∧ i = .int .i64 k ∧ Sums b (adl t (s.data.toList.take k)) wr ∧ OnlyB b w wr) (fun i _ => s.size - (intOf i).toNat)
  case atStart => exact ⟨0, Nat.zero_le _, rfl, by simpa [adl] using h, OnlyB.refl _ _⟩
  case round =>
    obtain ⟨k, hk, rfl, hS, hO⟩ := hrel
    by_cases hlt : k < s.size
    · have HT := Lib.hid (take_snoc s k hlt)
      obtain ⟨c, hc⟩ : ∃ c, s[k] = c := ⟨_, rfl⟩
      rw [hc] at HT
      go_wp2_with fail
      refine (add_any b _ c _ hS (adl_ok _ _ ht)).mono ?_
      rintro e w1 ⟨rfl, hS1, hO1⟩
      go_wp2
      go_roundw
      case rel =>
        refine ⟨k + 1, by omega, by go_num, ?_, hO.trans hO1⟩
        rw [HT.out, adl_snoc]
        exact hS1
      case measure => simp [intOf]; omega
    · go_wp2
      go_end0
      rw [List.take_of_length_le (by simp; omega)] at hS
      exact ⟨rfl, hS, hO⟩

end Go.Proofs.Ytoffacjefnmmmaa
