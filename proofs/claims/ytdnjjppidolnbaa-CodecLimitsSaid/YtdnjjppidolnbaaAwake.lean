/-
  The examples of the chapter hold: awake returns true.
-/
import Derived.Test.YtdnjjppidolnbaaEncList
namespace Go.Proofs.Ytdnjjppidolnbaa
open Go.RowKit

theorem mag_small {m : Nat} (h0 : m ≠ 0) (h : m < 256) : mag m = [UInt8.ofNat m] := by
  rw [mag_pos h0, Nat.div_eq_of_lt h, mag_zero, Nat.mod_eq_of_lt h]; rfl
theorem mag_256 : mag 256 = [1, 0] := by rw [mag_pos (by decide), show 256 / 256 = 1 from rfl, mag_small (by decide) (by decide)]; rfl
theorem encInt_pos (m : Nat) : encInt (m : Int) = encM m 0 := by
  unfold encInt magOf invOf
  rw [if_neg (by omega), if_neg (by omega)]
  simp
theorem encInt_neg (m : Nat) : encInt (-(m : Int) - 1) = encM m 255 := by
  unfold encInt magOf invOf
  rw [if_pos (by omega), if_pos (by omega)]
  congr 1
  omega
theorem int_ex : encInt 0 = [128] ∧ encInt 5 = [129, 5] ∧ encInt 256 = [130, 1, 0] ∧ encInt (-1) = [127] ∧ encInt (-2) = [126, 254] ∧ encInt (-256) = [126, 0] := by
  refine ⟨(encInt_pos 0).trans ?_, (encInt_pos 5).trans ?_, (encInt_pos 256).trans ?_, (encInt_neg 0).trans ?_, (encInt_neg 1).trans ?_, (encInt_neg 255).trans ?_⟩
  · unfold encM; rw [mag_zero]; decide
  · unfold encM; rw [mag_small (by decide) (by decide)]; decide
  · unfold encM; rw [mag_256]; decide
  · unfold encM; rw [mag_zero]; decide
  · unfold encM; rw [mag_small (by decide) (by decide)]; decide
  · unfold encM; rw [mag_small (by decide) (by decide)]; decide

theorem int_at (n : Int) (l : List UInt8) (hn : InR n) (h : encInt n = l) (w : World) :
    Calls Try.prog 11 #[.int .i64 n] w fun e w' => e = .returned (.tuple #[.string ⟨l.toArray⟩, .int .i64 0]) ∧ Below w.heap.size w w' := by
  refine (int_any n w).mono ?_
  rintro e w' ⟨rfl, hb⟩
  unfold intL intE
  rw [if_pos hn, if_pos hn, h]
  exact ⟨rfl, hb⟩
theorem text_at (w : World) :
    Calls Try.prog 16 #[.string ⟨#[97, 0]⟩] w fun e w' => e = .returned (.tuple #[.string ⟨#[97, 0, 255, 0, 1]⟩, .int .i64 0]) ∧ Below w.heap.size w w' := by
  refine (text_any _ w (by decide)).mono ?_
  rintro e w' ⟨rfl, hb⟩
  exact ⟨rfl, hb⟩
theorem list_at (b cap : Nat) (w : World) (hb : b < w.heap.size) (c0 : w.cell? ⟨b, 0, none⟩ = some (.int .i64 5)) (c1 : w.cell? ⟨b, 1, none⟩ = some (.int .i64 (-1))) :
    Calls Try.prog 23 #[.slice (some ⟨b, 0, none⟩) 2 cap] w fun e w' => e = .returned (.tuple #[.string ⟨#[129, 5, 127, 1]⟩, .int .i64 0]) ∧ Below w.heap.size w w' := by
  refine (list_some b 0 cap [5, -1] w hb (by decide) ?_).mono ?_
  · intro j hj
    match j, hj with
    | 0, _ => exact c0
    | 1, _ => exact c1
  · rintro e w' ⟨rfl, hb⟩
    have hr : AllR [5, -1] := by decide
    have e1 : listL [5, -1] = [129, 5, 127, 1] := by
      unfold listL
      rw [if_neg (by decide), if_pos hr]
      simp only [encList, List.flatMap_cons, List.flatMap_nil, int_ex.2.1, int_ex.2.2.2.1]
      rfl
    have e2 : listE [5, -1] = 0 := by
      unfold listE
      rw [if_neg (by decide), if_pos hr]
    rw [e1, e2]
    exact ⟨rfl, hb⟩

abbrev exCells : Array Value := #[.int .i64 0, .string ⟨#[128]⟩, .int .i64 5, .string ⟨#[129, 5]⟩, .int .i64 256, .string ⟨#[130, 1, 0]⟩, .int .i64 (-1), .string ⟨#[127]⟩, .int .i64 (-2), .string ⟨#[126, 254]⟩, .int .i64 (-256), .string ⟨#[126, 0]⟩]

set_option maxRecDepth 100000 in
set_option maxHeartbeats 2000000 in
theorem awake_any (w : World) :
    Calls Try.prog 15 #[] w fun e w' => e = .returned (.bool true) ∧ Below w.heap.size w w' := by
  go_enter Try.func15, Try.ntmps15
  go_wp2
  go_loopw [17] (fun i wr => ∃ k : Nat, k ≤ 6 ∧ i = .int .i64 k ∧ wr.heap[w.heap.size]? = some (.cells exCells 62 (0, 0)) ∧ Below w.heap.size w wr) (fun i _ => 6 - (intOf i).toNat)
  case atStart => exact ⟨0, by omega, rfl, World.alloc_heap_new w _, (Below.refl _ w).alloc (Nat.le_refl _) _⟩
  case round =>
    obtain ⟨k, hk, rfl, hA, hb⟩ := hrel
    have hsz : w.heap.size < wr.heap.size := (Array.getElem?_eq_some_iff.1 hA).1
    have hc : ∀ j, wr.cell? ⟨w.heap.size, j, none⟩ = exCells[j]? := fun j => Lib.cell_of_heap hA j
    have HA := Lib.hid hA
    have c0 := hc 0; have c1 := hc 1; have c2 := hc 2; have c3 := hc 3; have c4 := hc 4; have c5 := hc 5
    have c6 := hc 6; have c7 := hc 7; have c8 := hc 8; have c9 := hc 9; have c10 := hc 10; have c11 := hc 11
    simp only [exCells, List.getElem?_toArray, List.getElem?_cons_zero, List.getElem?_cons_succ] at c0 c1 c2 c3 c4 c5 c6 c7 c8 c9 c10 c11
    clear hA hc
    rcases (by omega : k = 0 ∨ k = 1 ∨ k = 2 ∨ k = 3 ∨ k = 4 ∨ k = 5 ∨ k = 6) with rfl | rfl | rfl | rfl | rfl | rfl | rfl
    · go_wp2_with fail
      refine (int_at 0 _ (by decide) int_ex.1 _).mono ?_
      rintro e w1 ⟨rfl, hb1⟩
      have q1 : w1.cell? ⟨wr.heap.size, 1, none⟩ = some (.string ⟨#[128]⟩) := by rw [hb1.cell (p := ⟨wr.heap.size, 1, none⟩) (by simp)]; simp
      go_wp2
      go_roundw
      case rel => exact ⟨1, by omega, rfl, (hb1.block _ (by simp; omega)).trans ((Lib.alloc_old _ _ _ hsz).trans HA.out), (hb.alloc (by omega) _).trans (hb1.mono (by simp; omega))⟩
      case measure => simp [intOf]
    · go_wp2_with fail
      refine (int_at 5 _ (by decide) int_ex.2.1 _).mono ?_
      rintro e w1 ⟨rfl, hb1⟩
      have q1 : w1.cell? ⟨wr.heap.size, 1, none⟩ = some (.string ⟨#[129, 5]⟩) := by rw [hb1.cell (p := ⟨wr.heap.size, 1, none⟩) (by simp)]; simp
      go_wp2
      go_roundw
      case rel => exact ⟨2, by omega, rfl, (hb1.block _ (by simp; omega)).trans ((Lib.alloc_old _ _ _ hsz).trans HA.out), (hb.alloc (by omega) _).trans (hb1.mono (by simp; omega))⟩
      case measure => simp [intOf]
    · go_wp2_with fail
      refine (int_at 256 _ (by decide) int_ex.2.2.1 _).mono ?_
      rintro e w1 ⟨rfl, hb1⟩
      have q1 : w1.cell? ⟨wr.heap.size, 1, none⟩ = some (.string ⟨#[130, 1, 0]⟩) := by rw [hb1.cell (p := ⟨wr.heap.size, 1, none⟩) (by simp)]; simp
      go_wp2
      go_roundw
      case rel => exact ⟨3, by omega, rfl, (hb1.block _ (by simp; omega)).trans ((Lib.alloc_old _ _ _ hsz).trans HA.out), (hb.alloc (by omega) _).trans (hb1.mono (by simp; omega))⟩
      case measure => simp [intOf]
    · go_wp2_with fail
      refine (int_at (-1) _ (by decide) int_ex.2.2.2.1 _).mono ?_
      rintro e w1 ⟨rfl, hb1⟩
      have q1 : w1.cell? ⟨wr.heap.size, 1, none⟩ = some (.string ⟨#[127]⟩) := by rw [hb1.cell (p := ⟨wr.heap.size, 1, none⟩) (by simp)]; simp
      go_wp2
      go_roundw
      case rel => exact ⟨4, by omega, rfl, (hb1.block _ (by simp; omega)).trans ((Lib.alloc_old _ _ _ hsz).trans HA.out), (hb.alloc (by omega) _).trans (hb1.mono (by simp; omega))⟩
      case measure => simp [intOf]
    · go_wp2_with fail
      refine (int_at (-2) _ (by decide) int_ex.2.2.2.2.1 _).mono ?_
      rintro e w1 ⟨rfl, hb1⟩
      have q1 : w1.cell? ⟨wr.heap.size, 1, none⟩ = some (.string ⟨#[126, 254]⟩) := by rw [hb1.cell (p := ⟨wr.heap.size, 1, none⟩) (by simp)]; simp
      go_wp2
      go_roundw
      case rel => exact ⟨5, by omega, rfl, (hb1.block _ (by simp; omega)).trans ((Lib.alloc_old _ _ _ hsz).trans HA.out), (hb.alloc (by omega) _).trans (hb1.mono (by simp; omega))⟩
      case measure => simp [intOf]
    · go_wp2_with fail
      refine (int_at (-256) _ (by decide) int_ex.2.2.2.2.2 _).mono ?_
      rintro e w1 ⟨rfl, hb1⟩
      have q1 : w1.cell? ⟨wr.heap.size, 1, none⟩ = some (.string ⟨#[126, 0]⟩) := by rw [hb1.cell (p := ⟨wr.heap.size, 1, none⟩) (by simp)]; simp
      go_wp2
      go_roundw
      case rel => exact ⟨6, by omega, rfl, (hb1.block _ (by simp; omega)).trans ((Lib.alloc_old _ _ _ hsz).trans HA.out), (hb.alloc (by omega) _).trans (hb1.mono (by simp; omega))⟩
      case measure => simp [intOf]
    · go_wp2_with fail
      refine (text_at _).mono ?_
      rintro e w1 ⟨rfl, hb1⟩
      go_wp2_with fail
      refine (list_at w1.heap.size 2 _ (by simp) (by simp) (by simp)).mono ?_
      rintro e w2 ⟨rfl, hb2⟩
      go_wp2
      go_ret
      exact ⟨rfl, (((hb.trans (hb1.mono (by omega))).alloc (by have := hb1.size; omega) _).trans (hb2.mono (by have := hb1.size; simp; omega)))⟩

end Go.Proofs.Ytdnjjppidolnbaa
