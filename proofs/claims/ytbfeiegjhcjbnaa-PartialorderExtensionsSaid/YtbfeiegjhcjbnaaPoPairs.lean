/-
  What the program's pairsWith of partialorder returns, whatever condition it is handed; the conditions that it is handed.
-/
import Derived.Test.YtbfeiegjhcjbnaaPoRel
namespace Go.Proofs.Ytbfeiegjhcjbnaa
open Go.RowKit

/-- A condition on two elements that only reads: its call returns whether they fulfil it. -/
def Cond2 (B N : Nat) (f : Nat) (pre caps : Array Value) (p : Nat → Nat → Bool) (w : World) : Prop := ∀ (i j : Nat) (W : World), i < N → j < N → Below B w W → Calls Try.prog f (pre ++ (#[.int .i64 (i : Int), .int .i64 (j : Int)] ++ caps)) W fun e W' => e = .returned (.bool (p i j)) ∧ W = W'

set_option maxRecDepth 100000 in
set_option maxHeartbeats 4000000 in
theorem pairsWith_any (N f : Nat) (pre caps : Array Value) (p : Nat → Nat → Bool) (w : World) (hN : N ≤ 200) (heg : ∀ args w, (callFunc f args).run Try.prog w = .ok (.enter f args) w) (hC : Cond2 w.heap.size N f pre caps p w) :
    Calls Try.prog 49 #[.int .i64 (N : Int), .func (.func f) pre caps] w fun e w' => ∃ v, e = .returned v ∧ OwnE w.heap.size (prs N p) v w' ∧ Below w.heap.size w w' := by
  obtain ⟨i3, ki, kz0, kz1, kz2⟩ := info_parts infoE
  have HC := Lib.hid hC
  clear hC
  go_enter Try.func49, Try.ntmps49
  go_wp2
  go_loopw [5, 9] (fun v x wr => ∃ k : Nat, k ≤ N ∧ x = .int .i64 k ∧ Hid (OwnE w.heap.size (prsK N p (k * N)) v wr) ∧ Hid (Below w.heap.size w wr)) (fun _ x _ => N - (intOf x).toNat)
  case atStart => exact ⟨0, Nat.zero_le _, rfl, Lib.hid (by rw [Nat.zero_mul]; exact OwnE.nil _ _), Lib.hid (Below.refl _ _)⟩
  case round =>
    obtain ⟨k, hk, rfl, HO, HB⟩ := hrel
    by_cases hlt : k < N
    · have k1 : (k : Int) < (N : Int) := by omega
      have HO0 : Hid (OwnE w.heap.size (prsK N p (k * N + 0)) u5 wr) := HO
      go_wp2_with fail
      go_loopw [5, 13] (fun v x wr => ∃ j : Nat, j ≤ N ∧ x = .int .i64 j ∧ Hid (OwnE w.heap.size (prsK N p (k * N + j)) v wr) ∧ Hid (Below w.heap.size w wr)) (fun _ x _ => N - (intOf x).toNat)
      case atStart => exact ⟨0, Nat.zero_le _, rfl, HO0, HB⟩
      case round =>
        obtain ⟨j, hj, rfl, HO, HB⟩ := hrel
        by_cases hjt : j < N
        · have j1 : (j : Int) < (N : Int) := by omega
          have HCK := HC.out k j wr hlt hjt HB.out
          obtain ⟨b, hpb⟩ : ∃ b, p k j = b := ⟨_, rfl⟩
          rw [hpb] at HCK
          have HCK := Lib.hid HCK
          cases b
          · have HN : Hid (OwnE w.heap.size (prsK N p (k * N + (j + 1))) u5 wr) := Lib.hid (by rw [prsK_no hjt hpb]; exact HO.out)
            clear hpb
            go_wp2_with fail
            refine HCK.out.mono ?_
            rintro e w1 ⟨rfl, rfl⟩
            go_wp2
            go_roundw
            case rel => exact ⟨j + 1, by omega, by go_num, HN, HB⟩
            case measure => simp [intOf]; omega
          · have HN : Hid (prsK N p (k * N + (j + 1)) = prsK N p (k * N + j) ++ [(k, j)]) := Lib.hid (prsK_yes hjt hpb)
            have hsz := HB.out.size
            have hll : (prsK N p (k * N + j)).length ≤ 40200 := by
              have h1 := prsK_length N p (k * N + j)
              have h2 : k * N ≤ 200 * 200 := Nat.mul_le_mul (by omega) hN
              omega
            have ho := HO.out
            unfold OwnE at ho
            obtain ⟨L, hL⟩ : ∃ L, prsK N p (k * N + j) = L := ⟨_, rfl⟩
            rw [hL] at ho hll HN
            have HOWN := Lib.hid ho
            clear hpb ho hL
            go_wp2_with fail
            refine HCK.out.mono ?_
            rintro e w1 ⟨rfl, rfl⟩
            go_wp2_with (at_builtin; refine wpList_append_own _ rfl _ _ 22 rfl w.heap.size TE i3 (.agg #[.int .i64 0, .int .i64 0]) 2 16 Try.underlying22 ki kz0 kz1 kz2 rfl (by decide) _ _ _ rfl (HOWN.out.alloc _) ⟨wr.heap.size, 0, none⟩ 1 1 [.int .i64 (k : Int), .int .i64 (j : Int)] rfl rfl (newCell2 _ _ _ _) (two_one _ _) (by unfold maxLen; omega) (by omega) (by simp; omega) ?_)
            intro v' w6 hown' hgrow hnil
            have HO6 : Hid (OwnE w.heap.size (prsK N p (k * N + (j + 1))) v' w6) := Lib.hid (by
              rw [HN.out]
              unfold OwnE
              rw [edV_snoc, List.length_append]
              exact hown')
            have HB6 : Hid (Below w.heap.size w w6) := Lib.hid ((HB.out.alloc hsz _).grown hgrow (by simp; omega) (fun i hi => (HOWN.out.lt i hi).1))
            clear hown' hgrow hnil
            go_wp2
            go_roundw
            case rel => exact ⟨j + 1, by omega, by go_num, HO6, HB6⟩
            case measure => simp [intOf]; omega
        · obtain rfl : j = N := by omega
          have HN : Hid (OwnE w.heap.size (prsK j p ((k + 1) * j)) u5 wr) := Lib.hid (by rw [← prsK_next]; exact HO.out)
          go_wp2
          go_roundw
          case rel => exact ⟨k + 1, by omega, by go_num, HN, HB⟩
          case measure => simp [intOf]; omega
    · obtain rfl : k = N := by omega
      go_wp2
      go_ret
      exact ⟨_, rfl, HO.out, HB.out⟩

set_option maxRecDepth 100000 in
theorem has_cond (B A N i j : Nat) (g : Nat → Nat) (f : Nat → Nat → Bool) (w : World) (hM : MatK B A N N g f w) (hi : i < N) (hj : j < N) :
    Calls Try.prog 56 (#[matV A N] ++ (#[.int .i64 (i : Int), .int .i64 (j : Int)] ++ #[])) w fun e w' => e = .returned (.bool (f i j)) ∧ w = w' := by
  have c1 := hM.cell1 hi hi
  have c2 := hM.cell2 hi hj
  have i1 : (i : Int) < (N : Int) := by omega
  have j1 : (j : Int) < (N : Int) := by omega
  clear hM
  go_enter Try.func56, Try.ntmps56
  go_wp2
  go_ret
  exact ⟨rfl, rfl⟩

set_option maxRecDepth 100000 in
theorem hasBetween_any (B A N i j : Nat) (g : Nat → Nat) (f : Nat → Nat → Bool) (w : World) (hM : MatK B A N N g f w) (hN : N ≤ 200) (hi : i < N) (hj : j < N) :
    Calls Try.prog 58 #[matV A N, .int .i64 (i : Int), .int .i64 (j : Int)] w fun e w' => e = .returned (.bool (betwK f i j N)) ∧ w = w' := by
  have HM := Lib.hid hM
  clear hM
  have c1 := HM.out.cell1 hi hi
  have i1 : (i : Int) < (N : Int) := by omega
  have j1 : (j : Int) < (N : Int) := by omega
  go_enter Try.func58, Try.ntmps58
  go_wp2
  go_loopw [10] (fun x wr => ∃ (k : Nat), k ≤ N ∧ x = .int .i64 k ∧ Hid (betwK f i j k = false) ∧ w = wr) (fun x _ => N - (intOf x).toNat)
  case atStart => exact ⟨0, Nat.zero_le _, rfl, Lib.hid rfl, rfl⟩
  case round =>
    obtain ⟨k, hk, rfl, HL, rfl⟩ := hrel
    by_cases hlt : k < N
    · have k1 : (k : Int) < (N : Int) := by omega
      have c2 := HM.out.cell1 hlt hlt
      have c3 := HM.out.cell2 hi hlt
      have c4 := HM.out.cell2 hlt hj
      obtain ⟨y, hy⟩ : ∃ z, f i k = z := ⟨_, rfl⟩
      obtain ⟨z, hz⟩ : ∃ z, f k j = z := ⟨_, rfl⟩
      rw [hy] at c3
      rw [hz] at c4
      have HT : Hid ((y && z) = true → betwK f i j N = true) := Lib.hid (fun e1 => by
        unfold betwK
        rw [List.any_eq_true]
        exact ⟨k, by simpa using hlt, by rw [hy, hz]; exact e1⟩)
      have HF : Hid ((y && z) = false → betwK f i j (k + 1) = false) := Lib.hid (fun e => by rw [betwK_succ, HL.out, hy, hz, e]; rfl)
      clear hy hz
      cases y
      · go_wp2
        go_roundw
        case rel => exact ⟨k + 1, by omega, by go_num, Lib.hid (HF.out rfl), trivial⟩
        case measure => simp [intOf]; omega
      · cases z
        · go_wp2
          go_roundw
          case rel => exact ⟨k + 1, by omega, by go_num, Lib.hid (HF.out rfl), trivial⟩
          case measure => simp [intOf]; omega
        · go_wp2
          go_ret
          rw [HT.out rfl]
          exact ⟨rfl, rfl⟩
    · obtain rfl : k = N := by omega
      go_wp2
      go_ret
      rw [HL.out]
      exact ⟨rfl, rfl⟩

/-- A covering pair; a concurrent pair. -/
def covP (N : Nat) (f : Nat → Nat → Bool) (i j : Nat) : Bool := f i j && !betwK f i j N
def conP (f : Nat → Nat → Bool) (i j : Nat) : Bool := decide (i < j) && !f i j && !f j i

set_option maxRecDepth 100000 in
theorem cover_cond (B A N i j Bx : Nat) (g : Nat → Nat) (f : Nat → Nat → Bool) (w : World) (hM : MatK B A N N g f w) (hx : w.heap[Bx]? = some (.cells #[matV A N] 53 (0, 0))) (hN : N ≤ 200) (hi : i < N) (hj : j < N) :
    Calls Try.prog 57 (#[] ++ (#[.int .i64 (i : Int), .int .i64 (j : Int)] ++ #[.pointer (some ⟨Bx, 0, none⟩)])) w fun e w' => e = .returned (.bool (covP N f i j)) ∧ w = w' := by
  have c0 := box_cell hx
  have c1 := hM.cell1 hi hi
  have c2 := hM.cell2 hi hj
  have i1 : (i : Int) < (N : Int) := by omega
  have j1 : (j : Int) < (N : Int) := by omega
  have HB := hasBetween_any B A N i j g f w hM hN hi hj
  obtain ⟨y, hy⟩ : ∃ z, f i j = z := ⟨_, rfl⟩
  obtain ⟨z, hz⟩ : ∃ z, betwK f i j N = z := ⟨_, rfl⟩
  have HR : Hid (covP N f i j = (y && !z)) := Lib.hid (by unfold covP; rw [hy, hz])
  rw [hy] at c2
  rw [hz] at HB
  have HB := Lib.hid HB
  rw [HR.out]
  clear hM hx hy hz
  cases y
  · go_enter Try.func57, Try.ntmps57
    go_wp2_with fail
    go_ret
    exact ⟨rfl, rfl⟩
  · go_enter Try.func57, Try.ntmps57
    go_wp2_with fail
    refine HB.out.mono ?_
    rintro e w1 ⟨rfl, rfl⟩
    go_wp2
    go_ret
    exact ⟨rfl, rfl⟩

set_option maxRecDepth 100000 in
theorem concur_cond (B A N i j Bx : Nat) (g : Nat → Nat) (f : Nat → Nat → Bool) (w : World) (hM : MatK B A N N g f w) (hx : w.heap[Bx]? = some (.cells #[matV A N] 53 (0, 0))) (hi : i < N) (hj : j < N) :
    Calls Try.prog 50 (#[] ++ (#[.int .i64 (i : Int), .int .i64 (j : Int)] ++ #[.pointer (some ⟨Bx, 0, none⟩)])) w fun e w' => e = .returned (.bool (conP f i j)) ∧ w = w' := by
  have c0 := box_cell hx
  have c1 := hM.cell1 hi hi
  have c2 := hM.cell2 hi hj
  have c3 := hM.cell1 hj hj
  have c4 := hM.cell2 hj hi
  have i1 : (i : Int) < (N : Int) := by omega
  have j1 : (j : Int) < (N : Int) := by omega
  obtain ⟨y, hy⟩ : ∃ z, f i j = z := ⟨_, rfl⟩
  obtain ⟨z, hz⟩ : ∃ z, f j i = z := ⟨_, rfl⟩
  have HR : Hid (conP f i j = (decide (i < j) && !y && !z)) := Lib.hid (by unfold conP; rw [hy, hz])
  rw [hy] at c2
  rw [hz] at c4
  rw [HR.out]
  clear hM hx hy hz
  by_cases hij : i < j
  · have m1 : decide ((i : Int) < (j : Int)) = true := by rw [decide_eq_true_iff]; omega
    have m2 : decide (i < j) = true := by rw [decide_eq_true_iff]; exact hij
    rw [m2]
    cases y
    · go_enter Try.func50, Try.ntmps50
      go_wp2
      go_ret
      exact ⟨rfl, rfl⟩
    · go_enter Try.func50, Try.ntmps50
      go_wp2
      go_ret
      exact ⟨rfl, rfl⟩
  · have m1 : decide ((i : Int) < (j : Int)) = false := by rw [decide_eq_false_iff_not]; omega
    have m2 : decide (i < j) = false := by rw [decide_eq_false_iff_not]; exact hij
    rw [m2]
    go_enter Try.func50, Try.ntmps50
    go_wp2
    go_ret
    exact ⟨rfl, rfl⟩

end Go.Proofs.Ytbfeiegjhcjbnaa
