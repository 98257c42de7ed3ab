/-
  The program's Position.
-/
import Derived.Test.YtdgphhdkeikbaaaDoorLxTokens
namespace Go.Proofs.YtdgphhdkeikbaaaDoor
set_option linter.unusedSimpArgs false
set_option linter.unusedVariables false
open Go.RowKit

theorem pos_take (b : ByteArray) (k : Nat) (hk : k ≤ b.size) : posL (b.data.toList.take k) = ((1 + (((b.data.toList.take k).count 10 : Nat) : Int) : Int), (k : Int) - Lib.lastIdx b 10 k) := by
  induction k with
  | zero => rfl
  | succ k ih =>
    have hl : k < b.data.toList.length := by rw [Array.length_toList]; exact hk
    have ih := ih (by omega)
    rw [List.take_succ_eq_append_getElem hl, posL_snoc, ih, List.count_append]
    have hb : b.data[k]! = b.data.toList[k] := by
      have : k < b.data.size := by simpa using hl
      rw [getElem!_pos b.data k this]; simp
    rw [show Lib.lastIdx b 10 (k + 1) = (if ((b.data[k]!).toNat : Int) = 10 then (k : Int) else Lib.lastIdx b 10 k) from rfl, hb]
    generalize b.data.toList[k] = c
    by_cases h : c = 10
    · subst h
      simp
      omega
    · have h1 : ¬ ((c.toNat : Int) = 10) := fun e => h (by
        have : c.toNat = 10 := by omega
        exact UInt8.toNat_inj.1 (by simpa using this))
      have h2 : ¬ ((10 : UInt8) = c) := fun e => h e.symm
      rw [if_neg h, if_neg h1]
      simp [List.count_cons, h]
      omega
theorem pos_all (b : ByteArray) : posL b.data.toList = ((1 + ((Lib.countByte b.data.toList 10 : Nat) : Int) : Int), (b.size : Int) - Lib.lastIndexByte b 10) := by
  have := pos_take b b.size (Nat.le_refl _)
  rwa [List.take_of_length_le (by rw [Array.length_toList]; exact Nat.le_refl _)] at this
theorem lastIdx_ge (b : ByteArray) (c : Int) (k : Nat) : -1 ≤ Lib.lastIdx b c k ∧ Lib.lastIdx b c k < k := by
  induction k with
  | zero => exact ⟨by unfold Lib.lastIdx; omega, by unfold Lib.lastIdx; omega⟩
  | succ k ih =>
    unfold Lib.lastIdx
    split <;> omega
set_option maxRecDepth 100000 in
set_option maxHeartbeats 8000000 in
theorem Position_any (s : ByteArray) (at_ : Int) (w : World) (hs : s.size ≤ 4611686018427387903) :
    Calls Tryd.prog 27 #[.string s, .int .i64 at_] w fun x w' => x = .returned (.tuple #[.int .i64 (posF s at_).1, .int .i64 (posF s at_).2]) ∧ w' = w := by
  by_cases h : 0 ≤ at_ ∧ at_ ≤ s.size
  · obtain ⟨h0, h1⟩ := h
    obtain ⟨n, rfl⟩ := Int.eq_ofNat_of_zero_le h0
    have hP : posF s (n : Int) = posL (s.data.toList.take n) := by unfold posF; rw [if_pos ⟨h0, h1⟩]; rfl
    obtain ⟨b, hb⟩ : ∃ b, s.extract 0 n = b := ⟨_, rfl⟩
    have hbs : b.size = n := by rw [← hb]; simp; omega
    have hbl : s.data.toList.take n = b.data.toList := by rw [← hb, ext_take]
    have hP2 : posF s (n : Int) = ((1 + ((Lib.countByte b.data.toList 10 : Nat) : Int) : Int), (n : Int) - Lib.lastIndexByte b 10) := by rw [hP, hbl, pos_all b, hbs]
    have hC : Hid (∀ w, Calls Tryd.prog 44 #[.string b, .string ⟨#[10]⟩] w fun e w' => e = .returned (.int .i64 (Lib.countByte b.data.toList 10)) ∧ w' = w) := Lib.hid (fun w => Any.strings_Count_one Tryd.countS b 10 w)
    have hL : Hid (∀ w, Calls Tryd.prog 45 #[.string b, .int .u8 10] w fun e w' => e = .returned (.int .i64 (Lib.lastIndexByte b 10)) ∧ w' = w) := Lib.hid (fun w => Any.strings_LastIndexByte Tryd.lastIx b 10 (by omega) w)
    have hq := lastIdx_ge b 10 b.size
    change -1 ≤ Lib.lastIndexByte b 10 ∧ Lib.lastIndexByte b 10 < b.size at hq
    have hcn : Lib.countByte b.data.toList 10 ≤ b.size := by
      have := List.count_le_length (a := (10 : UInt8)) (l := b.data.toList)
      rw [Array.length_toList] at this
      exact this
    obtain ⟨L, hLe⟩ : ∃ L, Lib.lastIndexByte b 10 = L := ⟨_, rfl⟩
    obtain ⟨C, hCe⟩ : ∃ C, Lib.countByte b.data.toList 10 = C := ⟨_, rfl⟩
    rw [hLe] at hL hq hP2
    rw [hCe] at hC hcn hP2
    rw [hP2]
    have HB := Lib.hid hb
    clear hP hP2 hbl hb hLe hCe
    go_enter Tryd.func27, Tryd.ntmps27
    go_wp2_with fail
    rw [HB.out]
    refine (hC.out _).mono ?_
    rintro x w' ⟨rfl, rfl⟩
    go_wp2_with fail
    refine (hL.out _).mono ?_
    rintro x w' ⟨rfl, rfl⟩
    go_wp2
    go_ret2
    exact ⟨rfl, rfl⟩
  · have hP : posF s at_ = (0, 0) := by unfold posF; rw [if_neg h]
    rw [hP]
    go_enter Tryd.func27, Tryd.ntmps27
    by_cases h0 : at_ < 0
    · go_wp2
      go_ret2
      exact ⟨rfl, rfl⟩
    · have h1 : (s.size : Int) < at_ := by omega
      go_wp2
      go_ret2
      exact ⟨rfl, rfl⟩
end Go.Proofs.YtdgphhdkeikbaaaDoor
