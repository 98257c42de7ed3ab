/-
  The reference's small functions over bytes.
-/
import Derived.Test.YtdgphhdkeikbaaaGreatDoorLxPs
import Derived.Test.YtdgphhdkeikbaaaGreatDoorExRefA
namespace Go.Proofs.YtdgphhdkeikbaaaGreatDoor
set_option linter.unusedSimpArgs false
set_option linter.unusedVariables false
open Go.RowKit

theorem dgI (c : UInt8) : isDg c = (decide ((48 : Int) ≤ (c.toNat : Int)) && decide ((c.toNat : Int) ≤ 57)) := by unfold isDg; exact digI c
theorem rletter_any (c : UInt8) (w : World) : Calls Tryz.prog 39 #[.int .u8 (c.toNat : Int)] w fun x w' => x = .returned (.bool (isLow c)) ∧ w' = w := by
  by_cases h1 : (97 : Int) ≤ (c.toNat : Int)
  · by_cases h2 : (c.toNat : Int) ≤ 122
    · have HE : Hid (isLow c = true) := Lib.hid (isLow_of h1 h2)
      have k2 : decide ((c.toNat : Int) ≤ 122) = true := by simpa using h2
      go_enter Tryz.func39, Tryz.ntmps39
      go_wp2
      go_ret
      exact ⟨by rw [HE.out]; simp, rfl⟩
    · have HE : Hid (isLow c = false) := Lib.hid (isLow_hi h2)
      have k2 : decide ((c.toNat : Int) ≤ 122) = false := by simpa using h2
      go_enter Tryz.func39, Tryz.ntmps39
      go_wp2
      go_ret
      exact ⟨by rw [HE.out]; simp, rfl⟩
  · have HE : Hid (isLow c = false) := Lib.hid (isLow_lo h1)
    have k1 : decide ((97 : Int) ≤ (c.toNat : Int)) = false := by simpa using h1
    go_enter Tryz.func39, Tryz.ntmps39
    go_wp2
    go_ret
    exact ⟨by rw [HE.out]; simp, rfl⟩
theorem rdigit_any (c : UInt8) (w : World) : Calls Tryz.prog 41 #[.int .u8 (c.toNat : Int)] w fun x w' => x = .returned (.bool (isDg c)) ∧ w' = w := by
  have hI := dgI c
  by_cases h1 : (48 : Int) ≤ (c.toNat : Int)
  · by_cases h2 : (c.toNat : Int) ≤ 57
    · have HE : Hid (isDg c = true) := Lib.hid (by rw [hI]; simp [h1, h2])
      have k2 : decide ((c.toNat : Int) ≤ 57) = true := by simpa using h2
      clear hI
      go_enter Tryz.func41, Tryz.ntmps41
      go_wp2
      go_ret
      exact ⟨by rw [HE.out]; simp, rfl⟩
    · have HE : Hid (isDg c = false) := Lib.hid (by rw [hI]; simp [h2])
      have k2 : decide ((c.toNat : Int) ≤ 57) = false := by simpa using h2
      clear hI
      go_enter Tryz.func41, Tryz.ntmps41
      go_wp2
      go_ret
      exact ⟨by rw [HE.out]; simp, rfl⟩
  · have HE : Hid (isDg c = false) := Lib.hid (by rw [hI]; simp [h1])
    have k1 : decide ((48 : Int) ≤ (c.toNat : Int)) = false := by simpa using h1
    clear hI
    go_enter Tryz.func41, Tryz.ntmps41
    go_wp2
    go_ret
    exact ⟨by rw [HE.out]; simp, rfl⟩
theorem isNmC_or (c : UInt8) : isNmC c = (isLow c || isDg c || c == 95) := rfl
theorem c95 (c : UInt8) : ((c.toNat : Int) == 95) = (c == 95) := by
  rw [Bool.eq_iff_iff, beq_iff_eq, beq_iff_eq]
  constructor
  · intro h
    exact UInt8.toNat_inj.1 (by show c.toNat = 95; omega)
  · rintro rfl; rfl
theorem rinside_any (c : UInt8) (w : World) : Calls Tryz.prog 40 #[.int .u8 (c.toNat : Int)] w fun x w' => x = .returned (.bool (isNmC c)) ∧ w' = w := by
  have hL := rletter_any c w
  have hD := rdigit_any c w
  have h9 := c95 c
  have HN := Lib.hid (isNmC_or c)
  cases hl : isLow c with
  | true =>
    have HE : Hid (isNmC c = true) := Lib.hid (by rw [HN.out, hl]; rfl)
    rw [hl] at hL
    have HL := Lib.hid hL
    clear hL hD h9 hl
    go_enter Tryz.func40, Tryz.ntmps40
    go_wp2_with fail
    refine HL.out.mono ?_
    rintro x w' ⟨rfl, rfl⟩
    go_wp2
    go_ret
    exact ⟨by rw [HE.out]; rfl, rfl⟩
  | false =>
    rw [hl] at hL
    cases hd : isDg c with
    | true =>
      have HE : Hid (isNmC c = true) := Lib.hid (by rw [HN.out, hl, hd]; rfl)
      rw [hd] at hD
      have HL := Lib.hid hL
      have HD := Lib.hid hD
      clear hL hD h9 hl hd
      go_enter Tryz.func40, Tryz.ntmps40
      go_wp2_with fail
      refine HL.out.mono ?_
      rintro x w' ⟨rfl, rfl⟩
      go_wp2_with fail
      refine HD.out.mono ?_
      rintro x w' ⟨rfl, rfl⟩
      go_wp2
      go_ret
      exact ⟨by rw [HE.out]; rfl, rfl⟩
    | false =>
      rw [hd] at hD
      obtain ⟨b, hb⟩ : ∃ b, (c == 95) = b := ⟨_, rfl⟩
      have HE : Hid (isNmC c = b) := Lib.hid (by rw [HN.out, hl, hd, hb]; rfl)
      rw [hb] at h9
      have HL := Lib.hid hL
      have HD := Lib.hid hD
      clear hL hD hl hd hb
      cases b with
      | true =>
        go_enter Tryz.func40, Tryz.ntmps40
        go_wp2_with fail
        refine HL.out.mono ?_
        rintro x w' ⟨rfl, rfl⟩
        go_wp2_with fail
        refine HD.out.mono ?_
        rintro x w' ⟨rfl, rfl⟩
        go_wp2
        go_ret
        exact ⟨by rw [HE.out]; rfl, rfl⟩
      | false =>
        go_enter Tryz.func40, Tryz.ntmps40
        go_wp2_with fail
        refine HL.out.mono ?_
        rintro x w' ⟨rfl, rfl⟩
        go_wp2_with fail
        refine HD.out.mono ?_
        rintro x w' ⟨rfl, rfl⟩
        go_wp2
        go_ret
        exact ⟨by rw [HE.out]; rfl, rfl⟩
/-! ### Names -/
theorem at_list (s : ByteArray) (j : Nat) (h : j < s.size) : s.data.toList[j]? = some (s[j]'h) := by
  have hl : j < s.data.toList.length := by rw [Array.length_toList]; exact h
  rw [List.getElem?_eq_getElem hl]
  rfl
theorem nm_bad {s : ByteArray} {j : Nat} (h : j < s.size) (hc : isNmC (s[j]'h) = false) : nmB s = false := by
  have hj := at_list s j h
  unfold nmB
  cases hl : s.data.toList with
  | nil => rfl
  | cons c r =>
    rw [hl] at hj
    cases hb : (decide (r.length + 1 ≤ 30) && isLow c && r.all isNmC) with
    | false => exact hb
    | true =>
      exfalso
      simp only [Bool.and_eq_true, List.all_eq_true] at hb
      cases j with
      | zero =>
        have : c = s[0]'h := by simpa using hj
        rw [← this] at hc
        have := lx_low_nm hb.1.2
        rw [hc] at this; cases this
      | succ j =>
        have hm : s[j+1]'h ∈ r := List.mem_of_getElem? (by simpa using hj)
        have := hb.2 _ hm
        rw [hc] at this; cases this
theorem nm_all {s : ByteArray} (h : ∀ j (hj : j < s.size), isNmC (s[j]'hj) = true) (h1 : 1 ≤ s.size) : nmB s = (decide (s.size ≤ 30) && isLow (s[0]'(by omega))) := by
  have hz := list_len s
  have h0 := at_list s 0 (by omega)
  unfold nmB
  cases hl : s.data.toList with
  | nil => rw [hl] at hz; simp at hz; omega
  | cons c r =>
    rw [hl] at hz h0
    have hc : c = s[0]'(by omega) := by simpa using h0
    have hr : r.all isNmC = true := by
      rw [List.all_eq_true]
      intro x hx
      obtain ⟨i, hi, e⟩ := List.mem_iff_getElem.1 hx
      simp only [List.length_cons] at hz
      have := at_list s (i + 1) (by omega)
      rw [hl, List.getElem?_cons_succ, List.getElem?_eq_getElem hi, e] at this
      rw [Option.some.inj this]
      exact h _ _
    simp only [List.length_cons] at hz
    simp only [hr, Bool.and_true, hz, ← hc]
end Go.Proofs.YtdgphhdkeikbaaaGreatDoor
