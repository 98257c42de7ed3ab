/-
  The reference's small functions over bytes.
-/
import Derived.Test.YtdgphhdkeikbaaaDoorLxPs
import Derived.Test.YtdgphhdkeikbaaaDoorExRefA
namespace Go.Proofs.YtdgphhdkeikbaaaDoor
set_option linter.unusedSimpArgs false
set_option linter.unusedVariables false
open Go.RowKit

theorem dgI (c : UInt8) : isDg c = (decide ((48 : Int) ≤ (c.toNat : Int)) && decide ((c.toNat : Int) ≤ 57)) := by unfold isDg; exact digI c
theorem rletter_any (c : UInt8) (w : World) : Calls Tryd.prog 80 #[.int .u8 (c.toNat : Int)] w fun x w' => x = .returned (.bool (isLow c)) ∧ w' = w := by
  by_cases h1 : (97 : Int) ≤ (c.toNat : Int)
  · by_cases h2 : (c.toNat : Int) ≤ 122
    · have HE : Hid (isLow c = true) := Lib.hid (isLow_of h1 h2)
      have k2 : decide ((c.toNat : Int) ≤ 122) = true := by simpa using h2
      go_enter Tryd.func80, Tryd.ntmps80
      go_wp2
      go_ret
      exact ⟨by rw [HE.out]; simp, rfl⟩
    · have HE : Hid (isLow c = false) := Lib.hid (isLow_hi h2)
      have k2 : decide ((c.toNat : Int) ≤ 122) = false := by simpa using h2
      go_enter Tryd.func80, Tryd.ntmps80
      go_wp2
      go_ret
      exact ⟨by rw [HE.out]; simp, rfl⟩
  · have HE : Hid (isLow c = false) := Lib.hid (isLow_lo h1)
    have k1 : decide ((97 : Int) ≤ (c.toNat : Int)) = false := by simpa using h1
    go_enter Tryd.func80, Tryd.ntmps80
    go_wp2
    go_ret
    exact ⟨by rw [HE.out]; simp, rfl⟩
theorem rdigit_any (c : UInt8) (w : World) : Calls Tryd.prog 82 #[.int .u8 (c.toNat : Int)] w fun x w' => x = .returned (.bool (isDg c)) ∧ w' = w := by
  have hI := dgI c
  by_cases h1 : (48 : Int) ≤ (c.toNat : Int)
  · by_cases h2 : (c.toNat : Int) ≤ 57
    · have HE : Hid (isDg c = true) := Lib.hid (by rw [hI]; simp [h1, h2])
      have k2 : decide ((c.toNat : Int) ≤ 57) = true := by simpa using h2
      clear hI
      go_enter Tryd.func82, Tryd.ntmps82
      go_wp2
      go_ret
      exact ⟨by rw [HE.out]; simp, rfl⟩
    · have HE : Hid (isDg c = false) := Lib.hid (by rw [hI]; simp [h2])
      have k2 : decide ((c.toNat : Int) ≤ 57) = false := by simpa using h2
      clear hI
      go_enter Tryd.func82, Tryd.ntmps82
      go_wp2
      go_ret
      exact ⟨by rw [HE.out]; simp, rfl⟩
  · have HE : Hid (isDg c = false) := Lib.hid (by rw [hI]; simp [h1])
    have k1 : decide ((48 : Int) ≤ (c.toNat : Int)) = false := by simpa using h1
    clear hI
    go_enter Tryd.func82, Tryd.ntmps82
    go_wp2
    go_ret
    exact ⟨by rw [HE.out]; simp, rfl⟩
theorem isNmC_or (c : UInt8) : isNmC c = (isLow c || isDg c || c == 95) := rfl
theorem c95 (c : UInt8) : ((c.toNat : Int) == 95) = (c == 95) := by
  rw [Bool.eq_iff_iff, beq_iff_eq, beq_iff_eq]
  constructor
  · intro h
    exact UInt8.toNat_inj.1 (by show c.toNat = 95; omega)
  · rintro rfl; rfl
theorem rinside_any (c : UInt8) (w : World) : Calls Tryd.prog 81 #[.int .u8 (c.toNat : Int)] w fun x w' => x = .returned (.bool (isNmC c)) ∧ w' = w := by
  have hL := rletter_any c w
  have hD := rdigit_any c w
  have h9 := c95 c
  have HN := Lib.hid (isNmC_or c)
  cases hl : isLow c with
  | true =>
    have HE : Hid (isNmC c = true) := Lib.hid (by rw [HN.out, hl]; rfl)
    rw [hl] at hL
    have HL := Lib.hid hL
    clear hL hD h9 hl
    go_enter Tryd.func81, Tryd.ntmps81
    go_wp2_with fail
    refine HL.out.mono ?_
    rintro x w' ⟨rfl, rfl⟩
    go_wp2
    go_ret
    exact ⟨by rw [HE.out]; rfl, rfl⟩
  | false =>
    rw [hl] at hL
    cases hd : isDg c with
    | true =>
      have HE : Hid (isNmC c = true) := Lib.hid (by rw [HN.out, hl, hd]; rfl)
      rw [hd] at hD
      have HL := Lib.hid hL
      have HD := Lib.hid hD
      clear hL hD h9 hl hd
      go_enter Tryd.func81, Tryd.ntmps81
      go_wp2_with fail
      refine HL.out.mono ?_
      rintro x w' ⟨rfl, rfl⟩
      go_wp2_with fail
      refine HD.out.mono ?_
      rintro x w' ⟨rfl, rfl⟩
      go_wp2
      go_ret
      exact ⟨by rw [HE.out]; rfl, rfl⟩
    | false =>
      rw [hd] at hD
      obtain ⟨b, hb⟩ : ∃ b, (c == 95) = b := ⟨_, rfl⟩
      have HE : Hid (isNmC c = b) := Lib.hid (by rw [HN.out, hl, hd, hb]; rfl)
      rw [hb] at h9
      have HL := Lib.hid hL
      have HD := Lib.hid hD
      clear hL hD hl hd hb
      cases b with
      | true =>
        go_enter Tryd.func81, Tryd.ntmps81
        go_wp2_with fail
        refine HL.out.mono ?_
        rintro x w' ⟨rfl, rfl⟩
        go_wp2_with fail
        refine HD.out.mono ?_
        rintro x w' ⟨rfl, rfl⟩
        go_wp2
        go_ret
        exact ⟨by rw [HE.out]; rfl, rfl⟩
      | false =>
        go_enter Tryd.func81, Tryd.ntmps81
        go_wp2_with fail
        refine HL.out.mono ?_
        rintro x w' ⟨rfl, rfl⟩
        go_wp2_with fail
        refine HD.out.mono ?_
        rintro x w' ⟨rfl, rfl⟩
        go_wp2
        go_ret
        exact ⟨by rw [HE.out]; rfl, rfl⟩
/-- A token's value; where it stands may be any number. -/
def tkW (t : Tk) (av : Int) : Value := .agg #[.int .i64 t.k, .string t.t, .int .i64 t.v, .int .i64 av]
theorem ris_any (t : Tk) (av : Int) (x : ByteArray) (w : World) : Calls Tryd.prog 77 #[tkW t av, .string x] w fun e w' => e = .returned (.bool (isS t x)) ∧ Below w.heap.size w w' := by
  obtain ⟨k, s, v, a⟩ := t
  have hb : Below w.heap.size w (w.alloc (.cells #[.int .i64 k, .string s, .int .i64 v, .int .i64 av] 37)) := (Below.refl _ w).alloc (Nat.le_refl _) _
  have HB := Lib.hid hb
  have HI : Hid (isS ⟨k, s, v, a⟩ x = (decide (k = 3) && decide (s = x))) := Lib.hid rfl
  simp only [tkW]
  clear hb
  by_cases h1 : k = 3
  · obtain ⟨q1, q2⟩ := ieq h1
    by_cases h2 : s = x
    · obtain ⟨q3, q4, q5⟩ := str_yes h2
      have HE : Hid (isS ⟨k, s, v, a⟩ x = true) := Lib.hid (by rw [HI.out]; simp [h1, h2])
      clear h1 h2 HI
      go_enter Tryd.func77, Tryd.ntmps77
      go_wp2
      go_ret
      exact ⟨by rw [HE.out]; simp [q5], HB.out⟩
    · obtain ⟨q3, q4, q5⟩ := str_no h2
      have HE : Hid (isS ⟨k, s, v, a⟩ x = false) := Lib.hid (by rw [HI.out]; simp [h2])
      clear h1 h2 HI
      go_enter Tryd.func77, Tryd.ntmps77
      go_wp2
      go_ret
      exact ⟨by rw [HE.out]; simp [q5], HB.out⟩
  · obtain ⟨q1, q2⟩ := ine h1
    have HE : Hid (isS ⟨k, s, v, a⟩ x = false) := Lib.hid (by rw [HI.out]; simp [h1])
    clear h1 HI
    go_enter Tryd.func77, Tryd.ntmps77
    go_wp2
    go_ret
    exact ⟨by rw [HE.out]; rfl, HB.out⟩

/-! ### Names -/
theorem at_list (s : ByteArray) (j : Nat) (h : j < s.size) : s.data.toList[j]? = some (s[j]'h) := by
  have hl : j < s.data.toList.length := by rw [Array.length_toList]; exact h
  rw [List.getElem?_eq_getElem hl]
  rfl
theorem nm_bad {s : ByteArray} {j : Nat} (h : j < s.size) (hc : isNmC (s[j]'h) = false) : nmB s = false := by
  have hj := at_list s j h
  unfold nmB
  cases hl : s.data.toList with
  | nil => rfl
  | cons c r =>
    rw [hl] at hj
    cases hb : (decide (r.length + 1 ≤ 30) && isLow c && r.all isNmC) with
    | false => exact hb
    | true =>
      exfalso
      simp only [Bool.and_eq_true, List.all_eq_true] at hb
      cases j with
      | zero =>
        have : c = s[0]'h := by simpa using hj
        rw [← this] at hc
        have := lx_low_nm hb.1.2
        rw [hc] at this; cases this
      | succ j =>
        have hm : s[j+1]'h ∈ r := List.mem_of_getElem? (by simpa using hj)
        have := hb.2 _ hm
        rw [hc] at this; cases this
theorem nm_all {s : ByteArray} (h : ∀ j (hj : j < s.size), isNmC (s[j]'hj) = true) (h1 : 1 ≤ s.size) : nmB s = (decide (s.size ≤ 30) && isLow (s[0]'(by omega))) := by
  have hz := list_len s
  have h0 := at_list s 0 (by omega)
  unfold nmB
  cases hl : s.data.toList with
  | nil => rw [hl] at hz; simp at hz; omega
  | cons c r =>
    rw [hl] at hz h0
    have hc : c = s[0]'(by omega) := by simpa using h0
    have hr : r.all isNmC = true := by
      rw [List.all_eq_true]
      intro x hx
      obtain ⟨i, hi, e⟩ := List.mem_iff_getElem.1 hx
      simp only [List.length_cons] at hz
      have := at_list s (i + 1) (by omega)
      rw [hl, List.getElem?_cons_succ, List.getElem?_eq_getElem hi, e] at this
      rw [Option.some.inj this]
      exact h _ _
    simp only [List.length_cons] at hz
    simp only [hr, Bool.and_true, hz, ← hc]
set_option maxRecDepth 100000 in
set_option maxHeartbeats 4000000 in
theorem rname_any (s : ByteArray) (w : World) (hs : s.size ≤ 9223372036854775807) : Calls Tryd.prog 75 #[.string s] w fun e w' => e = .returned (.bool (nmB s)) ∧ w' = w := by
  have HI := Lib.hid (fun c W => rinside_any c W)
  have HL := Lib.hid (fun c W => rletter_any c W)
  have HBAD : Hid (∀ j (h : j < s.size), isNmC (s[j]'h) = false → nmB s = false) := Lib.hid (fun j h hc => nm_bad h hc)
  have HALL : Hid ((∀ j (hj : j < s.size), isNmC (s[j]'hj) = true) → ∀ h1 : 1 ≤ s.size, nmB s = (decide (s.size ≤ 30) && isLow (s[0]'(by omega)))) := Lib.hid (fun h h1 => nm_all h h1)
  have HE0 : Hid (s.size = 0 → nmB s = false) := Lib.hid (fun h => by
    have := list_len s
    unfold nmB
    cases hl : s.data.toList with
    | nil => rfl
    | cons c r => rw [hl] at this; simp at this; omega)
  go_enter Tryd.func75, Tryd.ntmps75
  go_wp2
  go_loopw [3] (fun x wr => ∃ j : Nat, j ≤ s.size ∧ x = .int .i64 j ∧ Hid (∀ i (hi : i < s.size), i < j → isNmC (s[i]'hi) = true) ∧ wr = w) (fun x _ => s.size - (intOf x).toNat)
  case atStart => exact ⟨0, Nat.zero_le _, rfl, Lib.hid (fun i _ h => by omega), rfl⟩
  case round =>
    obtain ⟨j, hj, rfl, HJ, rfl⟩ := hrel
    by_cases hlt : j < s.size
    · have k1 : (j : Int) < (s.size : Int) := by omega
      have hC := HI.out (s[j]'hlt) wr
      cases hc : isNmC (s[j]'hlt) with
      | true =>
        rw [hc] at hC
        have HC := Lib.hid hC
        have HJ2 : Hid (∀ i (hi : i < s.size), i < j + 1 → isNmC (s[i]'hi) = true) := Lib.hid (fun i hi h => by
          rcases Nat.lt_succ_iff_lt_or_eq.1 h with h | rfl
          · exact HJ.out i hi h
          · exact hc)
        clear hC hc
        go_wp2_with fail
        refine HC.out.mono ?_
        rintro e w' ⟨rfl, rfl⟩
        go_wp2
        go_roundw
        case rel => exact ⟨j + 1, by omega, by go_num, HJ2, by first | rfl | trivial⟩
        case measure => simp [intOf]; omega
      | false =>
        rw [hc] at hC
        have HC := Lib.hid hC
        have HR := Lib.hid (HBAD.out j hlt hc)
        clear hC hc
        go_wp2_with fail
        refine HC.out.mono ?_
        rintro e w' ⟨rfl, rfl⟩
        go_wp2
        go_ret
        exact ⟨by rw [HR.out]; rfl, rfl⟩
    · obtain rfl : j = s.size := by omega
      by_cases h1 : 1 ≤ s.size
      · have k1 : (1 : Int) ≤ (s.size : Int) := by omega
        have hA := HALL.out (fun i hi => HJ.out i hi hi) h1
        by_cases h3 : s.size ≤ 30
        · have k3 : (s.size : Int) ≤ 30 := by omega
          obtain ⟨c, hc⟩ : ∃ c, s[0]'(by omega) = c := ⟨_, rfl⟩
          have hC := HL.out (s[0]'(by omega)) wr
          have HA : Hid (nmB s = isLow (s[0]'(by omega))) := Lib.hid (by rw [hA]; simp [h3])
          have HC := Lib.hid hC
          clear hC hA hc
          go_wp2_with fail
          refine HC.out.mono ?_
          rintro e w' ⟨rfl, rfl⟩
          go_wp2
          go_ret
          exact ⟨by rw [HA.out]; rfl, rfl⟩
        · have k3 : ¬ (s.size : Int) ≤ 30 := by omega
          have HA : Hid (nmB s = false) := Lib.hid (by rw [hA]; simp [h3])
          clear hA
          go_wp2
          go_ret
          exact ⟨by rw [HA.out]; rfl, rfl⟩
      · have k1 : ¬ (1 : Int) ≤ (s.size : Int) := by omega
        have HA := Lib.hid (HE0.out (by omega))
        go_wp2
        go_ret
        exact ⟨by rw [HA.out]; rfl, rfl⟩
end Go.Proofs.YtdgphhdkeikbaaaDoor
