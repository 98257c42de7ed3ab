/-
  Runes of a text; the program's isLetter, isDigit, wordSize, isNumber.
-/
import Derived.Test.YtdgphhdkeikbaaaDoorLxPlain
import Derived.Laws.RangeAny
import Derived.Lib.OthersKept
namespace Go.Proofs.YtdgphhdkeikbaaaDoor
set_option linter.unusedSimpArgs false
set_option linter.unusedVariables false
open Go.RowKit

theorem dec_wid (s : ByteArray) (pos : Nat) (h : pos < s.size) : 1 ≤ (Utf8.decode s pos).2 ∧ pos + (Utf8.decode s pos).2 ≤ s.size ∧ ∀ k, 0 < k → k < (Utf8.decode s pos).2 → 128 ≤ (s.get! (pos + k)).toNat := by
  simp only [Utf8.decode]
  repeat' split
  all_goals simp only [Bool.and_eq_true, decide_eq_true_eq, beq_iff_eq] at *
  all_goals refine ⟨?_, ?_, fun k h1 h2 => ?_⟩
  all_goals try dsimp only at *
  all_goals first
    | omega
    | (rcases (show k = 1 ∨ k = 2 ∨ k = 3 by omega) with rfl | rfl | rfl <;> omega)
theorem get_list (s : ByteArray) (j : Nat) (h : j < s.size) : s.data.toList[j]? = some (s.get! j) := by
  have : s.get! j = s[j]'h := get_at s j h
  rw [this]
  simp only [Array.getElem?_toList]
  exact Array.getElem?_eq_getElem (show j < s.data.size from h)
theorem list_len (s : ByteArray) : s.data.toList.length = s.size := Array.length_toList
/-- The rune at a place: what is known of it. -/
structure RuneAt (s : ByteArray) (pos : Nat) (c : UInt8) (r w : Nat) : Prop where
  asc : c.toNat < 128 → r = c.toNat ∧ w = 1
  hi : 128 ≤ c.toNat → 128 ≤ r
  le : r ≤ 2147483647
  w1 : 1 ≤ w
  wl : pos + w ≤ s.size
  cont : ∀ k, pos < k → k < pos + w → ∃ d, s.data.toList[k]? = some d ∧ 128 ≤ d.toNat
theorem rune_at (s : ByteArray) (pos : Nat) (h : pos < s.size) : ∃ c, s.data.toList[pos]? = some c ∧ RuneAt s pos c (Utf8.decode s pos).1 (Utf8.decode s pos).2 := by
  obtain ⟨d1, d2, d3⟩ := dec_wid s pos h
  refine ⟨s[pos]'h, ?_, ⟨fun ha => ?_, fun ha => (decode_high s pos h ha).1, decode_le s pos, d1, d2, fun k h1 h2 => ?_⟩⟩
  · rw [get_list s pos h]
    exact congrArg some (get_at s pos h)
  · rw [decode_ascii s pos h ha]; exact ⟨rfl, rfl⟩
  · refine ⟨s.get! k, get_list s k (by omega), ?_⟩
    have := d3 (k - pos) (by omega) (by omega)
    rwa [show pos + (k - pos) = k by omega] at this
theorem drop_at {L : LBy} {pos : Nat} {c : UInt8} (h : L[pos]? = some c) : L.drop pos = c :: L.drop (pos + 1) := by
  obtain ⟨hl, rfl⟩ := List.getElem?_eq_some_iff.1 h
  exact List.drop_eq_getElem_cons hl

def letR (r : Int) : Bool := decide (97 ≤ r) && decide (r ≤ 122)
def digR (r : Int) : Bool := decide (48 ≤ r) && decide (r ≤ 57)
theorem letR_eq {s : ByteArray} {pos r w : Nat} {c : UInt8} (h : RuneAt s pos c r w) : letR (r : Int) = isLow c := by
  unfold letR isLow
  rw [Bool.eq_iff_iff]
  simp only [Bool.and_eq_true, decide_eq_true_eq, UInt8.le_iff_toNat_le]
  have : (97 : UInt8).toNat = 97 := rfl
  have : (122 : UInt8).toNat = 122 := rfl
  by_cases ha : c.toNat < 128
  · have := (h.asc ha).1; omega
  · have := h.hi (by omega); omega
theorem digR_eq {s : ByteArray} {pos r w : Nat} {c : UInt8} (h : RuneAt s pos c r w) : digR (r : Int) = isDg c := by
  unfold digR isDg
  rw [Bool.eq_iff_iff]
  simp only [Bool.and_eq_true, decide_eq_true_eq, UInt8.le_iff_toNat_le]
  have : (48 : UInt8).toNat = 48 := rfl
  have : (57 : UInt8).toNat = 57 := rfl
  by_cases ha : c.toNat < 128
  · have := (h.asc ha).1; omega
  · have := h.hi (by omega); omega
theorem RuneAt.is {s : ByteArray} {pos r w : Nat} {c d : UInt8} (h : RuneAt s pos c r w) (hd : d.toNat < 128) : ((r : Int) == (d.toNat : Int)) = (c == d) := by
  rw [Bool.eq_iff_iff]
  simp only [beq_iff_eq]
  by_cases ha : c.toNat < 128
  · have := (h.asc ha).1
    subst this
    constructor
    · intro e; exact UInt8.toNat_inj.1 (by omega)
    · rintro rfl; rfl
  · have := h.hi (by omega)
    constructor
    · intro e; omega
    · rintro rfl; omega
theorem lxLetter_any (r : Int) (w : World) : Calls Tryd.prog 85 #[.int .i32 r] w fun x w' => x = .returned (.bool (letR r)) ∧ w' = w := by
  by_cases h1 : 97 ≤ r
  · by_cases h2 : r ≤ 122
    · have HE : Hid (letR r = true) := Lib.hid (by simp [letR, h1, h2])
      have k2 : decide (r ≤ 122) = true := by simpa using h2
      go_enter Tryd.func85, Tryd.ntmps85
      go_wp2
      go_ret
      exact ⟨by rw [HE.out]; simp, rfl⟩
    · have HE : Hid (letR r = false) := Lib.hid (by simp [letR, h1, h2])
      have k2 : decide (r ≤ 122) = false := by simpa using h2
      go_enter Tryd.func85, Tryd.ntmps85
      go_wp2
      go_ret
      exact ⟨by rw [HE.out]; simp, rfl⟩
  · have HE : Hid (letR r = false) := Lib.hid (by simp [letR, h1])
    have k1 : decide (97 ≤ r) = false := by simpa using h1
    go_enter Tryd.func85, Tryd.ntmps85
    go_wp2
    go_ret
    exact ⟨by rw [HE.out]; simp, rfl⟩
theorem lxDigit_any (r : Int) (w : World) : Calls Tryd.prog 88 #[.int .i32 r] w fun x w' => x = .returned (.bool (digR r)) ∧ w' = w := by
  by_cases h1 : 48 ≤ r
  · by_cases h2 : r ≤ 57
    · have HE : Hid (digR r = true) := Lib.hid (by simp [digR, h1, h2])
      have k2 : decide (r ≤ 57) = true := by simpa using h2
      go_enter Tryd.func88, Tryd.ntmps88
      go_wp2
      go_ret
      exact ⟨by rw [HE.out]; simp, rfl⟩
    · have HE : Hid (digR r = false) := Lib.hid (by simp [digR, h1, h2])
      have k2 : decide (r ≤ 57) = false := by simpa using h2
      go_enter Tryd.func88, Tryd.ntmps88
      go_wp2
      go_ret
      exact ⟨by rw [HE.out]; simp, rfl⟩
  · have HE : Hid (digR r = false) := Lib.hid (by simp [digR, h1])
    have k1 : decide (48 ≤ r) = false := by simpa using h1
    go_enter Tryd.func88, Tryd.ntmps88
    go_wp2
    go_ret
    exact ⟨by rw [HE.out]; simp, rfl⟩
theorem wdN_go {L : LBy} {pos : Nat} {c : UInt8} (h : L[pos]? = some c) (hc : isNmC c = true) (he : pos + wdN (L.drop pos) = wdN L) : pos + 1 + wdN (L.drop (pos + 1)) = wdN L := by
  rw [drop_at h] at he
  have : wdN (c :: L.drop (pos + 1)) = wdN (L.drop (pos + 1)) + 1 := by unfold wdN; rw [List.takeWhile_cons, if_pos hc, List.length_cons]
  omega
theorem wdN_stop {L : LBy} {pos : Nat} {c : UInt8} (h : L[pos]? = some c) (hc : isNmC c = false) (he : pos + wdN (L.drop pos) = wdN L) : wdN L = pos := by
  rw [drop_at h] at he
  have : wdN (c :: L.drop (pos + 1)) = 0 := by unfold wdN; rw [List.takeWhile_cons, if_neg (by rw [hc]; decide)]; rfl
  omega
set_option maxHeartbeats 2000000 in
theorem wordSize_any (s : ByteArray) (w : World) (hs : s.size ≤ 4000) :
    Calls Tryd.prog 87 #[.string s] w fun x w' => x = .returned (.int .i64 (wdN s.data.toList : Nat)) ∧ Below w.heap.size w w' := by
  have HL := Lib.hid (fun r W => lxLetter_any r W)
  have HD := Lib.hid (fun r W => lxDigit_any r W)
  have HS := Lib.hid hs
  have HBI : Hid (∀ pos, Below w.heap.size w (w.iter s pos)) := Lib.hid (fun pos => (Below.refl _ w).alloc (Nat.le_refl _) _)
  go_enter Tryd.func87, Tryd.ntmps87
  go_wp2
  go_loopw [3, 4] (fun _ _ w' => ∃ pos : Nat, w' = w.iter s pos ∧ pos ≤ s.size ∧ Hid (pos + wdN (s.data.toList.drop pos) = wdN s.data.toList)) (fun _ _ w' => s.size - w'.iterPos w.heap.size)
  case atStart => exact ⟨0, rfl, Nat.zero_le _, Lib.hid (by simp)⟩
  case round =>
    obtain ⟨pos, rfl, hp0, HE⟩ := hrel
    by_cases hp : pos < s.size
    · obtain ⟨c, hc, hr⟩ := rune_at s pos hp
      have hnx : ∀ ty, (Instr.next (.pointer (some ⟨w.heap.size, 0, none⟩)) true ty).run Tryd.prog (w.iter s pos) = _ := fun ty => run_next_any w s pos ty hp
      have HLR := letR_eq hr
      have HDR := digR_eq hr
      have HUR := hr.is (d := 95) (by decide)
      obtain ⟨R, hR⟩ : ∃ R, (Utf8.decode s pos).1 = R := ⟨_, rfl⟩
      obtain ⟨wd, hwd⟩ : ∃ R, (Utf8.decode s pos).2 = R := ⟨_, rfl⟩
      rw [hR] at HLR HDR HUR hr hnx
      rw [hwd] at hr hnx
      have H1 := HL.out (R : Int)
      have H2 := HD.out (R : Int)
      rw [HLR] at H1
      rw [HDR] at H2
      have HC := Lib.hid hc
      have HR := Lib.hid hr
      clear HLR HDR hR hwd hc
      have hwd1 := hr.w1
      have hwd2 := hr.wl
      have hfin : isNmC c = true → wd = 1 := fun h => (hr.asc (nm_lt h)).2
      clear hr
      by_cases h1 : isLow c = true
      · obtain rfl := hfin (lx_low_nm h1)
        have HN := Lib.hid (lx_low_nm h1)
        rw [h1] at H1
        replace H1 := Lib.hid H1
        clear H2 HUR h1 hfin
        go_wp2_with (refine (H1.out _).mono ?_; rintro x w' ⟨rfl, rfl⟩)
        go_roundw
        case rel => exact ⟨pos + 1, rfl, hwd2, Lib.hid (wdN_go HC.out HN.out HE.out)⟩
        case measure => simp; omega
      · have h1' : isLow c = false := by simpa using h1
        rw [h1'] at H1
        replace H1 := Lib.hid H1
        by_cases h2 : isDg c = true
        · obtain rfl := hfin (dg_nm h2)
          have HN := Lib.hid (dg_nm h2)
          rw [h2] at H2
          replace H2 := Lib.hid H2
          clear HUR h1 h2 h1' hfin
          go_wp2_with (first | (refine (H1.out _).mono ?_; rintro x w' ⟨rfl, rfl⟩) | (refine (H2.out _).mono ?_; rintro x w' ⟨rfl, rfl⟩))
          go_roundw
          case rel => exact ⟨pos + 1, rfl, hwd2, Lib.hid (wdN_go HC.out HN.out HE.out)⟩
          case measure => simp; omega
        · have h2' : isDg c = false := by simpa using h2
          rw [h2'] at H2
          replace H2 := Lib.hid H2
          have hnc : isNmC c = (c == 95) := by
            unfold isNmC
            have h2'' := h2'
            unfold isDg at h2''
            rw [h1', h2'']; simp
          by_cases h3 : (c == 95) = true
          · rw [h3] at hnc HUR
            obtain rfl := hfin hnc
            have HN := Lib.hid hnc
            have HU : ((R : Int) == 95) = true := HUR
            clear HUR h1 h2 h1' h2' h3 hnc hfin
            go_wp2_with (first | (refine (H1.out _).mono ?_; rintro x w' ⟨rfl, rfl⟩) | (refine (H2.out _).mono ?_; rintro x w' ⟨rfl, rfl⟩))
            go_roundw
            case rel => exact ⟨pos + 1, rfl, hwd2, Lib.hid (wdN_go HC.out HN.out HE.out)⟩
            case measure => simp; omega
          · have h3' : (c == 95) = false := by simpa using h3
            rw [h3'] at hnc HUR
            have HN := Lib.hid hnc
            have HU : ((R : Int) == 95) = false := HUR
            clear HUR h1 h2 h1' h2' h3 h3' hnc hfin
            go_wp2_with (first | (refine (H1.out _).mono ?_; rintro x w' ⟨rfl, rfl⟩) | (refine (H2.out _).mono ?_; rintro x w' ⟨rfl, rfl⟩))
            go_ret
            exact ⟨by rw [wdN_stop HC.out HN.out HE.out]; rfl, HBI.out _⟩
    · have hnx : ∀ ty, (Instr.next (.pointer (some ⟨w.heap.size, 0, none⟩)) true ty).run Tryd.prog (w.iter s pos) = _ := fun ty => run_next_end w s pos ty hp
      have HN : Hid (wdN s.data.toList = s.size) := Lib.hid (by
        have := HE.out
        rw [List.drop_of_length_le (by rw [list_len]; omega)] at this
        have h0 : wdN [] = 0 := rfl
        omega)
      go_wp2
      go_ret
      exact ⟨by rw [HN.out]; rfl, HBI.out _⟩
end Go.Proofs.YtdgphhdkeikbaaaDoor
