/-
  The library's CutPrefix and Cut, with one byte to look for; the statement's separator.
-/
import Derived.Shelf.Strings.Cut
import Derived.Deep.QuietTactic
import Derived.BigQuiet
import Derived.RegionTactic
import Derived.Test.YtdgphhdkeikbaaaDoorLxDiv
import Derived.Test.YtdgphhdkeikbaaaDoorLxOff
namespace Go.Proofs.YtdgphhdkeikbaaaDoor
set_option linter.unusedSimpArgs false
set_option linter.unusedVariables false
open Go.RowKit Go.Shelf Go.Sort
def Tryd.indexS_ren : Go.Shelf.Ren := ⟨fun | 219 => 90 | 217 => 98 | 225 => 99 | 224 => 100 | 267 => 101 | 266 => 107 | 314 => 108 | n => n, fun | 9 => 9 | 3 => 3 | 4 => 4 | 5 => 5 | 46 => 108 | 146 => 113 | 51 => 112 | n => n, fun | 1 => 1 | n => n⟩
theorem Tryd.indexS : Go.Proofs.Lays.n219 Tryd.prog Tryd.indexS_ren := {
  mixed := by kernel_rfl
  f217 := Tryd.func98.trans (congrArg some (by kernel_rfl))
  f219 := Tryd.func90.trans (congrArg some (by kernel_rfl))
  f224 := Tryd.func100.trans (congrArg some (by kernel_rfl))
  f225 := Tryd.func99.trans (congrArg some (by kernel_rfl))
  f266 := Tryd.func107.trans (congrArg some (by kernel_rfl))
  f267 := Tryd.func101.trans (congrArg some (by kernel_rfl))
  f314 := Tryd.func108.trans (congrArg some (by kernel_rfl))
  t3 := Tryd.underlying3
  a3 := Tryd.isAgg3
  z3 := Tryd.sizeOf3
  v3 := Tryd.zeroValue3
  t4 := Tryd.underlying4
  a4 := Tryd.isAgg4
  z4 := Tryd.sizeOf4
  v4 := Tryd.zeroValue4
  t5 := Tryd.underlying5
  a5 := Tryd.isAgg5
  z5 := Tryd.sizeOf5
  v5 := Tryd.zeroValue5
  t9 := Tryd.underlying9
  a9 := Tryd.isAgg9
  z9 := Tryd.sizeOf9
  v9 := Tryd.zeroValue9
  t46 := Tryd.underlying108
  a46 := Tryd.isAgg108
  z46 := Tryd.sizeOf108
  v46 := Tryd.zeroValue108
  t51 := Tryd.underlying112
  a51 := Tryd.isAgg112
  z51 := Tryd.sizeOf112
  v51 := Tryd.zeroValue112
  t146 := Tryd.underlying113
  a146 := Tryd.isAgg113
  z146 := Tryd.sizeOf113
  v146 := Tryd.zeroValue113
  g1 := by kernel_rfl }
theorem hasPrefixL_any (s p : ByteArray) (w : World) : Calls Tryd.prog 40 #[.string s, .string p] w fun e w' => e = .returned (.bool (Lib.hasPrefix s.data.toList p.data.toList)) ∧ w' = w := Any.stringslite_HasPrefix (P := Tryd.prog) (ρ := Tryd.hasPrefix_ren) { Tryd.hasPrefix with } s p w
def cpS (s p : ByteArray) : ByteArray := if Lib.hasPrefix s.data.toList p.data.toList = true then s.extract p.size s.size else s
theorem cpS_y {s p : ByteArray} (h : Lib.hasPrefix s.data.toList p.data.toList = true) : cpS s p = s.extract p.size s.size := if_pos h
theorem cpS_n {s p : ByteArray} (h : Lib.hasPrefix s.data.toList p.data.toList = false) : cpS s p = s := if_neg (by rw [h]; decide)
set_option maxRecDepth 100000 in
/-- CutPrefix. -/
theorem cutPrefix_any (s p : ByteArray) (w : World) (hs : s.size ≤ 9223372036854775807) : Calls Tryd.prog 41 #[.string s, .string p] w fun e w' => e = .returned (.tuple #[.string (cpS s p), .bool (Lib.hasPrefix s.data.toList p.data.toList)]) ∧ w' = w := by
  have hH := hasPrefixL_any s p w
  have hle : Lib.hasPrefix s.data.toList p.data.toList = true → p.size ≤ s.size := fun h => by
    have := (List.isPrefixOf_iff_prefix.1 (show p.data.toList.isPrefixOf s.data.toList = true from h)).length_le
    rwa [list_len, list_len] at this
  have key : Calls Tryd.prog 60 #[.string s, .string p] w fun e w' => e = .returned (.tuple #[.string (cpS s p), .bool (Lib.hasPrefix s.data.toList p.data.toList)]) ∧ w' = w := by
    cases hb : Lib.hasPrefix s.data.toList p.data.toList with
    | true =>
      rw [hb] at hH
      have h1 := hle hb
      have h2 : (p.size : Int) ≤ (s.size : Int) := by omega
      have HH := Lib.hid hH
      have HE := Lib.hid (cpS_y hb)
      clear hH hle hb
      go_enter Tryd.func60, Tryd.ntmps60
      go_wp2_with fail
      refine HH.out.mono ?_
      rintro e w' ⟨rfl, rfl⟩
      go_wp2
      go_ret2
      exact ⟨by rw [HE.out]; rfl, rfl⟩
    | false =>
      rw [hb] at hH
      have HH := Lib.hid hH
      have HE := Lib.hid (cpS_n hb)
      clear hH hle hb
      go_enter Tryd.func60, Tryd.ntmps60
      go_wp2_with fail
      refine HH.out.mono ?_
      rintro e w' ⟨rfl, rfl⟩
      go_wp2
      go_ret2
      exact ⟨by rw [HE.out]; rfl, rfl⟩
  have HK := Lib.hid key
  clear key hH hle
  go_enter Tryd.func41, Tryd.ntmps41
  go_wp2_with fail
  refine HK.out.mono ?_
  rintro e w' ⟨rfl, rfl⟩
  go_wp2
  go_ret2
  exact ⟨rfl, rfl⟩

/-! ### Cut at a line feed -/
theorem ix_cm (l : LBy) : (Lib.indexByte l 10 = -1 ∧ l.all isCm = true) ∨ ((Lib.indexByte l 10 = ((l.takeWhile isCm).length : Int)) ∧ l[(l.takeWhile isCm).length]? = some 10) := by
  induction l with
  | nil => exact .inl ⟨rfl, rfl⟩
  | cons c r ih =>
    unfold Lib.indexByte
    by_cases h : c = 10
    · subst h
      right
      rw [List.takeWhile_cons_of_neg (by decide)]
      exact ⟨by simp, rfl⟩
    · have hc : isCm c = true := by unfold isCm; simpa using h
      have hb : (c == 10) = false := by rw [beq_eq_false_iff_ne]; exact h
      rw [hb]
      simp only [Bool.false_eq_true, if_false]
      rcases ih with ⟨h1, h2⟩ | ⟨h1, h2⟩
      · left
        rw [h1]
        exact ⟨rfl, by rw [List.all_cons, hc, h2]; rfl⟩
      · right
        rw [h1, List.takeWhile_cons, if_pos hc]
        have : (((r.takeWhile isCm).length : Int) == -1) = false := by rw [beq_eq_false_iff_ne]; omega
        rw [this]
        exact ⟨by simp, by simpa using h2⟩
/-- What stands behind the first line feed. -/
def cutB (s : ByteArray) : ByteArray := ⟨((s.data.toList.dropWhile isCm).drop 1).toArray⟩
theorem bytes_ext {x y : ByteArray} (h : x.data.toList = y.data.toList) : x = y := by
  cases x; cases y
  have : ∀ {a b : Array UInt8}, a.toList = b.toList → a = b := fun h => Array.toList_inj.1 h
  exact congrArg _ (this h)
theorem cutB_hit {s : ByteArray} {i : Nat} (h : (s.data.toList.takeWhile isCm).length = i) : s.extract (i + 1) s.size = cutB s := by
  apply bytes_ext
  rw [ext_drop]
  unfold cutB
  rw [drop_tw, h, List.drop_drop]
theorem cutB_miss {s : ByteArray} (h : s.data.toList.all isCm = true) : cutB s = ⟨#[]⟩ := by
  unfold cutB
  rw [dropWhile_all _ _ h]
  rfl
set_option maxRecDepth 100000 in
set_option maxHeartbeats 2000000 in
theorem cut_any (s : ByteArray) (w : World) (hs : s.size ≤ 4611686018427387904) : Calls Tryd.prog 42 #[.string s, .string ⟨#[10]⟩] w fun e w' => (∃ x b, e = .returned (.tuple #[.string x, .string (cutB s), .bool b])) ∧ ∃ m, w' = w.drewN m := by
  have hI : Calls Tryd.prog 90 #[.string s, .string ⟨#[10]⟩] w fun e w' => e = .returned (.int .i64 (Lib.indexByte s.data.toList 10)) ∧ w' = w := Any.stringslite_Index_one Tryd.indexS s 10 w
  have hix := ix_cm s.data.toList
  obtain ⟨v, hv⟩ : ∃ v, Lib.indexByte s.data.toList 10 = v := ⟨_, rfl⟩
  rw [hv] at hI hix
  have key : Calls Tryd.prog 61 #[.string s, .string ⟨#[10]⟩] w fun e w' => (∃ x b, e = .returned (.tuple #[.string x, .string (cutB s), .bool b])) ∧ ∃ m, w' = w.drewN m := by
    rcases hix with ⟨rfl, h2⟩ | ⟨h1, h2⟩
    · have HR := Lib.hid (cutB_miss h2)
      have HI := Lib.hid hI
      clear hI h2 hv
      go_enter Tryd.func61, Tryd.ntmps61
      go_wp2_with fail
      refine HI.out.mono ?_
      rintro e w' ⟨rfl, rfl⟩
      go_wp2
      go_ret3
      exact ⟨⟨_, _, by rw [HR.out]; rfl⟩, 0, rfl⟩
    · obtain ⟨i, hi⟩ : ∃ i, (s.data.toList.takeWhile isCm).length = i := ⟨_, rfl⟩
      have hR := cutB_hit hi
      rw [hi] at h1 h2
      have hlt : i < s.size := by
        have := (List.getElem?_eq_some_iff.1 h2).1
        rwa [list_len] at this
      subst h1
      have k1 : (0 : Int) ≤ (i : Int) := by omega
      have k2 : (i : Int) ≤ (s.size : Int) := by omega
      have k3 : (i : Int) + 1 ≤ (s.size : Int) := by omega
      have k4 : (0 : Int) ≤ (i : Int) + 1 := by omega
      have HR := Lib.hid hR
      have HI := Lib.hid hI
      clear hI hR h2 hv hi hlt
      go_enter Tryd.func61, Tryd.ntmps61
      go_wp2_with fail
      refine HI.out.mono ?_
      rintro e w' ⟨rfl, rfl⟩
      go_wp2
      go_quiet (fail)
      go_wp2
      go_ret3
      exact ⟨⟨_, _, by rw [← HR.out]; rfl⟩, _, rfl⟩
  have HK := Lib.hid key
  clear key hI hix hv
  go_enter Tryd.func42, Tryd.ntmps42
  go_wp2_with fail
  refine HK.out.mono ?_
  rintro e w' ⟨⟨x, b, rfl⟩, hb⟩
  go_wp2
  go_ret3
  exact ⟨⟨_, _, rfl⟩, hb⟩
end Go.Proofs.YtdgphhdkeikbaaaDoor
