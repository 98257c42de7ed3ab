/-
  What the program's isTask and isValid of waiters return.
-/
import Derived.Deep.RegionLaw
import Derived.Test.YtonjempbphnimaaWlSeq
namespace Go.Proofs.Ytonjempbphnimaa
open Go.RowKit Go.Shelf

theorem isTask_any (x : Int) (w : World) : Calls Try.prog 56 #[.int .i64 x] w fun e w' => e = .returned (.bool (decide (tskP x))) ∧ w = w' := by
  by_cases h1 : 0 ≤ x
  · by_cases h2 : x < 16
    · rw [decide_eq_true (show tskP x from ⟨h1, h2⟩)]
      go_enter Try.func56, Try.ntmps56
      go_wp2
      go_ret
      exact ⟨by first | rfl | (simp; omega), rfl⟩
    · rw [decide_eq_false (show ¬ tskP x from fun h => h2 h.2)]
      go_enter Try.func56, Try.ntmps56
      go_wp2
      go_ret
      exact ⟨by first | rfl | (simp; omega), rfl⟩
  · rw [decide_eq_false (show ¬ tskP x from fun h => h1 h.1)]
    go_enter Try.func56, Try.ntmps56
    go_wp2
    go_ret
    exact ⟨by first | rfl | (simp; omega), rfl⟩

set_option maxHeartbeats 2000000 in
theorem isValid_any (a b c d f : Int) (w : World) : Calls Try.prog 42 #[.agg #[.int .i64 a, .int .i64 b, .int .i64 c, .int .i64 d, .int .i64 f]] w fun e w' => e = .returned (.bool (okW (a, b, c, d, f))) ∧ Below w.heap.size w w' := by
  have hB : Hid (Below w.heap.size w (w.alloc (.cells #[.int .i64 a, .int .i64 b, .int .i64 c, .int .i64 d, .int .i64 f] TW))) := Lib.hid ((Below.refl _ _).alloc (Nat.le_refl _) _)
  have HT := Lib.hid (isTask_any a (w.alloc (.cells #[.int .i64 a, .int .i64 b, .int .i64 c, .int .i64 d, .int .i64 f] TW)))
  rcases okW_cases a b c d f with h | h | h | h | h | h | h | h | h | h
  · obtain ⟨h0, h1⟩ := h
    rw [decide_eq_false h1] at HT
    rw [h0]
    clear h0 h1
    go_enter Try.func42, Try.ntmps42
    go_wp2_with fail
    refine HT.out.mono ?_
    rintro e w4 ⟨rfl, rfl⟩
    go_wp2
    go_ret
    exact ⟨by first | rfl | (simp; omega), hB.out⟩
  · obtain ⟨h0, h1, h2⟩ := h
    rw [decide_eq_true h1] at HT
    rw [h0]
    clear h0 h1
    go_enter Try.func42, Try.ntmps42
    go_wp2_with fail
    refine HT.out.mono ?_
    rintro e w4 ⟨rfl, rfl⟩
    go_wp2
    go_ret
    exact ⟨by first | rfl | (simp; omega), hB.out⟩
  · obtain ⟨h0, h1, h2, h3⟩ := h
    rw [decide_eq_true h1] at HT
    rw [h0]
    clear h0 h1
    go_enter Try.func42, Try.ntmps42
    go_wp2_with fail
    refine HT.out.mono ?_
    rintro e w4 ⟨rfl, rfl⟩
    go_wp2
    go_ret
    exact ⟨by first | rfl | (simp; omega), hB.out⟩
  · obtain ⟨h0, h1, h2, h3, h4⟩ := h
    rw [decide_eq_true h1] at HT
    rw [h0]
    clear h0 h1
    go_enter Try.func42, Try.ntmps42
    go_wp2_with fail
    refine HT.out.mono ?_
    rintro e w4 ⟨rfl, rfl⟩
    go_wp2
    go_ret
    exact ⟨by first | rfl | (simp; omega), hB.out⟩
  · obtain ⟨h0, h1, h2, h3, h4, h5⟩ := h
    rw [decide_eq_true h1] at HT
    rw [h0]
    clear h0 h1
    go_enter Try.func42, Try.ntmps42
    go_wp2_with fail
    refine HT.out.mono ?_
    rintro e w4 ⟨rfl, rfl⟩
    go_wp2
    go_ret
    exact ⟨by first | rfl | (simp; omega), hB.out⟩
  · obtain ⟨h0, h1, h2, h3, h4, h5, h6⟩ := h
    rw [decide_eq_true h1] at HT
    rw [h0]
    clear h0 h1
    go_enter Try.func42, Try.ntmps42
    go_wp2_with fail
    refine HT.out.mono ?_
    rintro e w4 ⟨rfl, rfl⟩
    go_wp2
    go_ret
    exact ⟨by first | rfl | (simp; omega), hB.out⟩
  · obtain ⟨h0, h1, h2, h3, h4, h5, h6, h7⟩ := h
    rw [decide_eq_true h1] at HT
    rw [h0]
    clear h0 h1
    go_enter Try.func42, Try.ntmps42
    go_wp2_with fail
    refine HT.out.mono ?_
    rintro e w4 ⟨rfl, rfl⟩
    go_wp2
    go_ret
    exact ⟨by first | rfl | (simp; omega), hB.out⟩
  · obtain ⟨h0, h1, h2, h3, h4, h5, h6, h7, h8⟩ := h
    rw [decide_eq_true h1] at HT
    rw [h0]
    clear h0 h1
    go_enter Try.func42, Try.ntmps42
    go_wp2_with fail
    refine HT.out.mono ?_
    rintro e w4 ⟨rfl, rfl⟩
    go_wp2
    go_ret
    exact ⟨by first | rfl | (simp; omega), hB.out⟩
  · obtain ⟨h0, h1, h2, h3, h4, h5, h6, h7, h8, h9⟩ := h
    rw [decide_eq_true h1] at HT
    rw [h0]
    clear h0 h1
    go_enter Try.func42, Try.ntmps42
    go_wp2_with fail
    refine HT.out.mono ?_
    rintro e w4 ⟨rfl, rfl⟩
    go_wp2
    go_ret
    exact ⟨by first | rfl | (simp; omega), hB.out⟩
  · obtain ⟨h0, h1, h2, h3, h4, h5, h6, h7, h8, h9⟩ := h
    rw [decide_eq_true h1] at HT
    rw [h0]
    clear h0 h1
    go_enter Try.func42, Try.ntmps42
    go_wp2_with fail
    refine HT.out.mono ?_
    rintro e w4 ⟨rfl, rfl⟩
    go_wp2
    go_ret
    exact ⟨by first | rfl | (simp; omega), hB.out⟩

end Go.Proofs.Ytonjempbphnimaa
