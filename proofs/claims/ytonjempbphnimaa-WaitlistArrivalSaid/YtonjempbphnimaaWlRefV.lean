/-
  What the reference's within, Valid and Great of waiters return.
-/
import Derived.Test.YtonjempbphnimaaWlSeq
namespace Go.Proofs.Ytonjempbphnimaa
open Go.RowKit Go.Shelf

theorem within_any (n lo hi : Int) (w : World) : Calls Try.prog 49 #[.int .i64 n, .int .i64 lo, .int .i64 hi] w fun e w' => e = .returned (.bool (decide (lo ≤ n ∧ n ≤ hi))) ∧ w = w' := by
  by_cases h1 : lo ≤ n
  · by_cases h2 : n ≤ hi
    · rw [decide_eq_true (show lo ≤ n ∧ n ≤ hi from ⟨h1, h2⟩)]
      go_enter Try.func49, Try.ntmps49
      go_wp2
      go_ret
      exact ⟨by first | rfl | (simp; omega), rfl⟩
    · rw [decide_eq_false (show ¬ (lo ≤ n ∧ n ≤ hi) from fun h => h2 h.2)]
      go_enter Try.func49, Try.ntmps49
      go_wp2
      go_ret
      exact ⟨by first | rfl | (simp; omega), rfl⟩
  · rw [decide_eq_false (show ¬ (lo ≤ n ∧ n ≤ hi) from fun h => h1 h.1)]
    go_enter Try.func49, Try.ntmps49
    go_wp2
    go_ret
    exact ⟨rfl, rfl⟩

set_option maxHeartbeats 2000000 in
theorem rValid_any (a b c d f : Int) (w : World) : Calls Try.prog 31 #[.agg #[.int .i64 a, .int .i64 b, .int .i64 c, .int .i64 d, .int .i64 f]] w fun e w' => e = .returned (.bool (okW (a, b, c, d, f))) ∧ Below w.heap.size w w' := by
  have hB : Hid (Below w.heap.size w (w.alloc (.cells #[.int .i64 a, .int .i64 b, .int .i64 c, .int .i64 d, .int .i64 f] TW))) := Lib.hid ((Below.refl _ _).alloc (Nat.le_refl _) _)
  have hx : Hid (At5 (w.alloc (.cells #[.int .i64 a, .int .i64 b, .int .i64 c, .int .i64 d, .int .i64 f] TW)) w.heap.size 0 (a, b, c, d, f)) := Lib.hid (box5 w a b c d f)
  have h1 := within_any a (0) (15) (w.alloc (.cells #[.int .i64 a, .int .i64 b, .int .i64 c, .int .i64 d, .int .i64 f] TW))
  have h2 := within_any b (1) (99) (w.alloc (.cells #[.int .i64 a, .int .i64 b, .int .i64 c, .int .i64 d, .int .i64 f] TW))
  have h3 := within_any c (-1099511627776) (1099511627776) (w.alloc (.cells #[.int .i64 a, .int .i64 b, .int .i64 c, .int .i64 d, .int .i64 f] TW))
  have h4 := within_any d (0) (9) (w.alloc (.cells #[.int .i64 a, .int .i64 b, .int .i64 c, .int .i64 d, .int .i64 f] TW))
  have h5 := within_any f (-1) (5) (w.alloc (.cells #[.int .i64 a, .int .i64 b, .int .i64 c, .int .i64 d, .int .i64 f] TW))
  by_cases q1 : 0 ≤ a ∧ a ≤ 15
  case neg =>
    rw [show okW (a, b, c, d, f) = false from by rw [← Bool.not_eq_true, okW_iff]; rintro ⟨⟨_, _⟩, _⟩; dsimp only at *; omega]
    rw [decide_eq_false q1] at h1
    have H1 := Lib.hid h1
    clear h1 h2 h3 h4 h5 q1
    go_enter Try.func31, Try.ntmps31
    go_wp2_with fail
    refine H1.out.mono ?_
    rintro e w1 ⟨rfl, rfl⟩
    go_wp2
    go_ret
    exact ⟨by first | rfl | simp, hB.out⟩
  by_cases q2 : 1 ≤ b ∧ b ≤ 99
  case neg =>
    rw [show okW (a, b, c, d, f) = false from by rw [← Bool.not_eq_true, okW_iff]; rintro ⟨⟨_, _⟩, _⟩; dsimp only at *; omega]
    rw [decide_eq_true q1] at h1
    have H1 := Lib.hid h1
    rw [decide_eq_false q2] at h2
    have H2 := Lib.hid h2
    clear h1 h2 h3 h4 h5 q1 q2
    go_enter Try.func31, Try.ntmps31
    go_wp2_with fail
    refine H1.out.mono ?_
    rintro e w1 ⟨rfl, rfl⟩
    go_wp2_with fail
    refine H2.out.mono ?_
    rintro e w2 ⟨rfl, rfl⟩
    go_wp2
    go_ret
    exact ⟨by first | rfl | simp, hB.out⟩
  by_cases q3 : -1099511627776 ≤ c ∧ c ≤ 1099511627776
  case neg =>
    rw [show okW (a, b, c, d, f) = false from by rw [← Bool.not_eq_true, okW_iff]; rintro ⟨⟨_, _⟩, _⟩; dsimp only at *; omega]
    rw [decide_eq_true q1] at h1
    have H1 := Lib.hid h1
    rw [decide_eq_true q2] at h2
    have H2 := Lib.hid h2
    rw [decide_eq_false q3] at h3
    have H3 := Lib.hid h3
    clear h1 h2 h3 h4 h5 q1 q2 q3
    go_enter Try.func31, Try.ntmps31
    go_wp2_with fail
    refine H1.out.mono ?_
    rintro e w1 ⟨rfl, rfl⟩
    go_wp2_with fail
    refine H2.out.mono ?_
    rintro e w2 ⟨rfl, rfl⟩
    go_wp2_with fail
    refine H3.out.mono ?_
    rintro e w3 ⟨rfl, rfl⟩
    go_wp2
    go_ret
    exact ⟨by first | rfl | simp, hB.out⟩
  by_cases q4 : 0 ≤ d ∧ d ≤ 9
  case neg =>
    rw [show okW (a, b, c, d, f) = false from by rw [← Bool.not_eq_true, okW_iff]; rintro ⟨⟨_, _⟩, _⟩; dsimp only at *; omega]
    rw [decide_eq_true q1] at h1
    have H1 := Lib.hid h1
    rw [decide_eq_true q2] at h2
    have H2 := Lib.hid h2
    rw [decide_eq_true q3] at h3
    have H3 := Lib.hid h3
    rw [decide_eq_false q4] at h4
    have H4 := Lib.hid h4
    clear h1 h2 h3 h4 h5 q1 q2 q3 q4
    go_enter Try.func31, Try.ntmps31
    go_wp2_with fail
    refine H1.out.mono ?_
    rintro e w1 ⟨rfl, rfl⟩
    go_wp2_with fail
    refine H2.out.mono ?_
    rintro e w2 ⟨rfl, rfl⟩
    go_wp2_with fail
    refine H3.out.mono ?_
    rintro e w3 ⟨rfl, rfl⟩
    go_wp2_with fail
    refine H4.out.mono ?_
    rintro e w4 ⟨rfl, rfl⟩
    go_wp2
    go_ret
    exact ⟨by first | rfl | simp, hB.out⟩
  by_cases q5 : -1 ≤ f ∧ f ≤ 5
  case neg =>
    rw [show okW (a, b, c, d, f) = false from by rw [← Bool.not_eq_true, okW_iff]; rintro ⟨⟨_, _⟩, _⟩; dsimp only at *; omega]
    rw [decide_eq_true q1] at h1
    have H1 := Lib.hid h1
    rw [decide_eq_true q2] at h2
    have H2 := Lib.hid h2
    rw [decide_eq_true q3] at h3
    have H3 := Lib.hid h3
    rw [decide_eq_true q4] at h4
    have H4 := Lib.hid h4
    rw [decide_eq_false q5] at h5
    have H5 := Lib.hid h5
    clear h1 h2 h3 h4 h5 q1 q2 q3 q4 q5
    go_enter Try.func31, Try.ntmps31
    go_wp2_with fail
    refine H1.out.mono ?_
    rintro e w1 ⟨rfl, rfl⟩
    go_wp2_with fail
    refine H2.out.mono ?_
    rintro e w2 ⟨rfl, rfl⟩
    go_wp2_with fail
    refine H3.out.mono ?_
    rintro e w3 ⟨rfl, rfl⟩
    go_wp2_with fail
    refine H4.out.mono ?_
    rintro e w4 ⟨rfl, rfl⟩
    go_wp2_with fail
    refine H5.out.mono ?_
    rintro e w5 ⟨rfl, rfl⟩
    go_wp2
    go_ret
    exact ⟨by first | rfl | simp, hB.out⟩
  rw [show okW (a, b, c, d, f) = true from okW_iff.2 (by unfold tskP; dsimp only; omega)]
  rw [decide_eq_true q1] at h1
  have H1 := Lib.hid h1
  rw [decide_eq_true q2] at h2
  have H2 := Lib.hid h2
  rw [decide_eq_true q3] at h3
  have H3 := Lib.hid h3
  rw [decide_eq_true q4] at h4
  have H4 := Lib.hid h4
  rw [decide_eq_true q5] at h5
  have H5 := Lib.hid h5
  clear h1 h2 h3 h4 h5 q1 q2 q3 q4 q5
  go_enter Try.func31, Try.ntmps31
  go_wp2_with fail
  refine H1.out.mono ?_
  rintro e w1 ⟨rfl, rfl⟩
  go_wp2_with fail
  refine H2.out.mono ?_
  rintro e w2 ⟨rfl, rfl⟩
  go_wp2_with fail
  refine H3.out.mono ?_
  rintro e w3 ⟨rfl, rfl⟩
  go_wp2_with fail
  refine H4.out.mono ?_
  rintro e w4 ⟨rfl, rfl⟩
  go_wp2_with fail
  refine H5.out.mono ?_
  rintro e w5 ⟨rfl, rfl⟩
  go_wp2
  go_ret
  exact ⟨by first | rfl | simp, hB.out⟩

theorem great_anyW (a : Option Addr) (n c : Nat) (w : World) (hn : n ≤ 9223372036854775807) :
    Calls Try.prog 11 #[.slice a n c] w fun e w' => e = .returned (.bool (decide (12 < n))) ∧ w = w' := by
  by_cases h : 12 < n
  · rw [decide_eq_true h]
    have h' : (12 : Int) < (n : Int) := by omega
    clear h
    go_enter Try.func11, Try.ntmps11
    go_wp2
    go_ret
    exact ⟨rfl, rfl⟩
  · rw [decide_eq_false h]
    have h' : ¬ (12 : Int) < (n : Int) := by omega
    clear h
    go_enter Try.func11, Try.ntmps11
    go_wp2
    go_ret
    exact ⟨rfl, rfl⟩
theorem great_atW (v : Value) (ts : List Wl) (w : World) (hK : KwC w v ts) : Calls Try.prog 11 #[v] w fun e w' => e = .returned (.bool (decide (12 < ts.length))) ∧ w = w' := by
  obtain ⟨ad, cap, rfl, hc1, hc2, hA⟩ := hK
  exact great_anyW ad ts.length cap w (by omega)

end Go.Proofs.Ytonjempbphnimaa
