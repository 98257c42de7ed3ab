/-
  What the reference's functions of timers return: one, Less, same, Check.
-/
import Derived.Test.YtcmcgcogahkamaaTmGet
namespace Go.Proofs.Ytcmcgcogahkamaa
open Go.RowKit Go.Shelf

/-- one. -/
theorem rOne_any (a b c : Int) (w : World) : Calls Try.prog 42 #[.agg #[.int .i64 a, .int .i64 b, .int .i64 c]] w fun e w' => e = .returned (.int .i64 (oneE (a, b, c))) ∧ Below w.heap.size w w' := by
  unfold oneE
  dsimp only
  have HI : Hid (∀ W, Calls Try.prog 59 #[.int .i64 b] W fun e w' => e = .returned (.int .i64 (indN b)) ∧ w' = W) := Lib.hid (fun W => (rIndices_any b W).mono fun e w' h => ⟨h.1, h.2.symm⟩)
  obtain ⟨n, hn⟩ : ∃ n, indN b = n := ⟨_, rfl⟩
  simp only [hn] at HI ⊢
  clear hn
  have hB : Hid (Below w.heap.size w (w.alloc (.cells #[.int .i64 a, .int .i64 b, .int .i64 c] TT))) := Lib.hid ((Below.refl _ _).alloc (Nat.le_refl _) _)
  have hX := Lib.hid (box3 w a b c)
  by_cases h0 : n = 0
  · subst h0
    rw [if_pos rfl]
    go_enter Try.func42, Try.ntmps42
    go_wp2_with fail
    refine (HI.out _).mono ?_
    rintro e w4 ⟨rfl, rfl⟩
    go_wp2
    go_ret
    exact ⟨rfl, hB.out⟩
  · rw [if_neg h0]
    have b0 : (n == 0) = false := by simpa using h0
    clear h0
    by_cases h1 : c < 0
    · rw [if_pos (.inl h1)]
      have d1 : decide (c < 0) = true := decide_eq_true h1
      go_enter Try.func42, Try.ntmps42
      go_wp2_with fail
      refine (HI.out _).mono ?_
      rintro e w4 ⟨rfl, rfl⟩
      go_wp2_with fail
      go_quiet ((go_at_call 59; exact Calls.quiet_of_same (HI.out _)))
      go_wp2
      go_ret
      exact ⟨rfl, ⟨hB.out.os, hB.out.tape, hB.out.output, hB.out.size, hB.out.block⟩⟩
    · have d1 : decide (c < 0) = false := decide_eq_false h1
      by_cases h2 : n ≤ c
      · rw [if_pos (.inr (.inl h2))]
        have d2 : decide (n ≤ c) = true := decide_eq_true h2
        go_enter Try.func42, Try.ntmps42
        go_wp2_with fail
        refine (HI.out _).mono ?_
        rintro e w4 ⟨rfl, rfl⟩
        go_wp2_with fail
        go_quiet ((go_at_call 59; exact Calls.quiet_of_same (HI.out _)))
        go_wp2
        go_ret
        exact ⟨rfl, ⟨hB.out.os, hB.out.tape, hB.out.output, hB.out.size, hB.out.block⟩⟩
      · have d2 : decide (n ≤ c) = false := decide_eq_false h2
        by_cases h3 : a < 1
        · rw [if_pos (.inr (.inr (.inl h3)))]
          have d3 : decide (a < 1) = true := decide_eq_true h3
          go_enter Try.func42, Try.ntmps42
          go_wp2_with fail
          refine (HI.out _).mono ?_
          rintro e w4 ⟨rfl, rfl⟩
          go_wp2_with fail
          go_quiet ((go_at_call 59; exact Calls.quiet_of_same (HI.out _)))
          go_wp2
          go_ret
          exact ⟨rfl, ⟨hB.out.os, hB.out.tape, hB.out.output, hB.out.size, hB.out.block⟩⟩
        · have d3 : decide (a < 1) = false := decide_eq_false h3
          by_cases h4 : 1099511627776 < a
          · rw [if_pos (.inr (.inr (.inr h4)))]
            have d4 : decide (1099511627776 < a) = true := decide_eq_true h4
            go_enter Try.func42, Try.ntmps42
            go_wp2_with fail
            refine (HI.out _).mono ?_
            rintro e w4 ⟨rfl, rfl⟩
            go_wp2_with fail
            go_quiet ((go_at_call 59; exact Calls.quiet_of_same (HI.out _)))
            go_wp2
            go_ret
            exact ⟨rfl, ⟨hB.out.os, hB.out.tape, hB.out.output, hB.out.size, hB.out.block⟩⟩
          · rw [if_neg (by omega)]
            have d4 : decide (1099511627776 < a) = false := decide_eq_false h4
            go_enter Try.func42, Try.ntmps42
            go_wp2_with fail
            refine (HI.out _).mono ?_
            rintro e w4 ⟨rfl, rfl⟩
            go_wp2_with fail
            go_quiet ((go_at_call 59; exact Calls.quiet_of_same (HI.out _)))
            go_wp2
            go_ret
            exact ⟨rfl, ⟨hB.out.os, hB.out.tape, hB.out.output, hB.out.size, hB.out.block⟩⟩

set_option maxHeartbeats 1000000 in
/-- Less. -/
theorem rLess_any (a b c x y z : Int) (w : World) : Calls Try.prog 44 #[.agg #[.int .i64 a, .int .i64 b, .int .i64 c], .agg #[.int .i64 x, .int .i64 y, .int .i64 z]] w fun e w' => e = .returned (.bool (lesB (a, b, c) (x, y, z))) ∧ Below w.heap.size w w' := by
  have HB : Hid (Below w.heap.size w ((w.alloc (.cells #[.int .i64 a, .int .i64 b, .int .i64 c] TT)).alloc (.cells #[.int .i64 x, .int .i64 y, .int .i64 z] TT))) := Lib.hid (((Below.refl _ w).alloc (Nat.le_refl _) _).alloc (by simp) _)
  by_cases h1 : a = x
  · have b1 : (a != x) = false := by simp [h1]
    by_cases h2 : b = y
    · have b2 : (b != y) = false := by simp [h2]
      have hr : lesB (a, b, c) (x, y, z) = decide (c < z) := by
        unfold lesB
        refine decide_eq_decide.2 ?_
        unfold LesP
        dsimp only
        omega
      rw [hr]
      clear h1 h2 hr
      go_enter Try.func44, Try.ntmps44
      go_wp2
      go_ret
      exact ⟨rfl, HB.out⟩
    · have b2 : (b != y) = true := by simp [h2]
      have hr : lesB (a, b, c) (x, y, z) = decide (b < y) := by
        unfold lesB
        refine decide_eq_decide.2 ?_
        unfold LesP
        dsimp only
        omega
      rw [hr]
      clear h1 h2 hr
      go_enter Try.func44, Try.ntmps44
      go_wp2
      go_ret
      exact ⟨rfl, HB.out⟩
  · have b1 : (a != x) = true := by simp [h1]
    have hr : lesB (a, b, c) (x, y, z) = decide (a < x) := by
      unfold lesB
      refine decide_eq_decide.2 ?_
      unfold LesP
      dsimp only
      omega
    rw [hr]
    clear h1 hr
    go_enter Try.func44, Try.ntmps44
    go_wp2
    go_ret
    exact ⟨rfl, HB.out⟩

set_option maxHeartbeats 1000000 in
/-- same. -/
theorem rSame_any (a b c x y z : Int) (w : World) : Calls Try.prog 47 #[.agg #[.int .i64 a, .int .i64 b, .int .i64 c], .agg #[.int .i64 x, .int .i64 y, .int .i64 z]] w fun e w' => e = .returned (.bool (keyB (a, b, c) y z)) ∧ Below w.heap.size w w' := by
  have HB : Hid (Below w.heap.size w ((w.alloc (.cells #[.int .i64 a, .int .i64 b, .int .i64 c] TT)).alloc (.cells #[.int .i64 x, .int .i64 y, .int .i64 z] TT))) := Lib.hid (((Below.refl _ w).alloc (Nat.le_refl _) _).alloc (by simp) _)
  unfold keyB
  dsimp only
  by_cases h1 : b = y
  · have b1 : (b == y) = true := by simp [h1]
    rw [b1, Bool.true_and]
    clear h1
    go_enter Try.func47, Try.ntmps47
    go_wp2
    go_ret
    exact ⟨rfl, HB.out⟩
  · have b1 : (b == y) = false := by simp [h1]
    rw [b1, Bool.false_and]
    clear h1
    go_enter Try.func47, Try.ntmps47
    go_wp2
    go_ret
    exact ⟨rfl, HB.out⟩

end Go.Proofs.Ytcmcgcogahkamaa
