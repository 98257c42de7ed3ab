/-
  What the program's small functions of timers return: indices, checkTimer, compare, keyOf, isOf.
-/
import Derived.Deep.RegionLaw
import Derived.Deep.RegionHeld3
import Derived.Test.YtcmcgcogahkamaaTmMem
import Derived.Test.YtcmcgcogahkamaaHeldTop
namespace Go.Proofs.Ytcmcgcogahkamaa
open Go.RowKit

theorem ret_int' {k : IntKind} {a b : Int} (h : a = b) : Ending.returned (.int k a) = .returned (.int k b) := by rw [h]
theorem indN_cases (k : Int) : (k = 1 ∧ indN k = 16) ∨ (k ≠ 1 ∧ k = 2 ∧ indN k = 32) ∨ (k ≠ 1 ∧ k ≠ 2 ∧ k = 3 ∧ indN k = 16) ∨ (k ≠ 1 ∧ k ≠ 2 ∧ k ≠ 3 ∧ indN k = 0) := by
  unfold indN
  by_cases h1 : k = 1
  · exact .inl ⟨h1, if_pos h1⟩
  · by_cases h2 : k = 2
    · exact .inr (.inl ⟨h1, h2, by rw [if_neg h1, if_pos h2]⟩)
    · by_cases h3 : k = 3
      · exact .inr (.inr (.inl ⟨h1, h2, h3, by rw [if_neg h1, if_neg h2, if_pos h3]⟩))
      · exact .inr (.inr (.inr ⟨h1, h2, h3, by rw [if_neg h1, if_neg h2, if_neg h3]⟩))
theorem indN_range (k : Int) : 0 ≤ indN k ∧ indN k ≤ 32 := by
  rcases indN_cases k with h | h | h | h <;> omega

theorem tIndices_any (k : Int) (w : World) : Calls Try.prog 53 #[.int .i64 k] w fun e w' => e = .returned (.int .i64 (indN k)) ∧ w = w' := by
  rcases indN_cases k with ⟨h1, e⟩ | ⟨h1, h2, e⟩ | ⟨h1, h2, h3, e⟩ | ⟨h1, h2, h3, e⟩
  · subst h1; rw [e]; clear e
    go_enter Try.func53, Try.ntmps53
    go_wp2
    go_ret
    exact ⟨rfl, rfl⟩
  · subst h2; rw [e]; clear e h1
    go_enter Try.func53, Try.ntmps53
    go_wp2
    go_ret
    exact ⟨rfl, rfl⟩
  · subst h3; rw [e]; clear e h1 h2
    go_enter Try.func53, Try.ntmps53
    go_wp2
    go_ret
    exact ⟨rfl, rfl⟩
  · rw [e]
    have b1 : (k == 1) = false := by simpa using h1
    have b2 : (k == 2) = false := by simpa using h2
    have b3 : (k == 3) = false := by simpa using h3
    clear e h1 h2 h3
    go_enter Try.func53, Try.ntmps53
    go_wp2
    go_ret
    exact ⟨rfl, rfl⟩
theorem rIndices_any (k : Int) (w : World) : Calls Try.prog 59 #[.int .i64 k] w fun e w' => e = .returned (.int .i64 (indN k)) ∧ w = w' := by
  rcases indN_cases k with ⟨h1, e⟩ | ⟨h1, h2, e⟩ | ⟨h1, h2, h3, e⟩ | ⟨h1, h2, h3, e⟩
  · subst h1; rw [e]; clear e
    go_enter Try.func59, Try.ntmps59
    go_wp2
    go_ret
    exact ⟨rfl, rfl⟩
  · subst h2; rw [e]; clear e h1
    go_enter Try.func59, Try.ntmps59
    go_wp2
    go_ret
    exact ⟨rfl, rfl⟩
  · subst h3; rw [e]; clear e h1 h2
    go_enter Try.func59, Try.ntmps59
    go_wp2
    go_ret
    exact ⟨rfl, rfl⟩
  · rw [e]
    have b1 : (k == 1) = false := by simpa using h1
    have b2 : (k == 2) = false := by simpa using h2
    have b3 : (k == 3) = false := by simpa using h3
    clear e h1 h2 h3
    go_enter Try.func59, Try.ntmps59
    go_wp2
    go_ret
    exact ⟨rfl, rfl⟩

/-- checkTimer. -/
theorem tCheckTimer_any (a b c : Int) (w : World) : Calls Try.prog 37 #[tmA (a, b, c)] w fun e w' => e = .returned (.int .i64 (oneE (a, b, c))) ∧ Below w.heap.size w w' := by
  unfold tmA encT
  unfold oneE
  dsimp only
  have HI := tIndices_any b (w.alloc (.cells #[.int .i64 a, .int .i64 b, .int .i64 c] TT))
  obtain ⟨n, hn⟩ : ∃ n, indN b = n := ⟨_, rfl⟩
  rw [hn] at HI ⊢
  have HI := Lib.hid HI
  clear hn
  have hB : Hid (Below w.heap.size w (w.alloc (.cells #[.int .i64 a, .int .i64 b, .int .i64 c] TT))) := Lib.hid ((Below.refl _ _).alloc (Nat.le_refl _) _)
  by_cases h0 : n = 0
  · subst h0
    rw [if_pos rfl]
    go_enter Try.func37, Try.ntmps37
    go_wp2_with fail
    refine HI.out.mono ?_
    rintro e w4 ⟨rfl, rfl⟩
    go_wp2
    go_ret
    exact ⟨rfl, hB.out⟩
  · rw [if_neg h0]
    have b0 : (n == 0) = false := by simpa using h0
    clear h0
    by_cases h1 : c < 0
    · rw [if_pos (.inl h1)]
      go_enter Try.func37, Try.ntmps37
      go_wp2_with fail
      refine HI.out.mono ?_
      rintro e w4 ⟨rfl, rfl⟩
      go_wp2
      go_ret
      exact ⟨rfl, hB.out⟩
    · by_cases h2 : n ≤ c
      · rw [if_pos (.inr (.inl h2))]
        go_enter Try.func37, Try.ntmps37
        go_wp2_with fail
        refine HI.out.mono ?_
        rintro e w4 ⟨rfl, rfl⟩
        go_wp2
        go_ret
        exact ⟨rfl, hB.out⟩
      · by_cases h3 : a < 1
        · rw [if_pos (.inr (.inr (.inl h3)))]
          go_enter Try.func37, Try.ntmps37
          go_wp2_with fail
          refine HI.out.mono ?_
          rintro e w4 ⟨rfl, rfl⟩
          go_wp2
          go_ret
          exact ⟨rfl, hB.out⟩
        · by_cases h4 : 1099511627776 < a
          · rw [if_pos (.inr (.inr (.inr h4)))]
            go_enter Try.func37, Try.ntmps37
            go_wp2_with fail
            refine HI.out.mono ?_
            rintro e w4 ⟨rfl, rfl⟩
            go_wp2
            go_ret
            exact ⟨rfl, hB.out⟩
          · rw [if_neg (by omega)]
            go_enter Try.func37, Try.ntmps37
            go_wp2_with fail
            refine HI.out.mono ?_
            rintro e w4 ⟨rfl, rfl⟩
            go_wp2
            go_ret
            exact ⟨rfl, hB.out⟩

theorem isNaN_any (a : Int) (w : World) : Calls Try.prog 64 #[.int .i64 a] w fun e w' => e = .returned (.bool false) ∧ w = w' := by
  have h : (a != a) = false := by simp
  go_enter Try.func64, Try.ntmps64
  go_wp2
  go_ret
  exact ⟨rfl, rfl⟩
theorem cmp1_any (a b : Int) (w : World) : Calls Try.prog 61 #[.int .i64 a, .int .i64 b] w fun e w' => e = .returned (.int .i64 (cmp1 a b)) ∧ w = w' := by
  have H1 := Lib.hid (isNaN_any a w)
  have H2 := Lib.hid (isNaN_any b w)
  rcases cmp1_cases a b with ⟨e, h⟩ | ⟨e, h⟩ | ⟨e, h⟩
  · rw [e]; clear e
    go_enter Try.func61, Try.ntmps61
    go_wp2_with fail
    refine H1.out.mono ?_
    rintro e w4 ⟨rfl, rfl⟩
    go_wp2_with fail
    refine H2.out.mono ?_
    rintro e w4 ⟨rfl, rfl⟩
    go_wp2
    go_ret
    exact ⟨rfl, rfl⟩
  · rw [e]; clear e
    go_enter Try.func61, Try.ntmps61
    go_wp2_with fail
    refine H1.out.mono ?_
    rintro e w4 ⟨rfl, rfl⟩
    go_wp2_with fail
    refine H2.out.mono ?_
    rintro e w4 ⟨rfl, rfl⟩
    go_wp2
    go_ret
    exact ⟨rfl, rfl⟩
  · rw [e]; subst h; clear e
    go_enter Try.func61, Try.ntmps61
    go_wp2_with fail
    refine H1.out.mono ?_
    rintro e w4 ⟨rfl, rfl⟩
    go_wp2_with fail
    refine H2.out.mono ?_
    rintro e w4 ⟨rfl, rfl⟩
    go_wp2
    go_ret
    exact ⟨rfl, rfl⟩

/-- cmp.Or of a list of three. -/
theorem or3_any (x y z : Int) (b : Nat) (w : World) (h0 : w.cell? ⟨b, 0, none⟩ = some (.int .i64 x)) (h1 : w.cell? ⟨b, 1, none⟩ = some (.int .i64 y)) (h2 : w.cell? ⟨b, 2, none⟩ = some (.int .i64 z)) :
    Calls Try.prog 60 #[.slice (some ⟨b, 0, none⟩) 3 3] w fun e w' => e = .returned (.int .i64 (or3 x y z)) ∧ w = w' := by
  unfold or3
  by_cases hx : x ≠ 0
  · rw [if_pos hx]
    have bx : (x != 0) = true := by simpa using hx
    clear hx
    go_enter Try.func60, Try.ntmps60
    go_wp2
    refine wp_loop_rounds 1 ?_
    rw [rounds_succ]
    go_wp2
    go_ret
    exact ⟨rfl, rfl⟩
  · rw [if_neg hx]
    have bx : (x != 0) = false := by simpa using hx
    clear hx
    by_cases hy : y ≠ 0
    · rw [if_pos hy]
      have bx : (y != 0) = true := by simpa using hy
      clear hy
      go_enter Try.func60, Try.ntmps60
      go_wp2
      refine wp_loop_rounds 2 ?_
      rw [rounds_succ]
      go_wp2
      rw [rounds_succ]
      go_wp2
      go_ret
      exact ⟨rfl, rfl⟩
    · rw [if_neg hy]
      have by_ : (y != 0) = false := by simpa using hy
      clear hy
      by_cases hz : z = 0
      · subst hz
        go_enter Try.func60, Try.ntmps60
        go_wp2
        refine wp_loop_rounds 4 ?_
        rw [rounds_succ]
        go_wp2
        rw [rounds_succ]
        go_wp2
        rw [rounds_succ]
        go_wp2
        rw [rounds_succ]
        go_wp2
        go_ret
        exact ⟨rfl, rfl⟩
      · have bz : (z != 0) = true := by simpa using hz
        clear hz
        go_enter Try.func60, Try.ntmps60
        go_wp2
        refine wp_loop_rounds 3 ?_
        rw [rounds_succ]
        go_wp2
        rw [rounds_succ]
        go_wp2
        rw [rounds_succ]
        go_wp2
        go_ret
        exact ⟨rfl, rfl⟩

end Go.Proofs.Ytcmcgcogahkamaa
