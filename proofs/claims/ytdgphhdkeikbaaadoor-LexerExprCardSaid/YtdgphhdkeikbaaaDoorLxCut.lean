/-
  The tokens of a text that is cut where a token begins, and goes on with a line feed; and of a text that stands further behind.
-/
import Derived.Test.YtdgphhdkeikbaaaDoorLxOff
namespace Go.Proofs.YtdgphhdkeikbaaaDoor
set_option linter.unusedSimpArgs false
set_option linter.unusedVariables false
open Go.RowKit

theorem takeWhile_take {p : UInt8 → Bool} {l : LBy} {j : Nat} (h : (l.takeWhile p).length ≤ j) (z : LBy) (hp : p 10 = false) : (l.take j ++ 10 :: z).takeWhile p = l.takeWhile p := by
  induction l generalizing j with
  | nil => simp [List.takeWhile_cons, hp]
  | cons c r ih =>
    rw [List.takeWhile_cons] at h
    by_cases hc : p c = true
    · rw [if_pos hc] at h
      simp only [List.length_cons] at h
      obtain ⟨j, rfl⟩ : ∃ m, j = m + 1 := ⟨j - 1, by omega⟩
      rw [List.take_succ_cons, List.cons_append, List.takeWhile_cons, List.takeWhile_cons, if_pos hc, if_pos hc, ih (by omega)]
    · cases j with
      | zero => simp [List.takeWhile_cons, hp, hc]
      | succ j => rw [List.take_succ_cons, List.cons_append, List.takeWhile_cons, List.takeWhile_cons, if_neg hc, if_neg hc]
theorem prefix_cut {s l : LBy} {j : Nat} {z : LBy} (hs : (10 : UInt8) ∉ s) (h : s.isPrefixOf (l.take j ++ 10 :: z) = true) : s.isPrefixOf l = true := by
  induction s generalizing l j with
  | nil => simp
  | cons a s ih =>
    simp only [List.mem_cons, not_or] at hs
    cases l with
    | nil =>
      simp only [List.take_nil, List.nil_append, List.isPrefixOf, Bool.and_eq_true, beq_iff_eq] at h
      exact absurd h.1.symm hs.1
    | cons c r =>
      cases j with
      | zero =>
        simp only [List.take_zero, List.nil_append, List.isPrefixOf, Bool.and_eq_true, beq_iff_eq] at h
        exact absurd h.1.symm hs.1
      | succ j =>
        simp only [List.take_succ_cons, List.cons_append, List.isPrefixOf, Bool.and_eq_true, beq_iff_eq] at h ⊢
        exact ⟨h.1, ih hs.2 h.2⟩
theorem prefix_keep {s l : LBy} {j : Nat} {z : LBy} (hj : s.length ≤ j) (h : s.isPrefixOf l = true) : s.isPrefixOf (l.take j ++ 10 :: z) = true := by
  induction s generalizing l j with
  | nil => simp
  | cons a s ih =>
    cases l with
    | nil => cases h
    | cons c r =>
      simp only [List.length_cons] at hj
      obtain ⟨j, rfl⟩ : ∃ m, j = m + 1 := ⟨j - 1, by omega⟩
      simp only [List.take_succ_cons, List.cons_append, List.isPrefixOf, Bool.and_eq_true, beq_iff_eq] at h ⊢
      exact ⟨h.1, ih (by omega) h.2⟩
theorem sgF_cut {l : LBy} {j : Nat} (z : LBy) : ∀ (ss : List LBy), (∀ s ∈ ss, (10 : UInt8) ∉ s) → sgF ss l ≤ j → sgF ss l ≠ 0 → sgF ss (l.take j ++ 10 :: z) = sgF ss l := by
  intro ss
  induction ss with
  | nil => intro _ _ h; exact absurd rfl h
  | cons s ss ih =>
    intro hs hj h0
    have h1 := hs s (by simp)
    unfold sgF at hj h0 ⊢
    rw [List.find?_cons] at hj h0 ⊢
    rw [List.find?_cons]
    cases hp : s.isPrefixOf l with
    | true =>
      simp only [hp] at hj h0 ⊢
      have hj' : s.length ≤ j := hj
      rw [prefix_keep hj' hp]
    | false =>
      simp only [hp] at hj h0 ⊢
      have : s.isPrefixOf (l.take j ++ 10 :: z) = false := by
        cases h : s.isPrefixOf (l.take j ++ 10 :: z) with
        | false => rfl
        | true => rw [prefix_cut h1 h] at hp; cases hp
      rw [this]
      exact ih (fun x hx => hs x (by simp [hx])) hj h0
theorem signs10 : ∀ s ∈ signL, (10 : UInt8) ∉ s := by decide
/-- A token does not hang on what follows the place where it was cut. -/
theorem one_cut {l : LBy} {k : Int} {n v j : Nat} (h : one l = .tk k n v) (hj : n ≤ j) (z : LBy) : one (l.take j ++ 10 :: z) = .tk k n v := by
  have hn := one_tk h
  cases l with
  | nil => cases h
  | cons c r =>
    obtain ⟨j, rfl⟩ : ∃ m, j = m + 1 := ⟨j - 1, by omega⟩
    have e0 : (c :: r).take (j + 1) ++ 10 :: z = c :: (r.take j ++ 10 :: z) := by rw [List.take_succ_cons]; rfl
    rw [e0]
    unfold one at h ⊢
    simp only at h ⊢
    have W : wdN (c :: r) ≤ j + 1 → wdN (c :: (r.take j ++ 10 :: z)) = wdN (c :: r) := fun hh => by
      rw [← e0]; unfold wdN at hh ⊢; rw [takeWhile_take hh z (by decide)]
    have D : dgN (c :: r) ≤ j + 1 → (c :: (r.take j ++ 10 :: z)).takeWhile isDg = (c :: r).takeWhile isDg := fun hh => by
      rw [← e0]; exact takeWhile_take hh z (by decide)
    have TK : ∀ m, m ≤ j + 1 → m ≤ r.length + 1 → (c :: (r.take j ++ 10 :: z)).take m = (c :: r).take m := fun m hm hm' => by
      rw [← e0, List.take_append_of_le_length (by simp only [List.length_take, List.length_cons]; omega), List.take_take, Nat.min_eq_left hm]
    by_cases h1 : isLow c = true
    · rw [if_pos h1] at h ⊢
      by_cases h2 : 30 < wdN (c :: r)
      · rw [if_pos h2] at h; cases h
      · rw [if_neg h2] at h
        injection h with q1 q2 q3
        rw [W (by omega), if_neg h2, q1, q2, q3]
    · rw [if_neg h1] at h ⊢
      by_cases h2 : isDg c = true
      · rw [if_pos h2] at h ⊢
        by_cases h3 : wdN (c :: r) ≠ dgN (c :: r) ∨ (1 < dgN (c :: r) ∧ c = 48)
        · rw [if_pos h3] at h; cases h
        · rw [if_neg h3] at h
          by_cases h4 : 1099511627776 < rdN ((c :: r).take (dgN (c :: r)))
          · rw [if_pos h4] at h; cases h
          · rw [if_neg h4] at h
            injection h with q1 q2 q3
            have hwd : wdN (c :: r) = dgN (c :: r) := by
              by_cases hh : wdN (c :: r) = dgN (c :: r)
              · exact hh
              · exact absurd (.inl hh) h3
            have d1 : dgN (c :: (r.take j ++ 10 :: z)) = dgN (c :: r) := by unfold dgN at q2 ⊢; rw [D (by unfold dgN; omega)]
            have := dgN_le (c :: r)
            simp only [List.length_cons] at this
            rw [W (by omega), d1, if_neg h3, TK _ (by omega) (by omega), if_neg h4, q3, q2, q1]
      · rw [if_neg h2] at h ⊢
        by_cases h3 : sgN (c :: r) = 0
        · rw [if_pos h3] at h; cases h
        · rw [if_neg h3] at h
          injection h with q1 q2 q3
          have : sgN (c :: (r.take j ++ 10 :: z)) = sgN (c :: r) := by
            rw [← e0]
            exact sgF_cut z signL signs10 (by unfold sgN at q2; omega) h3
          rw [this, if_neg h3, q1, q2, q3]
theorem OffR_ge {L : LBy} : ∀ {m : List Tk} {e : Nat}, OffR L e m → ∀ t ∈ m, e ≤ t.a := by
  intro m
  induction m with
  | nil => intro e h; exact h.elim
  | cons t r ih =>
    intro e h x hx
    obtain ⟨h1, h2, h3, h4, h5, h6⟩ := h
    rcases List.mem_cons.1 hx with rfl | hx
    · exact h1
    · cases r with
      | nil => cases hx
      | cons y r =>
        have := ih h6.2.2 x hx
        omega
/-- The tokens ahead of one, of a text that is cut at that one. -/
theorem lxx_cut (L : LBy) (z : LBy) (c : Nat) (n : Nat) : ∀ (a : Nat) (acc m1 m2 : List Tk) (t : Tk), L.length - a < n → a ≤ L.length → lxx (L.drop a) a acc = (acc ++ (m1 ++ t :: m2), 0, 0) → t.a = c →
    lxx ((L.take c).drop a ++ 10 :: z) a acc = lxx (10 :: z) c (acc ++ m1) := by
  induction n with
  | zero => intro a acc m1 m2 t h; omega
  | succ n ih =>
    intro a acc m1 m2 t hn ha hl hc
    have hge : ∀ b, a ≤ b → b ≤ L.length → lxx (L.drop b) b acc = (acc ++ (m1 ++ t :: m2), 0, 0) → b ≤ c := by
      intro b hb hb' hb2
      obtain ⟨m, h1, h2, _⟩ := lxx_off L _ b acc b _ 0 (Nat.lt_succ_self _) (Nat.le_refl _) hb' (by simp; rfl) hb2
      have h1 := List.append_cancel_left h1
      have := OffR_ge h2 t (by rw [← h1]; simp)
      omega
    have hcl : c ≤ L.length := by
      obtain ⟨m, h1, h2, _⟩ := lxx_off L _ a acc a _ 0 (Nat.lt_succ_self _) (Nat.le_refl _) ha (by simp; rfl) hl
      have h1 := List.append_cancel_left h1
      have hx : ∀ {m : List Tk} {e : Nat}, OffR L e m → ∀ t ∈ m, t.a ≤ L.length := by
        intro m
        induction m with
        | nil => intro e h; exact h.elim
        | cons t r ih =>
          intro e h x hx
          obtain ⟨h1, h2, h3, h4, h5, h6⟩ := h
          rcases List.mem_cons.1 hx with rfl | hx
          · exact h2
          · cases r with
            | nil => cases hx
            | cons y r => exact ih h6.2.2 x hx
      have := hx h2 t (by rw [← h1]; simp)
      omega
    have hsplit : ∀ d, a + d ≤ c → (L.take c).drop a = (L.drop a).take d ++ (L.take c).drop (a + d) := fun d hd => by
      rw [← List.drop_drop]
      have : (L.drop a).take d = ((L.take c).drop a).take d := by
        rw [List.drop_take, List.take_take, Nat.min_eq_left (by omega)]
      rw [this, List.take_append_drop]
    cases hd : L.drop a with
    | nil =>
      have hla : L.length ≤ a := by
        have := congrArg List.length hd
        simp only [List.length_drop, List.length_nil] at this
        omega
      rw [hd, lxx_nil] at hl
      injection hl with h1 _
      have h1 := List.append_cancel_left h1
      have hm : m1 = [] ∧ t = ⟨0, .empty, 0, a⟩ := by
        cases m1 with
        | nil => injection h1 with h1 _; exact ⟨rfl, h1.symm⟩
        | cons x y => injection h1 with _ h1; cases y <;> cases h1
      obtain ⟨rfl, rfl⟩ := hm
      have : c = a := hc.symm
      subst this
      rw [List.drop_of_length_le (by simp; omega), List.append_nil]
      rfl
    | cons x r =>
      have hla : a + 1 ≤ L.length := by
        have := congrArg List.length hd
        simp only [List.length_drop, List.length_cons] at this
        omega
      have hr : r = L.drop (a + 1) := by rw [← List.drop_drop, hd]; rfl
      rw [hd] at hl
      by_cases h1 : isSp x = true
      · rw [lxx_sp h1, hr] at hl
        have hac := hge (a + 1) (by omega) hla hl
        rw [hsplit 1 hac, hd, List.take_succ_cons, List.take_zero]
        rw [show [x] ++ (L.take c).drop (a + 1) ++ 10 :: z = x :: ((L.take c).drop (a + 1) ++ 10 :: z) by simp, lxx_sp h1]
        exact ih (a + 1) acc m1 m2 t (by omega) hla hl hc
      · have h1 : isSp x = false := by simpa using h1
        by_cases h2 : x = 35
        · subst h2
          rw [lxx_cm rfl, ← hd] at hl
          have hsp := List.takeWhile_append_dropWhile (p := isCm) (l := L.drop a)
          obtain ⟨d, hdd⟩ : ∃ d, ((L.drop a).takeWhile isCm).length = d := ⟨_, rfl⟩
          have hD : (L.drop a).dropWhile isCm = L.drop (a + d) := by
            rw [← List.drop_drop, ← hdd, drop_tw]
          have htk : (L.drop a).take d = (L.drop a).takeWhile isCm := by
            rw [← hdd]; exact take_tw _ _
          have hd1 : 1 ≤ d := by rw [← hdd, hd, List.takeWhile_cons, if_pos (by decide)]; simp
          have hdl : d ≤ L.length - a := by
            have := (List.takeWhile_prefix isCm (l := L.drop a)).length_le
            rw [hdd] at this
            simpa using this
          rw [hD, hdd] at hl
          have hac := hge (a + d) (by omega) (by omega) hl
          have hal : ((L.drop a).takeWhile isCm).all isCm = true := by
            rw [List.all_eq_true]
            intro y hy
            exact mem_tw hy
          rw [hsplit d hac, htk, List.append_assoc]
          have hnext : ∀ y, ((L.take c).drop (a + d) ++ 10 :: z).head? = some y → isCm y = false := by
            intro y hy
            cases hq : (L.take c).drop (a + d) with
            | nil => rw [hq] at hy; obtain rfl : (10 : UInt8) = y := by simpa using hy
                     rfl
            | cons u q =>
              rw [hq] at hy
              obtain rfl : u = y := by simpa using hy
              have e1 : ((L.drop a).dropWhile isCm).head? = some u := by
                rw [hD]
                have : ((L.take c).drop (a + d)).head? = some u := by rw [hq]; rfl
                rw [List.head?_drop] at this ⊢
                rw [List.getElem?_take] at this
                split at this
                · exact this
                · cases this
              have := List.head?_dropWhile_not isCm (L.drop a)
              rw [e1] at this
              exact this
          have hnx : ((L.take c).drop (a + d) ++ 10 :: z).takeWhile isCm = [] ∧ ((L.take c).drop (a + d) ++ 10 :: z).dropWhile isCm = (L.take c).drop (a + d) ++ 10 :: z := by
            cases hq : (L.take c).drop (a + d) ++ 10 :: z with
            | nil => exact ⟨rfl, rfl⟩
            | cons u q =>
              have := hnext u (by rw [hq]; rfl)
              rw [List.takeWhile_cons, List.dropWhile_cons, if_neg (by rw [this]; decide), if_neg (by rw [this]; decide)]
              exact ⟨rfl, rfl⟩
          have hhd : ((L.drop a).takeWhile isCm ++ ((L.take c).drop (a + d) ++ 10 :: z)).head? = some 35 := by
            rw [hd, List.takeWhile_cons, if_pos (by decide)]; rfl
          rw [lxx_cm hhd, dropWhile_app, if_pos hal, takeWhile_app, if_pos hal, hnx.1, hnx.2, List.append_nil, hdd]
          exact ih (a + d) acc m1 m2 t (by omega) (by omega) hl hc
        · cases h3 : one (x :: r) with
          | er q =>
            rw [lxx_er h1 h2 h3] at hl
            injection hl with q1 _
            have := congrArg List.length q1
            simp at this
          | tk k j v =>
            have hm := one_tk h3
            rw [lxx_tk h1 h2 h3, ← hd, List.drop_drop] at hl
            have hml : j ≤ L.length - a := by
              have := hm.2
              rw [← hd] at this
              simpa using this
            obtain ⟨M, hM1, hM2, hM3⟩ := lxx_off L _ (a + j) _ (a + j) _ 0 (Nat.lt_succ_self _) (Nat.le_refl _) (by omega) (by simp; rfl) hl
            rw [List.append_assoc] at hM1
            have hM1 := List.append_cancel_left hM1
            cases m1 with
            | nil =>
              injection hM1 with e1 _
              have hca : c = a := by rw [← hc, e1]
              subst hca
              rw [List.drop_of_length_le (by simp; omega), List.append_nil]
              rfl
            | cons y m1 =>
              injection hM1 with e1 e2
              have hac : a + j ≤ c := by
                have e2' : m1 ++ t :: m2 = M := e2
                have := OffR_ge hM2 t (by rw [← e2']; simp)
                omega
              rw [e1] at hl
              have e3 : (L.take c).drop a = (x :: r).take (c - a) := by rw [List.drop_take, hd]
              have e4 : (L.take c).drop a ++ 10 :: z = x :: (r.take (c - a - 1) ++ 10 :: z) := by
                rw [e3, show c - a = (c - a - 1) + 1 by omega, List.take_succ_cons]; rfl
              have h3' : one (x :: (r.take (c - a - 1) ++ 10 :: z)) = .tk k j v := by
                rw [← e4, e3]
                exact one_cut h3 (by omega) z
              have e5 : (x :: (r.take (c - a - 1) ++ 10 :: z)).drop j = (L.take c).drop (a + j) ++ 10 :: z := by
                rw [← e4, List.drop_append_of_le_length (by simp only [List.length_drop, List.length_take]; omega), List.drop_drop]
              have e6 : (x :: (r.take (c - a - 1) ++ 10 :: z)).take j = (L.drop a).take j := by
                rw [← e4, List.take_append_of_le_length (by simp only [List.length_drop, List.length_take]; omega), List.drop_take, List.take_take, Nat.min_eq_left (by omega)]
              rw [e4, lxx_tk h1 h2 h3', e5, e6]
              have e7 : acc ++ [⟨k, bB ((L.drop a).take j), v, a⟩] ++ (m1 ++ t :: m2) = acc ++ (⟨k, bB ((L.drop a).take j), v, a⟩ :: m1 ++ t :: m2) := by simp
              rw [← e7] at hl
              rw [ih (a + j) _ m1 m2 t (by omega) (by omega) hl hc, e1]
              simp
/-- A text that stands further behind has the same tokens there. -/
def shT (d : Nat) (t : Tk) : Tk := { t with a := t.a + d }
def shR (d : Nat) (acc : List Tk) (r : LxR) : LxR := if r.2.2 = 0 then (acc ++ r.1.map (shT d), r.2.1, 0) else ([], r.2.1 + d, r.2.2)
theorem lxx_shift (n : Nat) : ∀ (l : LBy) (a d : Nat) (acc acc' : List Tk), l.length < n → lxx l (a + d) (acc ++ acc'.map (shT d)) = shR d acc (lxx l a acc') := by
  induction n with
  | zero => intro l a d acc acc' h; omega
  | succ n ih =>
    intro l a d acc acc' hn
    cases l with
    | nil =>
      rw [lxx_nil, lxx_nil, shR, if_pos rfl]
      simp [shT]
    | cons c r =>
      simp only [List.length_cons] at hn
      by_cases h1 : isSp c = true
      · rw [lxx_sp h1, lxx_sp h1, show a + d + 1 = a + 1 + d by omega]
        exact ih _ _ _ _ _ (by omega)
      · have h1 : isSp c = false := by simpa using h1
        by_cases h2 : c = 35
        · subst h2
          rw [lxx_cm (l := 35 :: r) rfl, lxx_cm (l := 35 :: r) rfl, show a + d + ((35 :: r).takeWhile isCm).length = a + ((35 :: r).takeWhile isCm).length + d by omega]
          refine ih _ _ _ _ _ ?_
          rw [List.dropWhile_cons, if_pos (by decide)]
          have := (List.dropWhile_suffix isCm (l := r)).length_le
          omega
        · cases h3 : one (c :: r) with
          | er e =>
            have he : e ≠ 0 := by
              rintro rfl
              revert h3
              unfold one
              simp only
              repeat' split
              all_goals (intro q; cases q)
            rw [lxx_er h1 h2 h3, lxx_er h1 h2 h3, shR, if_neg he]
          | tk k j v =>
            have hm := one_tk h3
            simp only [List.length_cons] at hm
            rw [lxx_tk h1 h2 h3, lxx_tk h1 h2 h3, show a + d + j = a + j + d by omega]
            rw [← ih _ (a + j) d acc _ (by simp only [List.length_drop, List.length_cons]; omega)]
            simp [shT]
theorem lxx_at (l : LBy) (d : Nat) (acc : List Tk) : lxx l d acc = shR d acc (lexL l) := by
  have := lxx_shift _ l 0 d acc [] (Nat.lt_succ_self _)
  rw [List.map_nil, List.append_nil, Nat.zero_add] at this
  exact this
end Go.Proofs.YtdgphhdkeikbaaaDoor
