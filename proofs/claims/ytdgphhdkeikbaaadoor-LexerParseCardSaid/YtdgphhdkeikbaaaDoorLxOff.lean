/-
  Where the tokens of a text stand.
-/
import Derived.Test.YtdgphhdkeikbaaaDoorLxPlain
namespace Go.Proofs.YtdgphhdkeikbaaaDoor
set_option linter.unusedSimpArgs false
set_option linter.unusedVariables false
open Go.RowKit

/-- What 'separator' reports. -/
def sepF : Nat → LBy → Bool
  | 0, _ => true
  | _ + 1, [] => true
  | f + 1, c :: r => if c = 35 then sepF f ((r.dropWhile isCm).drop 1) else if isSp c = true then sepF f r else false
def sepB (l : LBy) : Bool := sepF (l.length + 1) l
theorem sepF_fuel (f : Nat) : ∀ (l : LBy) (g : Nat), l.length < f → f ≤ g → sepF g l = sepF f l := by
  induction f with
  | zero => intro l g h; omega
  | succ f ih =>
    intro l g h hg
    obtain ⟨g, rfl⟩ : ∃ m, g = m + 1 := ⟨g - 1, by omega⟩
    cases l with
    | nil => rfl
    | cons c r =>
      simp only [List.length_cons] at h
      have h2 := (List.dropWhile_suffix isCm (l := r)).length_le
      unfold sepF
      rw [ih ((r.dropWhile isCm).drop 1) g (by simp only [List.length_drop]; omega) (by omega), ih r g (by omega) (by omega)]
theorem sepB_nil : sepB [] = true := rfl
theorem sepB_cm (r : LBy) : sepB (35 :: r) = sepB ((r.dropWhile isCm).drop 1) := by
  have h2 := (List.dropWhile_suffix isCm (l := r)).length_le
  show sepF (r.length + 1 + 1) (35 :: r) = _
  rw [sepF, if_pos rfl]
  exact sepF_fuel _ _ _ (by simp only [List.length_drop]; omega) (by simp only [List.length_drop]; omega)
theorem sepB_sp {c : UInt8} (r : LBy) (h : isSp c = true) : sepB (c :: r) = sepB r := by
  show sepF (r.length + 1 + 1) (c :: r) = _
  rw [sepF, if_neg (fun e => by subst e; revert h; decide), if_pos h]
  rfl
theorem sepB_no {c : UInt8} (r : LBy) (h1 : c ≠ 35) (h : isSp c = false) : sepB (c :: r) = false := by
  show sepF (r.length + 1 + 1) (c :: r) = _
  rw [sepF, if_neg h1, if_neg (by rw [h]; decide)]
theorem mem_tw {α : Type} {p : α → Bool} {x : α} {l : List α} (h : x ∈ l.takeWhile p) : p x = true := by
  induction l with
  | nil => cases h
  | cons c r ih =>
    rw [List.takeWhile_cons] at h
    by_cases hc : p c = true
    · rw [if_pos hc] at h
      rcases List.mem_cons.1 h with rfl | h
      · exact hc
      · exact ih h
    · rw [if_neg hc] at h; cases h
theorem drop_tw {α : Type} (p : α → Bool) (l : List α) : l.dropWhile p = l.drop (l.takeWhile p).length := by
  induction l with
  | nil => rfl
  | cons c r ih =>
    rw [List.takeWhile_cons, List.dropWhile_cons]
    by_cases hc : p c = true
    · rw [if_pos hc, if_pos hc, ih]; rfl
    · rw [if_neg hc, if_neg hc]; rfl
theorem take_tw {α : Type} (p : α → Bool) (l : List α) : l.take (l.takeWhile p).length = l.takeWhile p := by
  induction l with
  | nil => rfl
  | cons c r ih =>
    rw [List.takeWhile_cons]
    by_cases hc : p c = true
    · rw [if_pos hc, List.length_cons, List.take_succ_cons, ih]
    · rw [if_neg hc]; rfl
theorem dropWhile_app {α : Type} (p : α → Bool) (x z : List α) : (x ++ z).dropWhile p = if x.all p = true then z.dropWhile p else x.dropWhile p ++ z := by
  induction x with
  | nil => simp
  | cons c r ih =>
    rw [List.cons_append, List.dropWhile_cons, List.dropWhile_cons, List.all_cons]
    by_cases h : p c = true
    · rw [if_pos h, ih, h]; simp
    · rw [if_neg h]; simp [h]
theorem dropWhile_all {α : Type} (p : α → Bool) (x : List α) (h : x.all p = true) : x.dropWhile p = [] := by
  have := dropWhile_app p x []
  rw [if_pos h] at this
  simpa using this
theorem takeWhile_app {α : Type} (p : α → Bool) (x z : List α) : (x ++ z).takeWhile p = if x.all p = true then x ++ z.takeWhile p else x.takeWhile p := by
  induction x with
  | nil => simp
  | cons c r ih =>
    rw [List.cons_append, List.takeWhile_cons, List.takeWhile_cons, List.all_cons]
    by_cases h : p c = true
    · rw [if_pos h, ih, h]
      simp only [Bool.true_and]
      split <;> simp [h]
    · rw [if_neg h]; simp [h]
/-- A gap goes on with a blank, or with a comment. -/
theorem sep_app (n : Nat) : ∀ (x z : LBy), x.length < n → sepB x = true → (sepB z = true ∧ (z.all isCm = true ∨ z.length ≤ 1)) → sepB (x ++ z) = true := by
  induction n with
  | zero => intro x z h; omega
  | succ n ih =>
    intro x z hl hx hz
    cases x with
    | nil => simpa using hz.1
    | cons c r =>
      simp only [List.length_cons] at hl
      have h2 := (List.dropWhile_suffix isCm (l := r)).length_le
      rw [List.cons_append]
      by_cases h1 : c = 35
      · subst h1
        rw [sepB_cm] at hx ⊢
        rw [dropWhile_app]
        by_cases ha : r.all isCm = true
        · rw [if_pos ha]
          rcases hz.2 with h | h
          · rw [dropWhile_all _ _ h]; rfl
          · cases z with
            | nil => rfl
            | cons d q =>
              obtain rfl : q = [] := by simpa using h
              rw [List.dropWhile_cons]
              split <;> rfl
        · rw [if_neg ha]
          have hne : r.dropWhile isCm ≠ [] := by
            intro e
            apply ha
            rw [List.all_eq_true]
            intro y hy
            rw [← List.takeWhile_append_dropWhile (p := isCm) (l := r), e, List.append_nil] at hy
            exact mem_tw hy
          have hp : 1 ≤ (r.dropWhile isCm).length := by
            cases h : r.dropWhile isCm with
            | nil => exact absurd h hne
            | cons a b => simp
          rw [List.drop_append_of_le_length hp]
          exact ih _ _ (by simp only [List.length_drop]; omega) hx hz
      · by_cases h3 : isSp c = true
        · rw [sepB_sp _ h3] at hx ⊢
          exact ih _ _ (by omega) hx hz
        · rw [sepB_no _ h1 (by simpa using h3)] at hx
          cases hx
/-- The tokens behind an end e. -/
def OffR (L : LBy) : Nat → List Tk → Prop
  | _, [] => False
  | e, t :: r => e ≤ t.a ∧ t.a ≤ L.length ∧ sepB ((L.drop e).take (t.a - e)) = true ∧ t.t.data.toList = (L.drop t.a).take t.t.size ∧ t.a + t.t.size ≤ L.length ∧
    (match r with
      | [] => t.k = 0 ∧ t.t = .empty ∧ t.a = L.length
      | _ :: _ => t.k ≠ 0 ∧ t.t ≠ .empty ∧ OffR L (t.a + t.t.size) r)
theorem bB_size (l : LBy) : (bB l).size = l.length := by simp [bB, ByteArray.size]
theorem bB_list (l : LBy) : (bB l).data.toList = l := by simp [bB]
theorem one_k {l : LBy} {k : Int} {n v : Nat} (h : one l = .tk k n v) : k = 1 ∨ k = 2 ∨ k = 3 := by
  cases l with
  | nil => cases h
  | cons c r =>
    unfold one at h
    simp only at h
    repeat' split at h
    all_goals first
      | (cases h; done)
      | (injection h with h _ _; omega)
theorem OffR_ne {L : LBy} {e : Nat} {m : List Tk} (h : OffR L e m) : m ≠ [] := by rintro rfl; exact h
theorem lxx_off (L : LBy) (n : Nat) : ∀ (a : Nat) (acc : List Tk) (e : Nat) (res : List Tk) (i : Nat), L.length - a < n → e ≤ a → a ≤ L.length → sepB ((L.drop e).take (a - e)) = true → lxx (L.drop a) a acc = (res, i, 0) →
    ∃ m, res = acc ++ m ∧ OffR L e m ∧ i = 0 := by
  induction n with
  | zero => intro a acc e res i h; omega
  | succ n ih =>
    intro a acc e res i hn he ha hs hl
    have happ : ∀ d, a + d ≤ L.length → (L.drop e).take (a + d - e) = (L.drop e).take (a - e) ++ (L.drop a).take d := fun d hd => by
      rw [show a + d - e = (a - e) + d by omega, List.take_add, List.drop_drop, show e + (a - e) = a by omega]
    cases hc : L.drop a with
    | nil =>
      have hla : L.length ≤ a := by
        have := congrArg List.length hc
        simp only [List.length_drop, List.length_nil] at this
        omega
      rw [hc, lxx_nil] at hl
      injection hl with h1 h2
      injection h2 with h2 _
      refine ⟨_, h1.symm, ?_, h2.symm⟩
      exact ⟨he, ha, hs, by simp, by simpa using ha, rfl, rfl, by simp only; omega⟩
    | cons c r =>
      have hla : a + 1 ≤ L.length := by
        have := congrArg List.length hc
        simp only [List.length_drop, List.length_cons] at this
        omega
      have hr : r = L.drop (a + 1) := by
        rw [show a + 1 = a + 1 from rfl, ← List.drop_drop, hc]; rfl
      rw [hc] at hl
      by_cases h1 : isSp c = true
      · rw [lxx_sp h1, hr] at hl
        refine ih (a + 1) acc e res i (by omega) (by omega) (by omega) ?_ hl
        rw [happ 1 hla, hc]
        exact sep_app _ _ _ (Nat.lt_succ_self _) hs ⟨by rw [List.take_succ_cons, List.take_zero, sepB_sp _ h1]; rfl, .inr (by simp)⟩
      · have h1 : isSp c = false := by simpa using h1
        by_cases h2 : c = 35
        · subst h2
          rw [lxx_cm rfl, ← hc] at hl
          have hsp := List.takeWhile_append_dropWhile (p := isCm) (l := L.drop a)
          have hd : (L.drop a).dropWhile isCm = L.drop (a + ((L.drop a).takeWhile isCm).length) := by
            rw [← List.drop_drop, drop_tw]
          have htk : (L.drop a).take (((L.drop a).takeWhile isCm).length) = (L.drop a).takeWhile isCm := take_tw _ _
          have h1l : 1 ≤ ((L.drop a).takeWhile isCm).length := by rw [hc, List.takeWhile_cons, if_pos (by decide)]; simp
          have hll : ((L.drop a).takeWhile isCm).length ≤ L.length - a := by
            have := (List.takeWhile_prefix isCm (l := L.drop a)).length_le
            simpa using this
          rw [hd] at hl
          refine ih _ acc e res i (by omega) (by omega) (by omega) ?_ hl
          rw [happ _ (by omega), htk]
          have hal : ((L.drop a).takeWhile isCm).all isCm = true := by
            rw [List.all_eq_true]
            intro y hy
            exact mem_tw hy
          refine sep_app _ _ _ (Nat.lt_succ_self _) hs ⟨?_, .inl hal⟩
          rw [hc, List.takeWhile_cons, if_pos (by decide)] at hal ⊢
          rw [sepB_cm, dropWhile_all]
          · rfl
          · rw [List.all_cons] at hal
            exact (Bool.and_eq_true _ _ ▸ hal).2
        · cases h3 : one (c :: r) with
          | er x => 
            rw [lxx_er h1 h2 h3] at hl
            injection hl with q1 q2
            injection q2 with q2 q3
            exfalso
            revert h3
            unfold one
            simp only
            repeat' split
            all_goals (intro q; cases q; try (revert q3; decide))
          | tk k m v =>
            have hm := one_tk h3
            rw [lxx_tk h1 h2 h3] at hl
            have hml : m ≤ L.length - a := by
              have := hm.2
              rw [← hc] at this
              simpa using this
            rw [← hc, List.drop_drop] at hl
            obtain ⟨M, hM1, hM2, hi⟩ := ih (a + m) _ (a + m) res i (by omega) (by omega) (by omega) (by simp; rfl) hl
            have hts : ((L.drop a).take m).length = m := by simp; omega
            refine ⟨⟨k, bB ((L.drop a).take m), v, a⟩ :: M, by rw [hM1]; simp, ?_, hi⟩
            cases M with
            | nil => exact hM2.elim
            | cons t' M' =>
              refine ⟨he, ha, hs, ?_, ?_, ?_, ?_, ?_⟩
              · simp only [bB_list, bB_size, hts]
              · simp only [bB_size, hts]; omega
              · simp only
                have := one_k h3
                omega
              · intro hh
                have := congrArg ByteArray.size hh
                simp only [bB_size, hts] at this
                have : m = 0 := this
                omega
              · simp only [bB_size, hts]
                exact hM2
theorem lexT_off {s : ByteArray} {l : List Tk} {i : Nat} (h : lexT s = (l, i, 0)) : OffR s.data.toList 0 l ∧ i = 0 := by
  unfold lexT at h
  split at h
  · injection h with _ h; injection h with _ h; exact absurd h (by decide)
  · obtain ⟨m, h1, h2, h3⟩ := lxx_off s.data.toList _ 0 [] 0 l i (Nat.lt_succ_self _) (Nat.le_refl _) (Nat.zero_le _) rfl h
    rw [List.nil_append] at h1
    rw [h1]
    exact ⟨h2, h3⟩
end Go.Proofs.YtdgphhdkeikbaaaDoor
