/-
  Reading expressions: what does not matter.
-/
import Derived.Test.YtdgphhdkeikbaaaDoorLxPs
namespace Go.Proofs.YtdgphhdkeikbaaaDoor
set_option linter.unusedSimpArgs false
set_option linter.unusedVariables false
open Go.RowKit

def nq (t : Tk) : Int := if opN t = 0 then 0 else pcP (opN t)
theorem hdT_app {x : List Tk} (h : x ≠ []) (y : List Tk) : hdT (x ++ y) = hdT x := by
  cases x with
  | nil => exact absurd rfl h
  | cons a r => rfl
/-- What stands behind what was read does not matter, as long as it is no operator. -/
theorem ps_swap (y y' : List Tk) (f : Nat) : ∀ (m : Pm) (x : List Tk), (match m with
    | .lop p _ => p ≤ 5
    | _ => True) → (∀ e n, ps f m (x ++ y) = .ok e n → n ≤ x.length → (n = x.length → opN (hdT y') = 0) → ps f m (x ++ y') = .ok e n) ∧ (∀ n, ps f m (x ++ y) = .bad n → n < x.length → ps f m (x ++ y') = .bad n) := by
  induction f with
  | zero => intro m x _; exact ⟨fun e n h => (by cases h), fun n h => (by cases h)⟩
  | succ f ih =>
    intro m x hm
    have hdr : ∀ d, d ≤ x.length → (x ++ y).drop d = x.drop d ++ y ∧ (x ++ y').drop d = x.drop d ++ y' := fun d hd => ⟨List.drop_append_of_le_length hd, List.drop_append_of_le_length hd⟩
    cases m with
    | exp p =>
      unfold ps
      by_cases hp : 5 < p
      · simp only [if_pos hp]
        exact ih .opd x trivial
      · simp only [if_neg hp]
        have I := ih (.exp (p + 1)) x trivial
        cases h1 : ps f (.exp (p + 1)) (x ++ y) with
        | out => exact ⟨fun e n h => (by cases h), fun n h => (by cases h)⟩
        | bad k =>
          refine ⟨fun e n h => (by cases h), fun n h hn => ?_⟩
          injection h with h
          subst h
          rw [I.2 _ h1 hn]; rfl
        | ok e k =>
          have J := ih (.lop p e) (x.drop k) (by show p ≤ 5; omega)
          simp only [Rs.thenLop]
          constructor
          · intro e' n h hn hy
            cases h2 : ps f (.lop p e) ((x ++ y).drop k) with
            | out => rw [h2] at h; cases h
            | bad j => rw [h2] at h; cases h
            | ok e2 j =>
              rw [h2] at h
              injection h with q1 q2
              have hk : k ≤ x.length := by omega
              rw [(hdr k hk).1] at h2
              rw [I.1 e k h1 hk (fun hh => hy (by omega))]
              simp only [(hdr k hk).2]
              rw [J.1 e2 j h2 (by simp only [List.length_drop]; omega) (fun hh => hy (by simp only [List.length_drop] at hh; omega))]
              simp only [Rs.up, q1, q2]
          · intro n h hn
            cases h2 : ps f (.lop p e) ((x ++ y).drop k) with
            | out => rw [h2] at h; cases h
            | ok e2 j => rw [h2] at h; cases h
            | bad j =>
              rw [h2] at h
              injection h with q2
              have hk : k ≤ x.length := by omega
              rw [(hdr k hk).1] at h2
              rw [I.1 e k h1 hk (fun hh => by omega)]
              simp only [(hdr k hk).2]
              rw [J.2 j h2 (by simp only [List.length_drop]; omega)]
              simp only [Rs.up, q2]
    | lop p e =>
      change p ≤ 5 at hm
      unfold ps
      by_cases hx : x = []
      · subst hx
        simp only [List.nil_append]
        constructor
        · intro e' n h hn hy
          have h0 : n = 0 := by simpa using hn
          subst h0
          have hy := hy rfl
          have h6 : pcP 0 = 6 := by decide
          rw [hy, h6, if_pos (by omega)]
          by_cases hp : pcP (opN (hdT y)) ≠ p
          · rw [if_pos hp] at h
            exact h
          · rw [if_neg hp] at h
            exfalso
            cases h1 : ps f (.exp (p + 1)) (y.drop 1) with
            | out => rw [h1] at h; cases h
            | bad n => rw [h1] at h; cases h
            | ok g n =>
              rw [h1] at h
              simp only [Rs.up, Rs.thenLop] at h
              by_cases h3 : p = 3
              · rw [if_pos h3] at h; injection h with _ h; omega
              · rw [if_neg h3] at h
                cases h2 : ps f (.lop p (bnX (opN (hdT y)) e g)) (y.drop (n + 1)) with
                | out => rw [h2] at h; cases h
                | bad n => rw [h2] at h; cases h
                | ok g n => rw [h2] at h; injection h with _ h; omega
        · intro n h hn; exact absurd hn (by simp)
      · have hxl : 1 ≤ x.length := by cases x with
          | nil => exact absurd rfl hx
          | cons a r => simp
        rw [hdT_app hx, hdT_app hx]
        by_cases hp : pcP (opN (hdT x)) ≠ p
        · simp only [if_pos hp]
          exact ⟨fun e' n h _ _ => h, fun n h => (by cases h)⟩
        · simp only [if_neg hp]
          rw [(hdr 1 hxl).1, (hdr 1 hxl).2]
          have I := ih (.exp (p + 1)) (x.drop 1) trivial
          simp only [List.length_drop] at I
          cases h1 : ps f (.exp (p + 1)) (x.drop 1 ++ y) with
          | out => exact ⟨fun e n h => (by cases h), fun n h => (by cases h)⟩
          | bad k =>
            refine ⟨fun e n h => (by cases h), fun n h hn => ?_⟩
            injection h with h
            rw [I.2 _ h1 (by omega), ← h]; rfl
          | ok g k =>
            simp only [Rs.up, Rs.thenLop]
            by_cases h3 : p = 3
            · simp only [if_pos h3]
              refine ⟨fun e' n h hn hy => ?_, fun n h => (by cases h)⟩
              injection h with q1 q2
              rw [I.1 g k h1 (by omega) (fun hh => hy (by omega))]
              simp only [Rs.up, Rs.thenLop, q1, q2]
            · simp only [if_neg h3]
              have J := ih (.lop p (bnX (opN (hdT x)) e g)) (x.drop (k + 1)) hm
              constructor
              · intro e' n h hn hy
                cases h2 : ps f (.lop p (bnX (opN (hdT x)) e g)) ((x ++ y).drop (k + 1)) with
                | out => rw [h2] at h; cases h
                | bad j => rw [h2] at h; cases h
                | ok e2 j =>
                  rw [h2] at h
                  injection h with q1 q2
                  have hk : k + 1 ≤ x.length := by omega
                  rw [(hdr _ hk).1] at h2
                  rw [I.1 g k h1 (by omega) (fun hh => hy (by omega))]
                  simp only [Rs.up, Rs.thenLop, (hdr _ hk).2]
                  rw [J.1 e2 j h2 (by simp only [List.length_drop]; omega) (fun hh => hy (by simp only [List.length_drop] at hh; omega))]
                  simp only [Rs.up, q1, q2]
              · intro n h hn
                cases h2 : ps f (.lop p (bnX (opN (hdT x)) e g)) ((x ++ y).drop (k + 1)) with
                | out => rw [h2] at h; cases h
                | ok e2 j => rw [h2] at h; cases h
                | bad j =>
                  rw [h2] at h
                  injection h with q2
                  have hk : k + 1 ≤ x.length := by omega
                  rw [(hdr _ hk).1] at h2
                  rw [I.1 g k h1 (by omega) (fun hh => by omega)]
                  simp only [Rs.up, Rs.thenLop, (hdr _ hk).2]
                  rw [J.2 j h2 (by simp only [List.length_drop]; omega)]
                  simp only [Rs.up, q2]
    | opd =>
      unfold ps
      by_cases hx : x = []
      · subst hx
        simp only [List.nil_append]
        refine ⟨fun e n h hn hy => ?_, fun n h hn => absurd hn (by simp)⟩
        exfalso
        have := ps_ok (f + 1) .opd y trivial
        unfold ps at this
        rw [h] at this
        have := this.2
        simp at hn
        omega
      · have hxl : 1 ≤ x.length := by cases x with
          | nil => exact absurd rfl hx
          | cons a r => simp
        rw [hdT_app hx, hdT_app hx]
        cases h0 : leafT (hdT x) with
        | some e => exact ⟨fun e' n h _ _ => h, fun n h => (by cases h)⟩
        | none =>
          simp only
          rw [(hdr 1 hxl).1, (hdr 1 hxl).2]
          have U : ∀ o, (∀ e n, (ps f .opd (x.drop 1 ++ y)).un o = .ok e n → n ≤ x.length → (n = x.length → opN (hdT y') = 0) → (ps f .opd (x.drop 1 ++ y')).un o = .ok e n) ∧ (∀ n, (ps f .opd (x.drop 1 ++ y)).un o = .bad n → n < x.length → (ps f .opd (x.drop 1 ++ y')).un o = .bad n) := by
            intro o
            have I := ih .opd (x.drop 1) trivial
            simp only [List.length_drop] at I
            cases h1 : ps f .opd (x.drop 1 ++ y) with
            | out => exact ⟨fun e n h => (by cases h), fun n h => (by cases h)⟩
            | bad k =>
              refine ⟨fun e n h => (by cases h), fun n h hn => ?_⟩
              injection h with h
              rw [I.2 _ h1 (by omega), ← h]; rfl
            | ok g k =>
              refine ⟨fun e' n h hn hy => ?_, fun n h => (by cases h)⟩
              injection h with q1 q2
              rw [I.1 g k h1 (by omega) (fun hh => hy (by omega))]
              simp only [Rs.un, q1, q2]
          by_cases h1 : isS (hdT x) ⟨#[45]⟩ = true
          · simp only [if_pos h1]; exact U 1
          · simp only [if_neg h1]
            by_cases h2 : isS (hdT x) ⟨#[33]⟩ = true
            · simp only [if_pos h2]; exact U 2
            · simp only [if_neg h2]
              by_cases h3 : isS (hdT x) ⟨#[40]⟩ = true
              · simp only [if_pos h3]
                have I := ih (.exp 1) (x.drop 1) trivial
                simp only [List.length_drop] at I
                cases h1 : ps f (.exp 1) (x.drop 1 ++ y) with
                | out => exact ⟨fun e n h => (by cases h), fun n h => (by cases h)⟩
                | bad k =>
                  refine ⟨fun e n h => (by cases h), fun n h hn => ?_⟩
                  injection h with h
                  rw [I.2 _ h1 (by omega), ← h]; rfl
                | ok g k =>
                  simp only [Rs.up, Rs.thenLop]
                  constructor
                  · intro e' n h hn hy
                    by_cases h5 : isS (hdT ((x ++ y).drop (k + 1))) ⟨#[41]⟩ = true
                    · rw [if_pos h5] at h
                      injection h with q1 q2
                      have hk : k + 1 < x.length := by omega
                      rw [I.1 g k h1 (by omega) (fun hh => by omega)]
                      have hne : x.drop (k + 1) ≠ [] := fun hh => by
                        have := congrArg List.length hh
                        simp only [List.length_drop, List.length_nil] at this
                        omega
                      rw [(hdr (k + 1) (by omega)).1, hdT_app hne] at h5
                      simp only [Rs.up, Rs.thenLop, (hdr (k + 1) (Nat.le_of_lt hk)).2, hdT_app hne, if_pos h5, q1, q2]
                    · rw [if_neg h5] at h; cases h
                  · intro n h hn
                    by_cases h5 : isS (hdT ((x ++ y).drop (k + 1))) ⟨#[41]⟩ = true
                    · rw [if_pos h5] at h; cases h
                    · rw [if_neg h5] at h
                      injection h with q2
                      have hk : k + 1 < x.length := by omega
                      rw [I.1 g k h1 (by omega) (fun hh => by omega)]
                      have hne : x.drop (k + 1) ≠ [] := fun hh => by
                        have := congrArg List.length hh
                        simp only [List.length_drop, List.length_nil] at this
                        omega
                      rw [(hdr (k + 1) (by omega)).1, hdT_app hne] at h5
                      simp only [Rs.up, Rs.thenLop, (hdr (k + 1) (Nat.le_of_lt hk)).2, hdT_app hne, if_neg h5]
                      rw [q2]
              · simp only [if_neg h3]
                exact ⟨fun e' n h _ _ => h, fun n h _ => h⟩
/-- Where the tokens stand does not matter. -/
def st0 (t : Tk) : Tk := { t with a := 0 }
theorem hdT_st (l : List Tk) : hdT (l.map st0) = st0 (hdT l) := by cases l <;> rfl
theorem leafT_st (t : Tk) : leafT (st0 t) = leafT t := rfl
theorem opN_st (t : Tk) : opN (st0 t) = opN t := rfl
theorem isS_st (t : Tk) (x : ByteArray) : isS (st0 t) x = isS t x := rfl
theorem ps_st (f : Nat) : ∀ (m : Pm) (l : List Tk), ps f m (l.map st0) = ps f m l := by
  induction f with
  | zero => intro m l; rfl
  | succ f ih =>
    intro m l
    cases m <;> (unfold ps; simp only [hdT_st, leafT_st, opN_st, isS_st, ← List.map_drop, ih])
theorem ps_same {l l' : List Tk} (h : l.map st0 = l'.map st0) (f : Nat) (m : Pm) : ps f m l = ps f m l' := by rw [← ps_st f m l, h, ps_st]
end Go.Proofs.YtdgphhdkeikbaaaDoor
