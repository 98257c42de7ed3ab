/-
  What Expr and Parse return.
-/
import Derived.Test.YtdgphhdkeikbaaaDoorLxRead2
import Derived.Test.YtdgphhdkeikbaaaDoorLxOff
namespace Go.Proofs.YtdgphhdkeikbaaaDoor
set_option linter.unusedSimpArgs false
set_option linter.unusedVariables false
open Go.RowKit

/-- What is read is an expression of names, numbers and operators. -/
inductive ShE : Ex → Prop
  | num (v : Int) (h : 0 ≤ v) (h2 : v ≤ 1099511627776) : ShE (.mk 1 0 .empty v [])
  | nam (s : ByteArray) (h : nmB s = true) (h2 : kwB s = false) : ShE (.mk 2 0 s 0 [])
  | un (o : Int) (a : Ex) (h : o = 1 ∨ o = 2) (ha : ShE a) : ShE (umX o a)
  | bin (o : Int) (a b : Ex) (h : 3 ≤ o) (h2 : o ≤ 15) (ha : ShE a) (hb : ShE b) : ShE (bnX o a b)
theorem nmB_sz {s : ByteArray} (h : nmB s = true) : s.size ≤ 30 := by
  unfold nmB at h
  have : s.size = s.data.toList.length := (list_len s).symm
  cases hs : s.data.toList with
  | nil => rw [hs] at h; cases h
  | cons c r =>
    rw [hs] at h this
    simp only [Bool.and_eq_true, decide_eq_true_eq] at h
    rw [this, List.length_cons]
    exact h.1.1
theorem emp_sz : (ByteArray.empty).size ≤ 9223372036854775807 := by decide
theorem ShE.fit {e : Ex} (h : ShE e) : fitE e := by
  induction h with
  | num v h h2 => exact ⟨emp_sz, trivial⟩
  | nam s h h2 => exact ⟨by have := nmB_sz h; omega, trivial⟩
  | un o a h ha ih => exact ⟨emp_sz, ih, trivial⟩
  | bin o a b h h2 ha hb i1 i2 => exact ⟨emp_sz, i1, i2, trivial⟩

/-- No end among the first n. -/
def Nk (l : List Tk) (n : Nat) : Prop := ∀ t ∈ l.take n, t.k ≠ 0
theorem Nk.zero (l : List Tk) : Nk l 0 := fun t h => by simp at h
theorem Nk.add {l : List Tk} {a b : Nat} (h : Nk l a) (k : Nk (l.drop a) b) : Nk l (b + a) := fun t ht => by
  rw [Nat.add_comm, List.take_add] at ht
  rcases List.mem_append.1 ht with ht | ht
  · exact h t ht
  · exact k t ht
theorem Nk.one {l : List Tk} (h : (hdT l).k ≠ 0) : Nk l 1 := fun t ht => by
  cases l with
  | nil => simp at ht
  | cons a r =>
    obtain rfl : t = a := by simpa using ht
    exact h
def RsSh (l : List Tk) : Rs → Prop
  | .ok e n => Nk l n ∧ ShE e
  | .bad n => Nk l n
  | .out => True
theorem RsSh.up {l : List Tk} {d : Nat} {r : Rs} (h : RsSh (l.drop d) r) (k : Nk l d) : RsSh l (r.up d) := by
  cases r with
  | ok e n => exact ⟨k.add h.1, h.2⟩
  | bad n => exact k.add h
  | out => trivial
theorem RsSh.un {l : List Tk} {o : Int} {r : Rs} (h : RsSh (l.drop 1) r) (k : Nk l 1) (ho : o = 1 ∨ o = 2) : RsSh l (r.un o) := by
  cases r with
  | ok e n => exact ⟨k.add h.1, .un o e ho h.2⟩
  | bad n => exact k.add h
  | out => trivial
theorem isS_k {t : Tk} {x : ByteArray} (h : isS t x = true) : t.k ≠ 0 := by
  unfold isS at h
  simp only [Bool.and_eq_true, decide_eq_true_eq] at h
  rw [h.1]; decide
theorem leafT_sh {t : Tk} {e : Ex} (h : leafT t = some e) : t.k ≠ 0 ∧ ShE e := by
  unfold leafT at h
  by_cases h2 : t.k = 2
  · rw [if_pos h2] at h
    split at h
    · rename_i h3
      injection h with h
      subst h
      exact ⟨by rw [h2]; decide, .num _ h3.2.1 h3.2.2⟩
    · cases h
  · rw [if_neg h2] at h
    by_cases h1 : t.k = 1
    · rw [if_pos h1] at h
      split at h
      · rename_i h3
        injection h with h
        subst h
        exact ⟨by rw [h1]; decide, .nam _ h3.1 h3.2⟩
      · cases h
    · rw [if_neg h1] at h; cases h
theorem ps_sh (f : Nat) : ∀ (m : Pm) (l : List Tk), (match m with
    | .lop p e => p ≤ 5 ∧ ShE e
    | _ => True) → RsSh l (ps f m l) := by
  induction f with
  | zero => intro m l _; trivial
  | succ f ih =>
    intro m l hm
    cases m with
    | exp p =>
      rw [ps]
      by_cases hp : 5 < p
      · rw [if_pos hp]; exact ih .opd l trivial
      · rw [if_neg hp]
        have h := ih (.exp (p + 1)) l trivial
        cases h1 : ps f (.exp (p + 1)) l with
        | out => trivial
        | bad n => rw [h1] at h; exact h
        | ok e n =>
          rw [h1] at h
          exact RsSh.up (ih (.lop p e) (l.drop n) ⟨by omega, h.2⟩) h.1
    | lop p e =>
      change p ≤ 5 ∧ ShE e at hm
      rw [ps]
      by_cases hp : pcP (opN (hdT l)) ≠ p
      · rw [if_pos hp]; exact ⟨Nk.zero l, hm.2⟩
      · rw [if_neg hp]
        obtain ⟨q1, q2, q3, _⟩ := pc_opN hm.1 (by simpa using hp)
        have hk : Nk l 1 := Nk.one (by rw [q1]; decide)
        have h := RsSh.up (ih (.exp (p + 1)) (l.drop 1) trivial) hk
        cases h1 : (ps f (.exp (p + 1)) (l.drop 1)).up 1 with
        | out => trivial
        | bad n => rw [h1] at h; exact h
        | ok g n =>
          rw [h1] at h
          have hb : ShE (bnX (opN (hdT l)) e g) := .bin _ _ _ q2 q3 hm.2 h.2
          simp only [Rs.thenLop]
          by_cases h3 : p = 3
          · rw [if_pos h3]; exact ⟨h.1, hb⟩
          · rw [if_neg h3]; exact RsSh.up (ih (.lop p _) (l.drop n) ⟨hm.1, hb⟩) h.1
    | opd =>
      rw [ps]
      cases h0 : leafT (hdT l) with
      | some e => exact ⟨Nk.one (leafT_sh h0).1, (leafT_sh h0).2⟩
      | none =>
        simp only
        by_cases h1 : isS (hdT l) ⟨#[45]⟩ = true
        · rw [if_pos h1]; exact RsSh.un (ih .opd (l.drop 1) trivial) (Nk.one (isS_k h1)) (.inl rfl)
        · rw [if_neg h1]
          by_cases h2 : isS (hdT l) ⟨#[33]⟩ = true
          · rw [if_pos h2]; exact RsSh.un (ih .opd (l.drop 1) trivial) (Nk.one (isS_k h2)) (.inr rfl)
          · rw [if_neg h2]
            by_cases h3 : isS (hdT l) ⟨#[40]⟩ = true
            · rw [if_pos h3]
              have h := RsSh.up (ih (.exp 1) (l.drop 1) trivial) (Nk.one (isS_k h3))
              cases h4 : (ps f (.exp 1) (l.drop 1)).up 1 with
              | out => trivial
              | bad n => rw [h4] at h; exact h
              | ok e n =>
                rw [h4] at h
                simp only [Rs.thenLop]
                by_cases h5 : isS (hdT (l.drop n)) ⟨#[41]⟩ = true
                · rw [if_pos h5]
                  refine ⟨?_, h.2⟩
                  rw [Nat.add_comm]
                  exact h.1.add (Nk.one (isS_k h5))
                · rw [if_neg h5]; exact h.1
            · rw [if_neg h3]; exact Nk.zero l
theorem pE_sh (l : List Tk) : RsSh l (pE l) := ps_sh _ _ _ trivial
theorem pE_ok (l : List Tk) : RsOk (.exp 1) l (pE l) := ps_ok _ _ _ trivial

/-! ### Tokens of a text -/
theorem lx_all (P : Tk → Prop) (hE : ∀ a, P ⟨0, .empty, 0, a⟩) (hO : ∀ (l : LBy) (k : Int) (n v a : Nat), one l = .tk k n v → P ⟨k, bB (l.take n), v, a⟩) (f : Nat) : ∀ (l : LBy) (a : Nat) (acc m : List Tk) (i : Nat), (∀ t ∈ acc, P t) → lx f l a acc = (m, i, 0) → ∀ t ∈ m, P t := by
  induction f with
  | zero =>
    intro l a acc m i _ h t ht
    injection h with h _
    rw [← h] at ht; cases ht
  | succ f ih =>
    intro l a acc m i hacc h
    have hsn : ∀ x, P x → ∀ t ∈ acc ++ [x], P t := fun x hx t ht => by
      rcases List.mem_append.1 ht with h1 | h1
      · exact hacc t h1
      · obtain rfl : t = x := by simpa using h1
        exact hx
    cases l with
    | nil =>
      injection h with h _
      rw [← h]
      exact hsn _ (hE a)
    | cons c r =>
      rw [lx] at h
      by_cases h1 : isSp c = true
      · rw [if_pos h1] at h; exact ih _ _ _ _ _ hacc h
      · rw [if_neg h1] at h
        by_cases h2 : c = 35
        · rw [if_pos h2] at h; exact ih _ _ _ _ _ hacc h
        · rw [if_neg h2] at h
          cases h3 : one (c :: r) with
          | er e =>
            rw [h3] at h
            injection h with h _
            intro t ht
            rw [← h] at ht; cases ht
          | tk k n v =>
            rw [h3] at h
            exact ih _ _ _ _ _ (hsn _ (hO _ _ _ _ _ h3)) h
theorem one_v {l : LBy} {k : Int} {n v : Nat} (h : one l = .tk k n v) : v ≤ 1099511627776 := by
  unfold one at h
  cases l with
  | nil => cases h
  | cons c r =>
    simp only at h
    split at h
    · split at h
      · cases h
      · injection h with _ _ h; omega
    · split at h
      · split at h
        · cases h
        · split at h
          · cases h
          · injection h with _ _ h; omega
      · split at h
        · cases h
        · injection h with _ _ h; omega
theorem OffR_all {L : LBy} : ∀ {m : List Tk} {e : Nat}, OffR L e m → ∀ t ∈ m, t.t.size ≤ L.length ∧ t.a ≤ L.length := by
  intro m
  induction m with
  | nil => intro e h; exact absurd h id
  | cons x r ih =>
    intro e h t ht
    rcases List.mem_cons.1 ht with rfl | ht
    · exact ⟨by have := h.2.2.2.2.1; omega, h.2.1⟩
    · cases r with
      | nil => cases ht
      | cons y r => exact ih h.2.2.2.2.2.2.2 t ht
theorem size_ne {s : ByteArray} (h : s ≠ .empty) : 1 ≤ s.size := by
  rcases Nat.eq_zero_or_pos s.size with h0 | h0
  · exact absurd (by
      cases s with
      | mk d =>
        have : d = #[] := Array.eq_empty_of_size_eq_zero h0
        rw [this]; rfl) h
  · exact h0
theorem OffR_len {L : LBy} : ∀ {m : List Tk} {e : Nat}, OffR L e m → e + m.length ≤ L.length + 1 := by
  intro m
  induction m with
  | nil => intro e h; exact absurd h id
  | cons x r ih =>
    intro e h
    obtain ⟨h1, h2, h3, h4, h5, h6⟩ := h
    cases r with
    | nil => simp only [List.length_cons, List.length_nil]; omega
    | cons y r =>
      have := ih h6.2.2
      have := size_ne h6.2.1
      simp only [List.length_cons] at *
      omega
theorem OffR_last {L : LBy} : ∀ {m : List Tk} {e : Nat}, OffR L e m → ∃ m', m = m' ++ [⟨0, .empty, (m.getLast?.getD zTk).v, L.length⟩] ∧ ∀ x ∈ m', x.k ≠ 0 ∧ x.t ≠ .empty := by
  intro m
  induction m with
  | nil => intro e h; exact absurd h id
  | cons x r ih =>
    intro e h
    obtain ⟨h1, h2, h3, h4, h5, h6⟩ := h
    cases r with
    | nil =>
      refine ⟨[], ?_, fun y hy => by cases hy⟩
      obtain ⟨q1, q2, q3⟩ := h6
      cases x with
      | mk k t v a =>
        simp only at q1 q2 q3
        subst q1 q2 q3
        rfl
    | cons y r =>
      obtain ⟨m', e1, e2⟩ := ih h6.2.2
      refine ⟨x :: m', ?_, fun z hz => ?_⟩
      · rw [List.cons_append, List.getLast?_cons_cons, ← e1]
      · rcases List.mem_cons.1 hz with rfl | hz
        · exact ⟨h6.1, h6.2.1⟩
        · exact e2 z hz
/-- What is known of the tokens of a text. -/
structure LexOk (s : ByteArray) (ts : List Tk) : Prop where
  off : OffR s.data.toList 0 ts
  len : ts.length ≤ 4001
  tok : TokOk ts
  at_ : ∀ t ∈ ts, t.a ≤ s.size
theorem lexT_ok {s : ByteArray} {ts : List Tk} {i : Nat} (h : lexT s = (ts, i, 0)) : LexOk s ts ∧ i = 0 := by
  obtain ⟨h1, h2⟩ := lexT_off h
  have hs : s.size ≤ 4000 := by
    unfold lexT at h
    split at h
    · injection h with _ h; injection h with _ h; exact absurd h (by decide)
    · omega
  have hL : s.data.toList.length = s.size := list_len s
  have hv : ∀ t ∈ ts, 0 ≤ t.v ∧ t.v ≤ 1099511627776 := by
    unfold lexT at h
    rw [if_neg (by omega)] at h
    refine lx_all (fun t => 0 ≤ t.v ∧ t.v ≤ 1099511627776) (fun a => ⟨by simp, by simp⟩) (fun l k n v a h => ?_) _ _ _ [] _ _ (fun t h => by cases h) h
    have := one_v h
    constructor <;> (simp only; omega)
  refine ⟨⟨h1, by have := OffR_len h1; rw [hL] at this; omega, fun j hj => ?_, fun t ht => hL ▸ (OffR_all h1 t ht).2⟩, h2⟩
  have hm : gk ts j ∈ ts := by unfold gk; rw [List.getElem?_eq_getElem hj]; exact List.getElem_mem hj
  have a := OffR_all h1 _ hm
  have b := hv _ hm
  rw [hL] at a
  exact ⟨by omega, by omega, by omega⟩
theorem LexOk.lt {s : ByteArray} {ts : List Tk} (h : LexOk s ts) {n : Nat} (hn : n ≤ ts.length) (hk : Nk ts n) : n < ts.length := by
  rcases Nat.lt_or_ge n ts.length with h' | h'
  · exact h'
  · obtain rfl : n = ts.length := by omega
    obtain ⟨m', e1, _⟩ := OffR_last h.off
    exact absurd rfl (hk ⟨0, .empty, (ts.getLast?.getD zTk).v, s.data.toList.length⟩ (by
      rw [List.take_of_length_le (Nat.le_refl _)]
      have : ∀ x m', ts = m' ++ [x] → x ∈ ts := fun x m' e => by rw [e]; simp
      exact this _ _ e1))
theorem LexOk.rs {s : ByteArray} {ts : List Tk} (h : LexOk s ts) : (rdF (pE ts)).2.1 < ts.length := by
  have h1 := pE_sh ts
  have h2 := pE_ok ts
  have h3 := pE_ne ts
  cases hp : pE ts with
  | out => exact absurd hp h3
  | ok e n =>
    rw [hp] at h1 h2
    exact h.lt h2.1 h1.1
  | bad n =>
    rw [hp] at h1 h2
    exact h.lt h2 h1

/-! ### What they return -/
def exF (ts : List Tk) : Ex × Nat × Int := if 4001 < ts.length then (zeroX, 0, 4) else match pE ts with
  | .ok e n => if ckE e = 0 then (e, n, 0) else (zeroX, 0, ckE e)
  | .bad n => (zeroX, n, 3)
  | .out => (zeroX, 0, 0)
def psF (s : ByteArray) : Ex × Nat × Int := if (lexT s).2.2 ≠ 0 then (zeroX, (lexT s).2.1, (lexT s).2.2) else match pE (lexT s).1 with
  | .ok e n => if (gk (lexT s).1 n).k ≠ 0 then (zeroX, (gk (lexT s).1 n).a, 3) else if ckE e = 0 then (e, 0, 0) else (zeroX, 0, ckE e)
  | .bad n => (zeroX, (gk (lexT s).1 n).a, 3)
  | .out => (zeroX, 0, 0)
end Go.Proofs.YtdgphhdkeikbaaaDoor
