/-
  The reader of expressions, as a plain function over tokens.
-/
import Derived.Test.YtdgphhdkeikbaaaDoorLxTok
import Derived.Lib.ItoaNum
namespace Go.Proofs.YtdgphhdkeikbaaaDoor
set_option linter.unusedSimpArgs false
set_option linter.unusedVariables false
open Go.RowKit

/-- Signs and precedences of the operators, and the text of a number. -/
def sgO (k : Int) : ByteArray := if k = 3 then ⟨#[43]⟩ else if k = 4 then ⟨#[45]⟩ else if k = 5 then ⟨#[42]⟩ else if k = 6 then ⟨#[47]⟩ else if k = 7 then ⟨#[37]⟩ else if k = 8 then ⟨#[61, 61]⟩ else if k = 9 then ⟨#[33, 61]⟩ else if k = 10 then ⟨#[60]⟩ else if k = 11 then ⟨#[60, 61]⟩ else if k = 12 then ⟨#[62]⟩ else if k = 13 then ⟨#[62, 61]⟩ else if k = 14 then ⟨#[38, 38]⟩ else ⟨#[124, 124]⟩
def pcP (k : Int) : Int := if k ≤ 2 then 6 else if k ≤ 4 then 4 else if k ≤ 7 then 5 else if k ≤ 13 then 3 else if k = 14 then 2 else 1
def dcT (v : Int) : ByteArray := ⟨(Lib.itoa v).toArray⟩
def hdT (l : List Tk) : Tk := l.headD zTk
def isS (t : Tk) (x : ByteArray) : Bool := decide (t.k = 3) && decide (t.t = x)
def opS (x : ByteArray) : Int := (([3, 4, 5, 6, 7, 8, 9, 10, 11, 12, 13, 14, 15] : List Int).find? fun o => decide (sgO o = x)).getD 0
def opN (t : Tk) : Int := if t.k = 3 then opS t.t else 0
def kwD : List LBy := [[97, 99, 113, 117, 105, 114, 101], [97, 100, 100], [97, 110, 121], [97, 114, 114, 105, 118, 101], [97, 115], [97, 115, 115, 101, 114, 116], [97, 116, 111, 109, 105, 99], [97, 119, 97, 105, 116], [98, 97, 114, 114, 105, 101, 114], [98, 101, 103, 105, 110], [98, 114, 111, 97, 100, 99, 97, 115, 116], [98, 117, 100, 103, 101, 116], [99, 97, 108, 108], [99, 97, 110, 99, 101, 108], [99, 104, 97, 110, 110, 101, 108], [99, 104, 101, 99, 107, 112, 111, 105, 110, 116], [99, 108, 101, 97, 110, 117, 112], [99, 108, 111, 115, 101], [99, 111, 109, 112, 108, 101, 116, 101], [99, 111, 110, 100], [100, 101, 97, 100, 108, 105, 110, 101], [100, 101, 102, 97, 117, 108, 116], [100, 101, 102, 101, 114], [101, 108, 115, 101], [101, 109, 105, 116], [101, 110, 100], [101, 118, 101, 114, 121], [102, 97, 105, 108], [102, 117, 110, 99], [102, 117, 116, 117, 114, 101], [105, 102], [108, 101, 116], [108, 105, 109, 105, 116, 101, 114], [108, 111, 99, 107], [109, 97, 115, 107], [109, 117, 116, 101, 120], [110, 101, 120, 116], [111, 110], [112, 114, 105, 111, 114, 105, 116, 121], [112, 117, 98, 108, 105, 115, 104], [114, 101, 97, 100, 108, 111, 99, 107], [114, 101, 97, 100, 117, 110, 108, 111, 99, 107], [114, 101, 99, 101, 105, 118, 101], [114, 101, 108, 101, 97, 115, 101], [114, 101, 112, 101, 97, 116], [114, 101, 116, 117, 114, 110], [114, 119, 108, 111, 99, 107], [115, 99, 111, 112, 101], [115, 101, 108, 101, 99, 116], [115, 101, 109, 97, 112, 104, 111, 114, 101], [115, 101, 110, 100], [115, 105, 103, 110, 97, 108], [115, 108, 101, 101, 112], [115, 112, 97, 119, 110], [115, 117, 98, 115, 99, 114, 105, 98, 101], [115, 119, 97, 112], [116, 97, 107, 101], [116, 97, 115, 107], [116, 111, 112, 105, 99], [116, 114, 121, 97, 99, 113, 117, 105, 114, 101], [116, 114, 121, 108, 111, 99, 107], [117, 110, 108, 111, 99, 107], [117, 110, 115, 117, 98, 115, 99, 114, 105, 98, 101], [118, 97, 114], [119, 97, 105, 116], [119, 104, 105, 108, 101], [119, 114, 105, 116, 101, 108, 111, 99, 107], [119, 114, 105, 116, 101, 117, 110, 108, 111, 99, 107], [121, 105, 101, 108, 100]]
def kwB (s : ByteArray) : Bool := kwD.contains s.data.toList
def leafT (t : Tk) : Option Ex :=
  if t.k = 2 then (if t.t = dcT t.v ∧ 0 ≤ t.v ∧ t.v ≤ 1099511627776 then some (.mk 1 0 .empty t.v []) else none)
  else if t.k = 1 then (if nmB t.t = true ∧ kwB t.t = false then some (.mk 2 0 t.t 0 []) else none)
  else none
def bnX (o : Int) (a b : Ex) : Ex := .mk 4 o .empty 0 [a, b]
def umX (o : Int) (a : Ex) : Ex := .mk 3 o .empty 0 [a]
inductive Rs where
  | ok (e : Ex) (n : Nat)
  | bad (n : Nat)
  | out
def Rs.up (d : Nat) : Rs → Rs
  | .ok e n => .ok e (n + d)
  | .bad n => .bad (n + d)
  | .out => .out
def Rs.un (o : Int) : Rs → Rs
  | .ok e n => .ok (umX o e) (n + 1)
  | .bad n => .bad (n + 1)
  | .out => .out
inductive Pm where
  | exp (p : Nat)
  | opd
  | lop (p : Nat) (e : Ex)
def Rs.thenLop (g : Ex → Nat → Rs) : Rs → Rs
  | .ok e n => g e n
  | .bad n => .bad n
  | .out => .out
def ps : Nat → Pm → List Tk → Rs
  | 0, _, _ => .out
  | f + 1, .exp p, l => if 5 < p then ps f .opd l else (ps f (.exp (p + 1)) l).thenLop fun e n => (ps f (.lop p e) (l.drop n)).up n
  | f + 1, .lop p e, l => if pcP (opN (hdT l)) ≠ p then .ok e 0 else ((ps f (.exp (p + 1)) (l.drop 1)).up 1).thenLop fun g n => if p = 3 then .ok (bnX (opN (hdT l)) e g) n else (ps f (.lop p (bnX (opN (hdT l)) e g)) (l.drop n)).up n
  | f + 1, .opd, l => match leafT (hdT l) with
    | some e => .ok e 1
    | none => if isS (hdT l) ⟨#[45]⟩ = true then (ps f .opd (l.drop 1)).un 1
      else if isS (hdT l) ⟨#[33]⟩ = true then (ps f .opd (l.drop 1)).un 2
      else if isS (hdT l) ⟨#[40]⟩ = true then ((ps f (.exp 1) (l.drop 1)).up 1).thenLop fun e n => if isS (hdT (l.drop n)) ⟨#[41]⟩ = true then .ok e (n + 1) else .bad n
      else .bad 0

theorem Rs.up_out {d : Nat} {r : Rs} : r.up d = .out ↔ r = .out := by cases r <;> simp [Rs.up]
theorem Rs.un_out {o : Int} {r : Rs} : r.un o = .out ↔ r = .out := by cases r <;> simp [Rs.un]
theorem ps_mono (f : Nat) : ∀ (m : Pm) (l : List Tk), ps f m l ≠ .out → ps (f + 1) m l = ps f m l := by
  induction f with
  | zero => intro m l h; exact absurd rfl h
  | succ f ih =>
    intro m l h
    cases m with
    | exp p =>
      rw [ps] at h ⊢
      conv => rhs; rw [ps]
      by_cases hp : 5 < p
      · rw [if_pos hp] at h
        rw [if_pos hp, if_pos hp, ih _ _ h]
      · rw [if_neg hp] at h
        rw [if_neg hp, if_neg hp]
        cases h1 : ps f (.exp (p + 1)) l with
        | out => rw [h1] at h; exact absurd rfl h
        | bad n => rw [ih _ _ (by rw [h1]; simp), h1]; rfl
        | ok e n =>
          rw [ih _ _ (by rw [h1]; simp), h1]
          rw [h1] at h
          simp only [Rs.thenLop] at h ⊢
          rw [ih _ _ (fun hh => h (Rs.up_out.2 hh))]
    | lop p e =>
      rw [ps] at h ⊢
      conv => rhs; rw [ps]
      by_cases hp : pcP (opN (hdT l)) ≠ p
      · rw [if_pos hp, if_pos hp]
      · rw [if_neg hp] at h
        rw [if_neg hp, if_neg hp]
        cases h1 : ps f (.exp (p + 1)) (l.drop 1) with
        | out => rw [h1] at h; exact absurd rfl h
        | bad n => rw [ih _ _ (by rw [h1]; simp), h1]; rfl
        | ok g n =>
          rw [ih _ _ (by rw [h1]; simp), h1]
          rw [h1] at h
          simp only [Rs.thenLop, Rs.up] at h ⊢
          by_cases h3 : p = 3
          · rw [if_pos h3, if_pos h3]
          · rw [if_neg h3] at h
            rw [if_neg h3, if_neg h3, ih _ _ (fun hh => h (Rs.up_out.2 hh))]
    | opd =>
      rw [ps] at h ⊢
      conv => rhs; rw [ps]
      cases h0 : leafT (hdT l) with
      | some e => rfl
      | none =>
        rw [h0] at h
        simp only at h ⊢
        by_cases h1 : isS (hdT l) ⟨#[45]⟩ = true
        · rw [if_pos h1] at h
          rw [if_pos h1, if_pos h1, ih _ _ (fun hh => h (Rs.un_out.2 hh))]
        · rw [if_neg h1] at h
          rw [if_neg h1, if_neg h1]
          by_cases h2 : isS (hdT l) ⟨#[33]⟩ = true
          · rw [if_pos h2] at h
            rw [if_pos h2, if_pos h2, ih _ _ (fun hh => h (Rs.un_out.2 hh))]
          · rw [if_neg h2] at h
            rw [if_neg h2, if_neg h2]
            by_cases h3 : isS (hdT l) ⟨#[40]⟩ = true
            · rw [if_pos h3] at h
              rw [if_pos h3, if_pos h3]
              cases h4 : ps f (.exp 1) (l.drop 1) with
              | out => rw [h4] at h; exact absurd rfl h
              | bad n => rw [ih _ _ (by rw [h4]; simp), h4]
              | ok e n => rw [ih _ _ (by rw [h4]; simp), h4]
            · rw [if_neg h3, if_neg h3]
theorem ps_le {f g : Nat} (h : f ≤ g) {m : Pm} {l : List Tk} (ho : ps f m l ≠ .out) : ps g m l = ps f m l := by
  induction g with
  | zero => obtain rfl : f = 0 := by omega
            rfl
  | succ g ih =>
    rcases Nat.lt_or_ge g f with hh | hh
    · obtain rfl : f = g + 1 := by omega
      rfl
    · rw [ps_mono g m l (by rw [ih hh]; exact ho), ih hh]
theorem ps_det {f g : Nat} {m : Pm} {l : List Tk} (h : ps f m l ≠ .out) (k : ps g m l ≠ .out) : ps f m l = ps g m l := by
  rcases Nat.le_total f g with hh | hh
  · exact (ps_le hh h).symm
  · exact ps_le hh k
theorem hdT_nil : hdT [] = zTk := rfl
theorem hdT_cons (t : Tk) (l : List Tk) : hdT (t :: l) = t := rfl
theorem leafT_z : leafT zTk = none := by decide
theorem opN_z : opN zTk = 0 := by decide
theorem isS_z (x : ByteArray) : isS zTk x = false := by unfold isS zTk; simp
theorem opS_cases (x : ByteArray) : opS x = 0 ∨ (3 ≤ opS x ∧ opS x ≤ 15 ∧ sgO (opS x) = x) := by
  unfold opS
  cases h : ([3, 4, 5, 6, 7, 8, 9, 10, 11, 12, 13, 14, 15] : List Int).find? fun o => decide (sgO o = x) with
  | none => left; rfl
  | some o =>
    right
    have h1 := List.find?_some h
    have h2 := List.mem_of_find?_eq_some h
    simp only [decide_eq_true_eq] at h1
    simp only [List.mem_cons, List.not_mem_nil, or_false] at h2
    exact ⟨by simp only [Option.getD_some]; omega, by simp only [Option.getD_some]; omega, h1⟩
theorem pc_opN {t : Tk} {p : Nat} (hp : p ≤ 5) (h : pcP (opN t) = p) : t.k = 3 ∧ 3 ≤ opN t ∧ opN t ≤ 15 ∧ t.t = sgO (opN t) := by
  unfold opN at h ⊢
  by_cases h3 : t.k = 3
  · rw [if_pos h3] at h ⊢
    rcases opS_cases t.t with h0 | ⟨h1, h2, h4⟩
    · rw [h0] at h
      have : pcP 0 = 6 := by decide
      omega
    · exact ⟨h3, h1, h2, h4.symm⟩
  · rw [if_neg h3] at h
    have : pcP 0 = 6 := by decide
    omega
theorem hdT_ne {l : List Tk} (h : hdT l ≠ zTk) : 1 ≤ l.length := by
  cases l with
  | nil => exact absurd rfl h
  | cons a r => simp
/-- What is read has a token at least, and lies in the list. -/
def RsOk (m : Pm) (l : List Tk) : Rs → Prop
  | .ok _ n => n ≤ l.length ∧ (match m with
    | .lop _ _ => True
    | _ => 1 ≤ n)
  | .bad n => n ≤ l.length
  | .out => True
theorem ps_ok (f : Nat) : ∀ (m : Pm) (l : List Tk), (match m with
    | .lop p _ => p ≤ 5
    | _ => True) → RsOk m l (ps f m l) := by
  induction f with
  | zero => intro m l _; trivial
  | succ f ih =>
    intro m l hm
    cases m with
    | exp p =>
      rw [ps]
      by_cases hp : 5 < p
      · rw [if_pos hp]
        have := ih .opd l trivial
        cases h1 : ps f .opd l <;> rw [h1] at this <;> exact this
      · rw [if_neg hp]
        have h := ih (.exp (p + 1)) l trivial
        cases h1 : ps f (.exp (p + 1)) l with
        | out => trivial
        | bad n => rw [h1] at h; exact h
        | ok e n =>
          rw [h1] at h
          simp only [RsOk, Rs.thenLop] at h ⊢
          have k := ih (.lop p e) (l.drop n) (by show p ≤ 5; omega)
          cases h2 : ps f (.lop p e) (l.drop n) with
          | out => trivial
          | bad m => rw [h2] at k; simp only [RsOk, Rs.up, List.length_drop] at k ⊢; omega
          | ok x m => rw [h2] at k; simp only [RsOk, Rs.up, List.length_drop] at k ⊢; omega
    | lop p e =>
      change p ≤ 5 at hm
      rw [ps]
      by_cases hp : pcP (opN (hdT l)) ≠ p
      · rw [if_pos hp]
        exact ⟨Nat.zero_le _, trivial⟩
      · rw [if_neg hp]
        have hk := (pc_opN hm (by simpa using hp)).1
        have hl : 1 ≤ l.length := hdT_ne (fun e => by rw [e] at hk; exact absurd hk (by decide))
        have h := ih (.exp (p + 1)) (l.drop 1) trivial
        cases h1 : ps f (.exp (p + 1)) (l.drop 1) with
        | out => trivial
        | bad n => rw [h1] at h; simp only [RsOk, Rs.up, Rs.thenLop, List.length_drop] at h ⊢; omega
        | ok g n =>
          rw [h1] at h
          simp only [RsOk, Rs.thenLop, Rs.up, List.length_drop] at h ⊢
          by_cases h3 : p = 3
          · rw [if_pos h3]
            exact ⟨by omega, trivial⟩
          · rw [if_neg h3]
            have k := ih (.lop p (bnX (opN (hdT l)) e g)) (l.drop (n + 1)) hm
            cases h2 : ps f (.lop p (bnX (opN (hdT l)) e g)) (l.drop (n + 1)) with
            | out => trivial
            | bad m => rw [h2] at k; simp only [RsOk, Rs.up, List.length_drop] at k ⊢; omega
            | ok x m => rw [h2] at k; simp only [RsOk, Rs.up, List.length_drop] at k ⊢; exact ⟨by omega, trivial⟩
    | opd =>
      rw [ps]
      have hne : ∀ {P : Prop}, (hdT l ≠ zTk → P) → (hdT l = zTk → P) → P := fun a b => (Classical.em (hdT l = zTk)).elim b a
      cases h0 : leafT (hdT l) with
      | some e =>
        have hl : 1 ≤ l.length := hdT_ne (fun e => by rw [e, leafT_z] at h0; cases h0)
        exact ⟨hl, Nat.le_refl 1⟩
      | none =>
        simp only
        have hx : ∀ x, isS (hdT l) x = true → 1 ≤ l.length := fun x h => hdT_ne (fun e => by rw [e, isS_z] at h; cases h)
        have hun : ∀ o, 1 ≤ l.length → RsOk .opd l ((ps f .opd (l.drop 1)).un o) := fun o hl => by
          have h := ih .opd (l.drop 1) trivial
          cases h1 : ps f .opd (l.drop 1) with
          | out => trivial
          | bad n => rw [h1] at h; simp only [RsOk, Rs.un, List.length_drop] at h ⊢; omega
          | ok e n => rw [h1] at h; simp only [RsOk, Rs.un, List.length_drop] at h ⊢; omega
        by_cases h1 : isS (hdT l) ⟨#[45]⟩ = true
        · rw [if_pos h1]; exact hun 1 (hx _ h1)
        · rw [if_neg h1]
          by_cases h2 : isS (hdT l) ⟨#[33]⟩ = true
          · rw [if_pos h2]; exact hun 2 (hx _ h2)
          · rw [if_neg h2]
            by_cases h3 : isS (hdT l) ⟨#[40]⟩ = true
            · rw [if_pos h3]
              have hl := hx _ h3
              have h := ih (.exp 1) (l.drop 1) trivial
              cases h4 : ps f (.exp 1) (l.drop 1) with
              | out => trivial
              | bad n => rw [h4] at h; simp only [RsOk, Rs.up, Rs.thenLop, List.length_drop] at h ⊢; omega
              | ok e n =>
                rw [h4] at h
                simp only [RsOk, Rs.up, Rs.thenLop, List.length_drop] at h ⊢
                by_cases h5 : isS (hdT (l.drop (n + 1))) ⟨#[41]⟩ = true
                · rw [if_pos h5]
                  have h6 : 1 ≤ (l.drop (n + 1)).length := hdT_ne (fun e => by rw [e, isS_z] at h5; cases h5)
                  simp only [List.length_drop] at h6
                  exact ⟨by omega, by omega⟩
                · rw [if_neg h5]
                  show n + 1 ≤ l.length
                  omega
            · rw [if_neg h3]
              exact Nat.zero_le _
def muP : Pm → Nat
  | .exp p => 7 - p
  | _ => 0
theorem ps_some (f : Nat) : ∀ (m : Pm) (l : List Tk), (match m with
    | .lop p _ => 1 ≤ p ∧ p ≤ 5
    | .exp p => 1 ≤ p ∧ p ≤ 6
    | .opd => True) → 8 * l.length + muP m < f → ps f m l ≠ .out := by
  induction f with
  | zero => intro m l _ h; omega
  | succ f ih =>
    intro m l hm hf
    cases m with
    | exp p =>
      change 1 ≤ p ∧ p ≤ 6 at hm
      simp only [muP] at hf
      rw [ps]
      by_cases hp : 5 < p
      · rw [if_pos hp]
        exact ih .opd l trivial (by simp only [muP]; omega)
      · rw [if_neg hp]
        have h := ih (.exp (p + 1)) l ⟨by omega, by omega⟩ (by simp only [muP]; omega)
        have h' := ps_ok f (.exp (p + 1)) l trivial
        cases h1 : ps f (.exp (p + 1)) l with
        | out => exact absurd h1 h
        | bad n => intro e; cases e
        | ok e n =>
          rw [h1] at h'
          simp only [RsOk] at h'
          intro hh
          simp only [Rs.thenLop, Rs.up_out] at hh
          exact ih (.lop p e) (l.drop n) ⟨by omega, by omega⟩ (by simp only [muP, List.length_drop]; omega) hh
    | lop p e =>
      change 1 ≤ p ∧ p ≤ 5 at hm
      simp only [muP] at hf
      rw [ps]
      by_cases hp : pcP (opN (hdT l)) ≠ p
      · rw [if_pos hp]; intro e; cases e
      · rw [if_neg hp]
        have hk := (pc_opN hm.2 (by simpa using hp)).1
        have hl : 1 ≤ l.length := hdT_ne (fun e => by rw [e] at hk; exact absurd hk (by decide))
        have h := ih (.exp (p + 1)) (l.drop 1) ⟨by omega, by omega⟩ (by simp only [muP, List.length_drop]; omega)
        cases h1 : ps f (.exp (p + 1)) (l.drop 1) with
        | out => exact absurd h1 h
        | bad n => intro e; cases e
        | ok g n =>
          intro hh
          simp only [Rs.thenLop, Rs.up] at hh
          by_cases h3 : p = 3
          · rw [if_pos h3] at hh; cases hh
          · rw [if_neg h3] at hh
            replace hh := Rs.up_out.1 hh
            exact ih (.lop p (bnX (opN (hdT l)) e g)) (l.drop (n + 1)) hm (by simp only [muP, List.length_drop]; omega) hh
    | opd =>
      simp only [muP] at hf
      rw [ps]
      cases h0 : leafT (hdT l) with
      | some e => intro e; cases e
      | none =>
        simp only
        have hx : ∀ x, isS (hdT l) x = true → 1 ≤ l.length := fun x h => hdT_ne (fun e => by rw [e, isS_z] at h; cases h)
        have hun : ∀ o, 1 ≤ l.length → (ps f .opd (l.drop 1)).un o ≠ .out := fun o hl hh =>
          ih .opd (l.drop 1) trivial (by simp only [muP, List.length_drop]; omega) (Rs.un_out.1 hh)
        by_cases h1 : isS (hdT l) ⟨#[45]⟩ = true
        · rw [if_pos h1]; exact hun 1 (hx _ h1)
        · rw [if_neg h1]
          by_cases h2 : isS (hdT l) ⟨#[33]⟩ = true
          · rw [if_pos h2]; exact hun 2 (hx _ h2)
          · rw [if_neg h2]
            by_cases h3 : isS (hdT l) ⟨#[40]⟩ = true
            · rw [if_pos h3]
              have hl := hx _ h3
              have h := ih (.exp 1) (l.drop 1) ⟨by omega, by omega⟩ (by simp only [muP, List.length_drop]; omega)
              cases h4 : ps f (.exp 1) (l.drop 1) with
              | out => exact absurd h4 h
              | bad n => intro e; cases e
              | ok e n =>
                intro hh
                simp only [Rs.thenLop, Rs.up] at hh
                split at hh <;> cases hh
            · rw [if_neg h3]; intro e; cases e
/-- Reading with enough fuel. -/
def pE (l : List Tk) : Rs := ps (8 * l.length + 8) (.exp 1) l
theorem pE_ne (l : List Tk) : pE l ≠ .out := ps_some _ _ _ ⟨by omega, by omega⟩ (by simp only [muP]; omega)
theorem pE_of {f : Nat} {l : List Tk} (h : ps f (.exp 1) l ≠ .out) : ps f (.exp 1) l = pE l := ps_det h (pE_ne l)
end Go.Proofs.YtdgphhdkeikbaaaDoor
