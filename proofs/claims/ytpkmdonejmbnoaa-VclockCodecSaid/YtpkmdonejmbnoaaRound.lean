/-
  The plain mathematics of round trips: reading an encoding yields the value; what can be read is the encoding of the result.
-/
import Derived.Test.YtpkmdonejmbnoaaReadListB
namespace Go.Proofs.Ytpkmdonejmbnoaa
open Go.RowKit

/-! ### Lists -/

theorem escText_cons (c : UInt8) (t : List UInt8) : escText (c :: t) = (if c = 0 then [0, 255] else [c]) ++ escText t := by simp [escText]

theorem encInt_head_ne (n : Int) (h : InR n) (rest : List UInt8) : ∃ c r, encInt n ++ rest = c :: r ∧ c ≠ 1 := by
  refine ⟨_, _, rfl, ?_⟩
  have h8 := mag8 (m := magOf n) (by have := magOf_le h; omega)
  have hk : ∀ k : Fin 9, UInt8.ofNat (128 + k.val) ^^^ 0 ≠ 1 ∧ UInt8.ofNat (128 + k.val) ^^^ 255 ≠ 1 := by decide +kernel
  have := hk ⟨(mag (magOf n)).length, by omega⟩
  rcases invOf_cases n with ⟨e, _⟩ | ⟨e, _⟩
  · rw [e]; exact this.1
  · rw [e]; exact this.2

theorem encList_cons (n : Int) (zs : List Int) : encList (n :: zs) = encInt n ++ encList zs := by simp [encList]

theorem decLf_encList (F : Nat) (zs : List Int) (rest : List UInt8) (out : List Int) (p : Nat) (hr : AllR zs) (hF : (encList zs ++ rest).length < F) (h : out.length + zs.length ≤ maxL) :
    decLf F (encList zs ++ rest) out p = .ok (out ++ zs) (p + (encList zs).length) := by
  induction zs generalizing F out p with
  | nil =>
    cases F with
    | zero => omega
    | succ F =>
      have e : encList [] ++ rest = 1 :: rest := rfl
      rw [e, decLf_cons, if_pos rfl, List.append_nil]; rfl
  | cons n zs ih =>
    simp only [List.length_cons] at h
    cases F with
    | zero => omega
    | succ F =>
      rw [encList_cons, List.append_assoc] at hF ⊢
      have hn := hr n (by simp)
      obtain ⟨c, r, e, hc⟩ := encInt_head_ne n hn (encList zs ++ rest)
      have hd := decInt_encInt n hn (encList zs ++ rest)
      have hp := encInt_length_pos n
      have hdrop : (encInt n ++ (encList zs ++ rest)).drop (encInt n).length = encList zs ++ rest := by simp
      rw [e] at hd hdrop ⊢
      rw [decLf_cons, if_neg hc, if_neg (by omega), hd, Rd.bind, hdrop]
      rw [ih F _ _ (fun x hx => hr x (by simp [hx])) (by simp only [List.length_append] at hF ⊢; omega) (by simp; omega)]
      rw [List.append_assoc, List.singleton_append, List.length_append, Nat.add_assoc]

theorem decLf_canonical {F : Nat} {l : List UInt8} {out x : List Int} {p k : Nat} (ho : out.length ≤ maxL) (h : decLf F l out p = .ok x k) : ∃ zs, x = out ++ zs ∧ x.length ≤ maxL ∧ AllR zs ∧ p ≤ k ∧ k - p ≤ l.length ∧ encList zs = l.take (k - p) ∧ 1 ≤ k - p := by
  induction F generalizing l out p with
  | zero => rw [decLf] at h; cases h
  | succ F ih =>
    cases l with
    | nil => rw [decLf_nil] at h; cases h
    | cons c r =>
      rw [decLf_cons] at h
      by_cases h1 : c = 1
      · subst h1
        rw [if_pos rfl] at h
        injection h with h2 h3
        subst h2; subst h3
        refine ⟨[], by simp, ho, by intro n hn; simp at hn, by omega, by simp only [List.length_cons]; omega, ?_, by omega⟩
        rw [show p + 1 - p = 1 from by omega]
        rfl
      · rw [if_neg h1] at h
        by_cases h2 : out.length = maxL
        · rw [if_pos h2] at h; cases h
        · rw [if_neg h2] at h
          cases hd : decInt (c :: r) with
          | err e => rw [hd, Rd.bind] at h; cases h
          | ok n j =>
            rw [hd, Rd.bind] at h
            obtain ⟨q1, q2, q3, q4⟩ := decInt_canonical hd
            obtain ⟨zs, e1, e2, e3, e4, e5, e6, e7⟩ := ih (out := out ++ [n]) (by simp; omega) h
            rw [List.length_drop] at e5
            refine ⟨n :: zs, by rw [e1]; simp, e2, ?_, by omega, by omega, ?_, by omega⟩
            · intro y hy
              rcases List.mem_cons.1 hy with rfl | hy
              · exact q1
              · exact e3 y hy
            · rw [encList_cons, q4, e6, show k - p = j + (k - (p + j)) from by omega, List.take_add]

theorem decLf_err_ne {F : Nat} {l : List UInt8} {out : List Int} {p e : Nat} (h : decLf F l out p = .err e) : e ≠ 0 := by
  induction F generalizing l out p with
  | zero => rw [decLf] at h; cases h; decide
  | succ F ih =>
    cases l with
    | nil => rw [decLf_nil] at h; cases h; decide
    | cons c r =>
      rw [decLf_cons] at h
      by_cases h1 : c = 1
      · rw [if_pos h1] at h; cases h
      · rw [if_neg h1] at h
        by_cases h2 : out.length = maxL
        · rw [if_pos h2] at h; cases h; decide
        · rw [if_neg h2] at h
          cases hd : decInt (c :: r) with
          | err e' => rw [hd, Rd.bind] at h; cases h; exact decInt_err_ne hd
          | ok n k => rw [hd, Rd.bind] at h; exact ih h
theorem decL_err_ne {l : List UInt8} {e : Nat} (h : decL l = .err e) : e ≠ 0 := decLf_err_ne h

end Go.Proofs.Ytpkmdonejmbnoaa
