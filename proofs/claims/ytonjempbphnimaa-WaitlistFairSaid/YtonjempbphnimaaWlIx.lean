/-
  The plain mathematics of what Find returns.
-/
import Derived.Test.YtonjempbphnimaaWlPlain
namespace Go.Proofs.Ytonjempbphnimaa

noncomputable def ixN (ts : List Wl) (p : Wl → Bool) : Int := (ixW_some ts p).choose
theorem ixN_spec (ts : List Wl) (p : Wl → Bool) : IxW ts p (ixN ts p) := (ixW_some ts p).choose_spec
theorem ixN_of {ts : List Wl} {p : Wl → Bool} {k : Int} (h : IxW ts p k) : k = ixN ts p := h.uniq (ixN_spec ts p)
/-- What Find returns. -/
noncomputable def fndI (ts : List Wl) (t : Int) : Int := if ixN ts (isTk t) < 0 then 0 else ixN ts (isTk t)
def fndB (ts : List Wl) (t : Int) : Bool := ts.any (isTk t)
theorem fnd_neg {ts : List Wl} {t k : Int} (h : IxW ts (isTk t) k) (hk : k < 0) : fndI ts t = 0 ∧ fndB ts t = false := by
  have h1 := h.any
  obtain rfl := ixN_of h
  unfold fndI fndB
  rw [if_pos hk, ← h1]
  exact ⟨rfl, decide_eq_false (by omega)⟩
theorem fnd_pos {ts : List Wl} {t k : Int} (h : IxW ts (isTk t) k) (hk : ¬ k < 0) : fndI ts t = k ∧ fndB ts t = true := by
  have h1 := h.any
  obtain rfl := ixN_of h
  unfold fndI fndB
  rw [if_neg hk, ← h1]
  exact ⟨rfl, decide_eq_true (by omega)⟩


end Go.Proofs.Ytonjempbphnimaa
