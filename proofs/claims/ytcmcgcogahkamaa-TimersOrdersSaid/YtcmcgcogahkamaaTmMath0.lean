/-
  The plain mathematics of deleting in place, and of putting one element between others (no program in it).
-/
import Derived.Test.YtcmcgcogahkamaaTmPlain
namespace Go.Proofs.Ytcmcgcogahkamaa

/-- What stands ahead of place k without those for which p holds. -/
def kept (p : Tm → Bool) (ts : List Tm) (k : Nat) : List Tm := (ts.take k).filter fun t => !p t
theorem kept_all (p : Tm → Bool) (ts : List Tm) : kept p ts ts.length = ts.filter fun t => !p t := by unfold kept; rw [List.take_length]
theorem kept_succ {p : Tm → Bool} {ts : List Tm} {k : Nat} (h : k < ts.length) : kept p ts (k + 1) = kept p ts k ++ if p (gt ts k) = true then [] else [gt ts k] := by
  unfold kept
  rw [take_snocT ts k h, List.filter_append]
  cases hp : p (gt ts k) <;> simp [hp]
theorem kept_length {p : Tm → Bool} {ts : List Tm} {k : Nat} : (kept p ts k).length ≤ k := by
  unfold kept
  have := List.length_filter_le (fun t => !p t) (ts.take k)
  rw [List.length_take] at this
  omega
theorem kept_none {p : Tm → Bool} {ts : List Tm} {k : Nat} (h : ∀ j, j < k → p (gt ts j) = false) (hk : k ≤ ts.length) : kept p ts k = ts.take k := by
  unfold kept
  rw [List.filter_eq_self]
  intro t ht
  obtain ⟨j, hj, rfl⟩ := mem_gt ht
  rw [List.length_take] at hj
  rw [gt_take (by omega), h j (by omega)]
  rfl
theorem filter_none {p : Tm → Bool} {ts : List Tm} (h : ∀ j, j < ts.length → p (gt ts j) = false) : (ts.filter fun t => !p t) = ts := by
  rw [← kept_all, kept_none h (Nat.le_refl _), List.take_length]

end Go.Proofs.Ytcmcgcogahkamaa
