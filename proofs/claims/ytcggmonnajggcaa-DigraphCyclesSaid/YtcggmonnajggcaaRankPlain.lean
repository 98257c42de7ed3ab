/-
  The plain mathematics of ranks (no program in it), as they are raised along an order.
-/
import Derived.Test.YtcggmonnajggcaaOrderPlain
namespace Go.Proofs.Ytcggmonnajggcaa

theorem orderFrom_length {N : Nat} {g : List (Nat × Nat)} {out l : List Nat} (hl : out.length ≤ N) (hN : ∀ x ∈ out, x < N) (h : orderFrom N g out = some l) : l.length = N ∧ ∀ x ∈ l, x < N := by
  generalize hm : N - out.length = m
  induction m generalizing out with
  | zero =>
    rw [orderFrom_full (by omega)] at h
    cases h
    exact ⟨by omega, hN⟩
  | succ m ih =>
    have hlt : out.length < N := by omega
    cases hn : nextF N g out with
    | none => rw [orderFrom_none hlt hn] at h; cases h
    | some i =>
      rw [orderFrom_some hlt hn] at h
      refine ih (by simp; omega) (fun x hx => ?_) h (by simp; omega)
      rcases List.mem_append.1 hx with hx | hx
      · exact hN x hx
      · simp at hx; subst hx; exact (nextF_spec hn).1

/-- One edge: its end stands at least one higher than node x, if it leads out of x. -/
def relax1 (x : Nat) (r : List Nat) (e : Nat × Nat) : List Nat := if e.1 = x then r.set e.2 (max (r.getD e.2 0) (r.getD x 0 + 1)) else r
def relaxN (g : List (Nat × Nat)) (r : List Nat) (x : Nat) : List Nat := g.foldl (relax1 x) r
def ranksF (N : Nat) (g : List (Nat × Nat)) (l : List Nat) : List Nat := l.foldl (relaxN g) (List.replicate N 0)
theorem relax1_length (x : Nat) (r : List Nat) (e : Nat × Nat) : (relax1 x r e).length = r.length := by unfold relax1; split <;> simp
theorem fold_length (g : List (Nat × Nat)) (x : Nat) (r : List Nat) : (g.foldl (relax1 x) r).length = r.length := by
  induction g generalizing r with
  | nil => rfl
  | cons e g ih => rw [List.foldl_cons, ih, relax1_length]
theorem ranksF_length (N : Nat) (g : List (Nat × Nat)) (l : List Nat) : (ranksF N g l).length = N := by
  unfold ranksF
  have : ∀ r : List Nat, (l.foldl (relaxN g) r).length = r.length := by
    induction l with
    | nil => intro r; rfl
    | cons x l ih => intro r; rw [List.foldl_cons, ih, relaxN, fold_length]
  rw [this]
  simp
/-- No rank is greater than M. -/
def Most (M : Nat) (r : List Nat) : Prop := ∀ b ∈ r, b ≤ M
theorem Most.getD {M : Nat} {r : List Nat} (h : Most M r) (i : Nat) : r.getD i 0 ≤ M := by
  rw [List.getD_eq_getElem?_getD]
  cases e : r[i]? with
  | none => simp
  | some b => exact h b (List.mem_of_getElem? e)
theorem Most.relax {M : Nat} {r : List Nat} (h : Most M r) (x : Nat) (e : Nat × Nat) : Most (M + 1) (relax1 x r e) := by
  unfold relax1
  split
  · intro b hb
    rcases List.mem_or_eq_of_mem_set hb with hb | hb
    · have := h b hb; omega
    · have h1 := h.getD e.2
      have h2 := h.getD x
      omega
  · intro b hb
    have := h b hb
    omega
theorem Most.start (N : Nat) : Most 0 (List.replicate N 0) := by
  intro b hb
  rw [List.mem_replicate] at hb
  omega
theorem take_fold {α : Type} (f : List Nat → α → List Nat) (r : List Nat) (l : List α) (k : Nat) (a : α) (h : l[k]? = some a) : (l.take (k + 1)).foldl f r = f ((l.take k).foldl f r) a := by
  rw [List.take_add_one, h, List.foldl_append]
  rfl

end Go.Proofs.Ytcggmonnajggcaa
