/-
  The plain mathematics of the cycle that begins with a node (no program in it), as it is walked by the distances.
-/
import Derived.Test.YtcggmonnajggcaaDistPlain
namespace Go.Proofs.Ytcggmonnajggcaa

/-- The nearest successor of s, among those up to i. -/
def bestB (g : List (Nat × Nat)) (d : List Int) (s : Nat) (B : Option Nat) (i : Nat) : Option Nat :=
  if g.contains (s, i) = true ∧ 0 ≤ d.getD i (-1) ∧ (∀ j, B = some j → d.getD i (-1) < d.getD j (-1)) then some i else B
def bestK (g : List (Nat × Nat)) (d : List Int) (s k : Nat) : Option Nat := (List.range k).foldl (bestB g d s) none
theorem getD_of {d : List Int} {i : Nat} {a z : Int} (h : d[i]? = some a) : d.getD i z = a := by rw [List.getD_eq_getElem?_getD, h]; rfl
theorem bestB_no {g : List (Nat × Nat)} {d : List Int} {s i : Nat} {B : Option Nat} (h : g.contains (s, i) = false) : bestB g d s B i = B := by
  unfold bestB
  rw [if_neg]
  rw [h]
  exact fun h => by cases h.1
theorem bestB_far {g : List (Nat × Nat)} {d : List Int} {s i : Nat} {B : Option Nat} {a : Int} (h : d[i]? = some a) (ha : ¬ 0 ≤ a) : bestB g d s B i = B := by
  unfold bestB
  rw [if_neg]
  rw [getD_of h]
  exact fun h => ha h.2.1
theorem bestB_first {g : List (Nat × Nat)} {d : List Int} {s i : Nat} {a : Int} (hc : g.contains (s, i) = true) (h : d[i]? = some a) (ha : 0 ≤ a) : bestB g d s none i = some i := by
  unfold bestB
  rw [if_pos]
  rw [getD_of h]
  exact ⟨hc, ha, fun j hj => by cases hj⟩
theorem bestB_near {g : List (Nat × Nat)} {d : List Int} {s i j : Nat} {a b : Int} (hc : g.contains (s, i) = true) (h : d[i]? = some a) (ha : 0 ≤ a) (hj : d[j]? = some b) (hab : a < b) : bestB g d s (some j) i = some i := by
  unfold bestB
  rw [if_pos]
  rw [getD_of h]
  refine ⟨hc, ha, fun j' hj' => ?_⟩
  cases hj'
  rw [getD_of hj]
  exact hab
theorem bestB_not {g : List (Nat × Nat)} {d : List Int} {s i j : Nat} {a b : Int} (h : d[i]? = some a) (hj : d[j]? = some b) (hab : ¬ a < b) : bestB g d s (some j) i = some j := by
  unfold bestB
  rw [if_neg]
  intro hh
  have := hh.2.2 j rfl
  rw [getD_of h, getD_of hj] at this
  exact hab this
theorem bestK_succ (g : List (Nat × Nat)) (d : List Int) (s k : Nat) : bestK g d s (k + 1) = bestB g d s (bestK g d s k) k := range_fold _ _ _
theorem bestK_some {g : List (Nat × Nat)} {d : List Int} {s k j : Nat} (h : bestK g d s k = some j) : j < k ∧ g.contains (s, j) = true ∧ 0 ≤ d.getD j (-1) := by
  induction k with
  | zero => cases h
  | succ k ih =>
    rw [bestK_succ] at h
    unfold bestB at h
    split at h
    · rename_i hc
      cases h
      exact ⟨by omega, hc.1, hc.2.1⟩
    · have := ih h
      exact ⟨by omega, this.2⟩

/-- May i stand behind x? -/
def nearB (g : List (Nat × Nat)) (d : List Int) (x i : Nat) : Bool := g.contains (x, i) && d.getD i (-1) == d.getD x (-1) - 1
def nearF (N : Nat) (g : List (Nat × Nat)) (d : List Int) (x : Nat) : Option Nat := (List.range N).find? (nearB g d x)
theorem nearB_at {g : List (Nat × Nat)} {d : List Int} {x i : Nat} {a b : Int} (hx : d[x]? = some a) (hi : d[i]? = some b) : nearB g d x i = (g.contains (x, i) && b == a - 1) := by
  unfold nearB
  rw [getD_of hx, getD_of hi]
theorem nearF_some {N : Nat} {g : List (Nat × Nat)} {d : List Int} {x i : Nat} (hi : i < N) (hf : nearB g d x i = true) (hb : ∀ j, j < i → nearB g d x j = false) : nearF N g d x = some i := by
  unfold nearF
  rw [List.find?_range_eq_some]
  exact ⟨hf, by simpa using hi, fun j hj => by simp [hb j hj]⟩
theorem nearF_spec {N : Nat} {g : List (Nat × Nat)} {d : List Int} {x i : Nat} (h : nearF N g d x = some i) : i < N ∧ nearB g d x i = true := by
  unfold nearF at h
  rw [List.find?_range_eq_some] at h
  exact ⟨by simpa using h.2.1, h.1⟩
/-- The walk from x on to s. -/
def walkF (N : Nat) (g : List (Nat × Nat)) (d : List Int) (s : Nat) : Nat → Nat → List Nat
  | 0, _ => []
  | f + 1, x => x :: walkF N g d s f ((nearF N g d x).getD s)
theorem walkF_step {N : Nat} {g : List (Nat × Nat)} {d : List Int} {s x y : Nat} {a : Int} (ha : 0 < a) (hn : nearF N g d x = some y) : walkF N g d s a.toNat x = x :: walkF N g d s (a - 1).toNat y := by
  have h : a.toNat = (a - 1).toNat + 1 := by omega
  rw [h, walkF, hn]
  rfl
def aroundOf (N : Nat) (g : List (Nat × Nat)) (d : List Int) (s : Nat) : Option Nat → List Nat
  | none => []
  | some b => s :: walkF N g d s (d.getD b (-1)).toNat b
/-- The least shortest cycle that begins with s. -/
def aroundF (N : Nat) (g : List (Nat × Nat)) (s : Nat) : List Nat := aroundOf N g (distF N g s) s (bestK g (distF N g s) s N)
/-- From a node that is not s, and that is known, one can go on. -/
theorem near_some {N M : Nat} {g : List (Nat × Nat)} {d : List Int} {s x : Nat} {a : Int} (hd : DistInv N g s M d) (hx : d[x]? = some a) (ha : 0 ≤ a) (hxs : x ≠ s) : 0 < a ∧ ∃ y, y < N ∧ nearB g d x y = true := by
  rcases hd.step x a hx ha with ⟨h, _⟩ | ⟨h, y, he, hy⟩
  · exact absurd h hxs
  · refine ⟨h, y, ?_, ?_⟩
    · have := (List.getElem?_eq_some_iff.1 hy).1
      rw [hd.len] at this
      exact this
    · rw [nearB_at hx hy]
      simp [he]

end Go.Proofs.Ytcggmonnajggcaa
