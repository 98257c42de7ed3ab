/-
  The plain mathematics of a relation (no program in it): the transitive closure, its pairs in their order.
-/
import Derived.Lib.Hide
namespace Go.Proofs.Ytbfeiegjhcjbnaa

/-- A relation with one pair more. -/
def upd (f : Nat → Nat → Bool) (a b : Nat) : Nat → Nat → Bool := fun i j => f i j || (i == a && j == b)
/-- The relation of the first q pairs. -/
def relK (g : List (Nat × Nat)) (q : Nat) : Nat → Nat → Bool := fun i j => (g.take q).contains (i, j)
def relG (g : List (Nat × Nat)) : Nat → Nat → Bool := fun i j => g.contains (i, j)
theorem relK_all (g : List (Nat × Nat)) : relK g g.length = relG g := by unfold relK relG; rw [List.take_length]
theorem relK_zero (g : List (Nat × Nat)) : relK g 0 = fun _ _ => false := by funext i j; simp [relK]
theorem relK_succ {g : List (Nat × Nat)} {q a b : Nat} (h : g[q]? = some (a, b)) : relK g (q + 1) = upd (relK g q) a b := by
  funext i j
  unfold relK upd
  rw [List.take_add_one, h, Bool.eq_iff_iff]
  simp
theorem relG_iff {g : List (Nat × Nat)} {i j : Nat} : relG g i j = true ↔ (i, j) ∈ g := by unfold relG; exact List.contains_iff_mem

/-! ### The transitive closure, element by element -/

/-- The pairs that lead through k are added, for the rows up to i. -/
def stgI (f : Nat → Nat → Bool) (k i : Nat) : Nat → Nat → Bool := fun a b => f a b || (decide (a < i) && (f a k && f k b))
/-- .. for all rows. -/
def stg (f : Nat → Nat → Bool) (k : Nat) : Nat → Nat → Bool := fun a b => f a b || (f a k && f k b)
/-- .. for row i up to column j, the rows before are done. -/
def stgJ (f : Nat → Nat → Bool) (k i j : Nat) : Nat → Nat → Bool := fun a b => f a b || ((decide (a < i) || (decide (a = i) && decide (b < j))) && (f a k && f k b))
def war (f : Nat → Nat → Bool) : Nat → Nat → Nat → Bool
  | 0 => f
  | k + 1 => stg (war f k) k
theorem stgI_zero (f : Nat → Nat → Bool) (k : Nat) : stgI f k 0 = f := by funext a b; simp [stgI]
theorem stgJ_zero (f : Nat → Nat → Bool) (k i : Nat) : stgJ f k i 0 = stgI f k i := by funext a b; simp [stgJ, stgI]
/-- Row k itself, and column k, stay as they are. -/
theorem stgJ_row (f : Nat → Nat → Bool) (k i j b : Nat) : stgJ f k i j k b = f k b := by
  unfold stgJ
  cases f k b <;> cases f k k <;> simp
theorem stgJ_col (f : Nat → Nat → Bool) (k i j a : Nat) : stgJ f k i j a k = f a k := by
  unfold stgJ
  cases f a k <;> simp
theorem stgI_row (f : Nat → Nat → Bool) (k i b : Nat) : stgI f k i k b = f k b := by rw [← stgJ_zero, stgJ_row]
theorem stgI_col (f : Nat → Nat → Bool) (k i a : Nat) : stgI f k i a k = f a k := by rw [← stgJ_zero, stgJ_col]
theorem stgJ_none {f : Nat → Nat → Bool} {k i j : Nat} (h : f i k = false) : stgJ f k i j = stgI f k i := by
  funext a b
  unfold stgJ stgI
  by_cases e : a = i
  · subst e
    simp [h]
  · simp [e]
theorem stgI_next {f : Nat → Nat → Bool} {k i : Nat} (h : f i k = false) : stgI f k (i + 1) = stgI f k i := by
  funext a b
  unfold stgI
  by_cases e : a = i
  · subst e
    simp [h]
  · have : decide (a < i + 1) = decide (a < i) := by rw [decide_eq_decide]; omega
    rw [this]
/-- All pairs lie below N. -/
def Low2 (N : Nat) (f : Nat → Nat → Bool) : Prop := ∀ a b, f a b = true → a < N ∧ b < N
theorem stgJ_full {N : Nat} {f : Nat → Nat → Bool} {k i : Nat} (hL : Low2 N f) : stgJ f k i N = stgI f k (i + 1) := by
  funext a b
  unfold stgJ stgI
  by_cases e : a = i
  · subst e
    by_cases hb : b < N
    · simp [hb]
    · have : f k b = false := by
        cases h : f k b with
        | false => rfl
        | true => exact absurd (hL k b h).2 hb
      simp [this]
  · have : decide (a < i + 1) = decide (a < i) := by rw [decide_eq_decide]; omega
    rw [this]
    simp [e]
theorem stgI_full {N : Nat} {f : Nat → Nat → Bool} {k : Nat} (hL : Low2 N f) : stgI f k N = stg f k := by
  funext a b
  unfold stgI stg
  by_cases ha : a < N
  · simp [ha]
  · have : f a k = false := by
      cases h : f a k with
      | false => rfl
      | true => exact absurd (hL a k h).1 ha
    simp [this]
theorem Low2.stg {N : Nat} {f : Nat → Nat → Bool} (hL : Low2 N f) (k : Nat) : Low2 N (stg f k) := by
  intro a b h
  unfold Go.Proofs.Ytbfeiegjhcjbnaa.stg at h
  simp only [Bool.or_eq_true, Bool.and_eq_true] at h
  rcases h with h | ⟨h1, h2⟩
  · exact hL a b h
  · exact ⟨(hL a k h1).1, (hL k b h2).2⟩
theorem Low2.stgJ {N : Nat} {f : Nat → Nat → Bool} (hL : Low2 N f) (k i j : Nat) : Low2 N (stgJ f k i j) := by
  intro a b h
  unfold Go.Proofs.Ytbfeiegjhcjbnaa.stgJ at h
  simp only [Bool.or_eq_true, Bool.and_eq_true] at h
  rcases h with h | ⟨_, h1, h2⟩
  · exact hL a b h
  · exact ⟨(hL a k h1).1, (hL k b h2).2⟩
theorem Low2.war {N : Nat} {f : Nat → Nat → Bool} (hL : Low2 N f) : ∀ k, Low2 N (war f k)
  | 0 => hL
  | k + 1 => (Low2.war hL k).stg k
/-- One column more of row i. -/
theorem stgJ_step {f : Nat → Nat → Bool} {k i j : Nat} (h : f i k = true) : stgJ f k i (j + 1) = fun a b => if a = i ∧ b = j then (f i j || f k j) else stgJ f k i j a b := by
  funext a b
  unfold stgJ
  by_cases e : a = i ∧ b = j
  · obtain ⟨rfl, rfl⟩ := e
    simp [h]
  · rw [if_neg e]
    by_cases e1 : a = i
    · have e2 : b ≠ j := fun h => e ⟨e1, h⟩
      have : decide (b < j + 1) = decide (b < j) := by rw [decide_eq_decide]; omega
      rw [this]
    · simp [e1]
/-- The value that row i has at column j, before it is set. -/
theorem stgJ_at {f : Nat → Nat → Bool} {k i j : Nat} : stgJ f k i j i j = f i j := by
  unfold stgJ
  simp

def Trans2 (f : Nat → Nat → Bool) : Prop := ∀ a b c, f a b = true → f b c = true → f a c = true
def Sub2 (f h : Nat → Nat → Bool) : Prop := ∀ a b, f a b = true → h a b = true
theorem Sub2.refl (f : Nat → Nat → Bool) : Sub2 f f := fun _ _ h => h
theorem stg_sub (f : Nat → Nat → Bool) (k : Nat) : Sub2 f (stg f k) := fun a b h => by unfold stg; simp [h]
theorem war_sub (f : Nat → Nat → Bool) : ∀ k, Sub2 f (war f k)
  | 0 => Sub2.refl f
  | k + 1 => fun a b h => stg_sub _ k a b (war_sub f k a b h)
theorem war_least {f h : Nat → Nat → Bool} (hs : Sub2 f h) (ht : Trans2 h) : ∀ k, Sub2 (war f k) h
  | 0 => hs
  | k + 1 => fun a b hw => by
    unfold war stg at hw
    simp only [Bool.or_eq_true, Bool.and_eq_true] at hw
    rcases hw with hw | ⟨h1, h2⟩
    · exact war_least hs ht k a b hw
    · exact ht a k b (war_least hs ht k a k h1) (war_least hs ht k k b h2)
theorem war_thru (f : Nat → Nat → Bool) : ∀ k c, c < k → ∀ a b, war f k a c = true → war f k c b = true → war f k a b = true
  | 0, c, h => absurd h (by omega)
  | k + 1, c, hc => fun a b h1 h2 => by
    have ih := war_thru f k
    unfold war stg at h1 h2 ⊢
    simp only [Bool.or_eq_true, Bool.and_eq_true] at h1 h2 ⊢
    by_cases e : c = k
    · subst e
      right
      exact ⟨h1.elim id (fun h => h.1), h2.elim id (fun h => h.2)⟩
    · have hc' : c < k := by omega
      rcases h1 with h1 | ⟨p1, p2⟩ <;> rcases h2 with h2 | ⟨q1, q2⟩
      · exact .inl (ih c hc' a b h1 h2)
      · exact .inr ⟨ih c hc' a k h1 q1, q2⟩
      · exact .inr ⟨p1, ih c hc' k b p2 h2⟩
      · exact .inr ⟨p1, q2⟩
theorem war_trans {N : Nat} {f : Nat → Nat → Bool} (hL : Low2 N f) : Trans2 (war f N) := fun a b c h1 h2 => war_thru f N b (hL.war N a b h1).2 a c h1 h2
theorem war_same {N : Nat} {f : Nat → Nat → Bool} (ht : Trans2 f) : war f N = f := by
  funext a b
  rw [Bool.eq_iff_iff]
  exact ⟨war_least (Sub2.refl f) ht N a b, war_sub f N a b⟩

/-! ### The pairs of a relation, in their order -/

def prsK (N : Nat) (f : Nat → Nat → Bool) (k : Nat) : List (Nat × Nat) := ((List.range k).filter fun x => f (x / N) (x % N)).map fun x => (x / N, x % N)
theorem prsK_zero (N : Nat) (f : Nat → Nat → Bool) : prsK N f 0 = [] := rfl
theorem divmod {N i j : Nat} (hj : j < N) : (i * N + j) / N = i ∧ (i * N + j) % N = j := by
  have hN : 0 < N := by omega
  refine ⟨?_, ?_⟩
  · rw [Nat.add_comm, Nat.add_mul_div_right _ _ hN, Nat.div_eq_of_lt hj, Nat.zero_add]
  · rw [Nat.add_comm, Nat.add_mul_mod_self_right, Nat.mod_eq_of_lt hj]
theorem prsK_yes' {N : Nat} {f : Nat → Nat → Bool} {k : Nat} (h : f (k / N) (k % N) = true) : prsK N f (k + 1) = prsK N f k ++ [(k / N, k % N)] := by
  unfold prsK
  rw [List.range_succ, List.filter_append, List.map_append]
  simp [h]
theorem prsK_no' {N : Nat} {f : Nat → Nat → Bool} {k : Nat} (h : f (k / N) (k % N) = false) : prsK N f (k + 1) = prsK N f k := by
  unfold prsK
  rw [List.range_succ, List.filter_append, List.map_append]
  simp [h]
theorem prsK_yes {N : Nat} {f : Nat → Nat → Bool} {i j : Nat} (hj : j < N) (h : f i j = true) : prsK N f (i * N + (j + 1)) = prsK N f (i * N + j) ++ [(i, j)] := by
  obtain ⟨h1, h2⟩ := divmod (i := i) hj
  rw [← Nat.add_assoc, prsK_yes' (by rw [h1, h2]; exact h), h1, h2]
theorem prsK_no {N : Nat} {f : Nat → Nat → Bool} {i j : Nat} (hj : j < N) (h : f i j = false) : prsK N f (i * N + (j + 1)) = prsK N f (i * N + j) := by
  obtain ⟨h1, h2⟩ := divmod (i := i) hj
  rw [← Nat.add_assoc, prsK_no' (by rw [h1, h2]; exact h)]
theorem prsK_next (N : Nat) (f : Nat → Nat → Bool) (i : Nat) : prsK N f (i * N + N) = prsK N f ((i + 1) * N) := by rw [Nat.succ_mul]
theorem prsK_length (N : Nat) (f : Nat → Nat → Bool) (k : Nat) : (prsK N f k).length ≤ k := by
  unfold prsK
  rw [List.length_map]
  have := List.length_filter_le (fun x => f (x / N) (x % N)) (List.range k)
  simpa using this
/-- All pairs. -/
def prs (N : Nat) (f : Nat → Nat → Bool) : List (Nat × Nat) := prsK N f (N * N)
theorem mem_prs {N : Nat} {f : Nat → Nat → Bool} {a b : Nat} : (a, b) ∈ prs N f ↔ a < N ∧ b < N ∧ f a b = true := by
  unfold prs prsK
  simp only [List.mem_map, List.mem_filter, List.mem_range, Prod.mk.injEq]
  constructor
  · rintro ⟨x, ⟨hx, hf⟩, rfl, rfl⟩
    have hN : 0 < N := by
      rcases Nat.eq_zero_or_pos N with h | h
      · subst h; simp at hx
      · exact h
    exact ⟨Nat.div_lt_of_lt_mul hx, Nat.mod_lt _ hN, hf⟩
  · rintro ⟨ha, hb, hf⟩
    obtain ⟨h1, h2⟩ := divmod (i := a) hb
    refine ⟨a * N + b, ⟨?_, by rw [h1, h2]; exact hf⟩, h1, h2⟩
    have : (a + 1) * N ≤ N * N := Nat.mul_le_mul_right N ha
    rw [Nat.succ_mul] at this
    omega
def ltP (a b : Nat × Nat) : Prop := a.1 < b.1 ∨ (a.1 = b.1 ∧ a.2 < b.2)
theorem prsK_srt (N : Nat) (f : Nat → Nat → Bool) (k : Nat) : (prsK N f k).Pairwise ltP := by
  unfold prsK
  rw [List.pairwise_map]
  refine List.Pairwise.filter _ (List.pairwise_lt_range.imp ?_)
  intro a b hab
  unfold ltP
  simp only []
  rcases Nat.eq_zero_or_pos N with h | h
  · subst h
    right
    rw [Nat.div_zero, Nat.div_zero, Nat.mod_zero, Nat.mod_zero]
    exact ⟨rfl, hab⟩
  · have h1 : a / N ≤ b / N := Nat.div_le_div_right (Nat.le_of_lt hab)
    have h2 := Nat.div_add_mod a N
    have h3 := Nat.div_add_mod b N
    by_cases e : a / N = b / N
    · right
      refine ⟨e, ?_⟩
      rw [e] at h2
      omega
    · left
      omega
theorem srt_ext : ∀ (a b : List (Nat × Nat)), a.Pairwise ltP → b.Pairwise ltP → (∀ x, x ∈ a ↔ x ∈ b) → a = b
  | [], [], _, _, _ => rfl
  | [], y :: b, _, _, h => absurd ((h y).2 (List.mem_cons_self ..)) (by simp)
  | x :: a, [], _, _, h => absurd ((h x).1 (List.mem_cons_self ..)) (by simp)
  | x :: a, y :: b, ha, hb, h => by
    obtain ⟨a1, a2⟩ := List.pairwise_cons.1 ha
    obtain ⟨b1, b2⟩ := List.pairwise_cons.1 hb
    have irr : ∀ z : Nat × Nat, ¬ ltP z z := fun z hz => by unfold ltP at hz; omega
    have tr : ∀ u v : Nat × Nat, ltP u v → ltP v u → False := fun u v h1 h2 => by unfold ltP at *; omega
    have hxy : x = y := by
      rcases List.mem_cons.1 ((h x).1 (List.mem_cons_self ..)) with e | hx
      · exact e
      · rcases List.mem_cons.1 ((h y).2 (List.mem_cons_self ..)) with e | hy
        · exact e.symm
        · exact (tr _ _ (b1 x hx) (a1 y hy)).elim
    subst hxy
    rw [srt_ext a b a2 b2 (fun z => ?_)]
    constructor
    · intro hz
      rcases List.mem_cons.1 ((h z).1 (List.mem_cons_of_mem _ hz)) with rfl | hz'
      · exact (irr _ (a1 _ hz)).elim
      · exact hz'
    · intro hz
      rcases List.mem_cons.1 ((h z).2 (List.mem_cons_of_mem _ hz)) with rfl | hz'
      · exact (irr _ (b1 _ hz)).elim
      · exact hz'
/-- A relation in order is the pairs of its table. -/
theorem prs_self {N : Nat} {g : List (Nat × Nat)} (hg : ∀ e, e ∈ g → e.1 < N ∧ e.2 < N) (hs : g.Pairwise ltP) : prs N (relG g) = g := by
  refine srt_ext _ _ (prsK_srt _ _ _) hs (fun x => ?_)
  obtain ⟨a, b⟩ := x
  rw [mem_prs, relG_iff]
  exact ⟨fun h => h.2.2, fun h => ⟨(hg _ h).1, (hg _ h).2, h⟩⟩
theorem relG_low {N : Nat} {g : List (Nat × Nat)} (hg : ∀ e, e ∈ g → e.1 < N ∧ e.2 < N) : Low2 N (relG g) := fun _ _ h => hg _ (relG_iff.1 h)
theorem relG_prs {N : Nat} {f : Nat → Nat → Bool} (hL : Low2 N f) : relG (prs N f) = f := by
  funext a b
  rw [Bool.eq_iff_iff, relG_iff, mem_prs]
  exact ⟨fun h => h.2.2, fun h => ⟨(hL a b h).1, (hL a b h).2, h⟩⟩
/-- Some element of the first k ones. -/
def loopK (f : Nat → Nat → Bool) (k : Nat) : Bool := (List.range k).any fun i => f i i
theorem loopK_zero (f : Nat → Nat → Bool) : loopK f 0 = false := rfl
theorem loopK_succ (f : Nat → Nat → Bool) (k : Nat) : loopK f (k + 1) = (loopK f k || f k k) := by unfold loopK; rw [List.range_succ, List.any_append]; simp
theorem loopK_false {N : Nat} {f : Nat → Nat → Bool} : loopK f N = false ↔ ∀ i, i < N → f i i = false := by
  unfold loopK
  rw [List.any_eq_false]
  simp
def betwK (f : Nat → Nat → Bool) (i j k : Nat) : Bool := (List.range k).any fun x => f i x && f x j
theorem betwK_zero (f : Nat → Nat → Bool) (i j : Nat) : betwK f i j 0 = false := rfl
theorem betwK_succ (f : Nat → Nat → Bool) (i j k : Nat) : betwK f i j (k + 1) = (betwK f i j k || (f i k && f k j)) := by unfold betwK; rw [List.range_succ, List.any_append]; simp
/-- Transitive, as far as the pairs of the first elements tell. -/
def trsB (N : Nat) (f : Nat → Nat → Bool) : Bool := (List.range N).all fun i => (List.range N).all fun j => !f i j || (List.range N).all fun k => !f j k || f i k
theorem trsB_iff {N : Nat} {f : Nat → Nat → Bool} (hL : Low2 N f) : trsB N f = true ↔ Trans2 f := by
  unfold trsB
  simp only [List.all_eq_true, List.mem_range, Bool.or_eq_true, Bool.not_eq_true']
  constructor
  · intro h a b c h1 h2
    obtain ⟨ha, hb⟩ := hL a b h1
    obtain ⟨_, hc⟩ := hL b c h2
    rcases h a ha b hb with e | e
    · rw [h1] at e; cases e
    · rcases e c hc with e | e
      · rw [h2] at e; cases e
      · exact e
  · intro h i _ j _
    cases e : f i j with
    | false => exact .inl rfl
    | true =>
      right
      intro k _
      cases e2 : f j k with
      | false => exact .inl rfl
      | true => exact .inr (h i j k e e2)

end Go.Proofs.Ytbfeiegjhcjbnaa
