/-
  The plain mathematics of partialorder's statements: what a closure's pairs are, when Check accepts, when Generate does.
-/
import Derived.Test.YtbfeiegjhcjbnaaPoKnown
namespace Go.Proofs.Ytbfeiegjhcjbnaa

theorem hasE_iff {es : List (Int × Int)} {x y : Int} : hasE es x y = true ↔ (x, y) ∈ es := by
  unfold hasE
  rw [List.any_eq_true]
  constructor
  · rintro ⟨⟨a, b⟩, he, h⟩
    simp at h
    obtain ⟨rfl, rfl⟩ := h
    exact he
  · intro h
    exact ⟨(x, y), h, by simp⟩
theorem subE_iff {a b : List (Int × Int)} : subE a b = true ↔ ∀ e, e ∈ a → e ∈ b := by
  unfold subE
  rw [List.all_eq_true]
  constructor
  · intro h e he
    exact hasE_iff.1 (h e he)
  · intro h e he
    exact hasE_iff.2 (h e he)
theorem chkL_good {n : Int} {p : Option (Int × Int)} {es : List (Int × Int)} (hb : ∀ e, e ∈ es → ¬ badE n e) (hp : ∀ q, p = some q → ∀ e, e ∈ es → ltI q e) (hs : es.Pairwise ltI) : chkL n p es = 0 := by
  induction es generalizing p with
  | nil => rfl
  | cons e es ih =>
    have hlo : ¬ lowO p e := by
      intro h
      cases p with
      | none => exact h
      | some q =>
        have h1 := hp q rfl e (List.mem_cons_self ..)
        have h2 : lowE q e := h
        unfold ltI at h1
        unfold lowE at h2
        omega
    rw [chkL, if_neg (hb e (List.mem_cons_self ..)), if_neg hlo]
    obtain ⟨h1, h2⟩ := List.pairwise_cons.1 hs
    exact ih (fun x hx => hb x (List.mem_cons_of_mem _ hx)) (fun q hq x hx => by cases hq; exact h1 x hx) h2
theorem mem_edgesOf {l : List (Nat × Nat)} {x y : Int} : (x, y) ∈ edgesOf l ↔ ∃ a b : Nat, x = a ∧ y = b ∧ (a, b) ∈ l := by
  unfold edgesOf
  rw [List.mem_map]
  constructor
  · rintro ⟨⟨a, b⟩, h, e⟩
    cases e
    exact ⟨a, b, rfl, rfl, h⟩
  · rintro ⟨a, b, rfl, rfl, h⟩
    exact ⟨(a, b), h, rfl⟩
theorem chk_edgesOf {N : Nat} {l : List (Nat × Nat)} (hN : N ≤ 200) (hl : l.length ≤ 2000) (hg : ∀ e, e ∈ l → e.1 < N ∧ e.2 < N) (hs : l.Pairwise ltP) : chkE (N : Int) (edgesOf l) = 0 := by
  unfold chkE
  rw [if_neg (by omega), if_neg (by rw [edgesOf_length]; omega)]
  refine chkL_good (fun e he => ?_) (fun q hq => by cases hq) ?_
  · obtain ⟨x, y⟩ := e
    obtain ⟨a, b, rfl, rfl, h⟩ := mem_edgesOf.1 he
    have h1 := hg _ h
    unfold badE
    dsimp only at h1 ⊢
    omega
  · unfold edgesOf
    rw [List.pairwise_map]
    refine List.Pairwise.imp ?_ hs
    intro a b h
    unfold ltI
    unfold ltP at h
    dsimp only
    omega
theorem prs_lt {N : Nat} {f : Nat → Nat → Bool} : ∀ e, e ∈ prs N f → e.1 < N ∧ e.2 < N := by
  rintro ⟨a, b⟩ h
  obtain ⟨h1, h2, _⟩ := mem_prs.1 h
  exact ⟨h1, h2⟩
theorem prs_le (N : Nat) (f : Nat → Nat → Bool) : (prs N f).length ≤ N * N := prsK_length N f (N * N)
/-- Check accepts a strict partial order's pairs. -/
theorem po_prs {N : Nat} {f : Nat → Nat → Bool} (hN : N ≤ 200) (hl : (prs N f).length ≤ 2000) (hL : Low2 N f) (ht : Trans2 f) (ho : loopK f N = false) : poE (N : Int) (edgesOf (prs N f)) = 0 := by
  unfold poE
  rw [if_pos (chk_edgesOf hN hl prs_lt (prsK_srt N f _)), gN_edgesOf, relG_prs hL, Int.toNat_natCast, ho, (trsB_iff hL).2 ht]
  rfl
theorem okB_of {N : Nat} {es : List (Int × Int)} (h : OkE N es) : okB (N : Int) es = true := by
  unfold okB
  rw [List.all_eq_true]
  intro e he
  have := h e he
  have hb : ¬ badE (N : Int) e := by unfold badE; omega
  rw [decide_eq_false hb]
  rfl
theorem size_ok {n : Int} {k : Nat} (h : sizeE n k = 0) : ∃ N : Nat, n = (N : Int) ∧ N ≤ 200 ∧ k ≤ 2000 := by
  unfold sizeE at h
  by_cases h1 : n < 0 ∨ 200 < n
  · rw [if_pos h1] at h; cases h
  · rw [if_neg h1] at h
    by_cases h2 : 2000 < k
    · rw [if_pos h2] at h; cases h
    · exact ⟨n.toNat, by omega, by omega, by omega⟩
theorem size_of {N k : Nat} (hN : N ≤ 200) (hk : k ≤ 2000) : sizeE (N : Int) k = 0 := by
  unfold sizeE
  rw [if_neg (by omega), if_neg (by omega)]
theorem gen_ok {n : Int} {es : List (Int × Int)} (h : genE n es = 0) : ∃ N : Nat, n = (N : Int) ∧ N ≤ 200 ∧ es.length ≤ 2000 ∧ OkE N es ∧ loopK (genF N es) N = false ∧ (prs N (genF N es)).length ≤ 2000 ∧ genL n es = prs N (genF N es) := by
  have hg : genL n es = prs n.toNat (genF n.toNat es) := by unfold genL; rw [if_pos h]
  unfold genE at h
  by_cases hs : sizeE n es.length = 0
  · obtain ⟨N, rfl, hN, hk⟩ := size_ok hs
    rw [if_pos hs] at h
    rw [Int.toNat_natCast] at h hg
    cases hb : okB (N : Int) es with
    | false => rw [hb, if_neg (by simp)] at h; cases h
    | true =>
      rw [hb, if_pos rfl] at h
      cases ho : loopK (genF N es) N with
      | true => rw [ho, if_pos rfl] at h; cases h
      | false =>
        rw [ho, if_neg (by simp)] at h
        by_cases hl : 2000 < (prs N (genF N es)).length
        · rw [if_pos hl] at h; cases h
        · exact ⟨N, rfl, hN, hk, okB_ok hb, ho, by omega, hg⟩
  · rw [if_neg hs] at h; exact absurd h hs
theorem gen_of {N : Nat} {es : List (Int × Int)} (hN : N ≤ 200) (hk : es.length ≤ 2000) (hok : OkE N es) (ho : loopK (genF N es) N = false) (hl : (prs N (genF N es)).length ≤ 2000) : genE (N : Int) es = 0 ∧ genL (N : Int) es = prs N (genF N es) := by
  have h : genE (N : Int) es = 0 := by
    unfold genE
    rw [if_pos (size_of hN hk), okB_of hok, if_pos rfl, Int.toNat_natCast, ho, if_neg (by simp), if_neg (by omega)]
  refine ⟨h, ?_⟩
  unfold genL
  rw [if_pos h, Int.toNat_natCast]
theorem gN_low {N : Nat} {es : List (Int × Int)} (hok : OkE N es) : Low2 N (relG (gN es)) := relG_low (gN_lt hok)
theorem genF_low {N : Nat} {es : List (Int × Int)} (hok : OkE N es) : Low2 N (genF N es) := (gN_low hok).war N
theorem genF_trans {N : Nat} {es : List (Int × Int)} (hok : OkE N es) : Trans2 (genF N es) := war_trans (gN_low hok)
/-- Generate of a strict partial order's pairs: themselves. -/
theorem gen_prs {N : Nat} {f : Nat → Nat → Bool} (hN : N ≤ 200) (hl : (prs N f).length ≤ 2000) (hL : Low2 N f) (ht : Trans2 f) (ho : loopK f N = false) : genE (N : Int) (edgesOf (prs N f)) = 0 ∧ genL (N : Int) (edgesOf (prs N f)) = prs N f := by
  have hF : genF N (edgesOf (prs N f)) = f := by
    unfold genF
    rw [gN_edgesOf, relG_prs hL, war_same ht]
  have hok : OkE N (edgesOf (prs N f)) := by
    rintro ⟨x, y⟩ he
    obtain ⟨a, b, rfl, rfl, h⟩ := mem_edgesOf.1 he
    have := prs_lt _ h
    dsimp only at this ⊢
    omega
  have h := gen_of (es := edgesOf (prs N f)) hN (by rw [edgesOf_length]; exact hl) hok (by rw [hF]; exact ho) (by rw [hF]; exact hl)
  rw [hF] at h
  exact h
theorem mem_gN {N : Nat} {es : List (Int × Int)} (hok : OkE N es) {a b : Nat} : (a, b) ∈ gN es ↔ ((a : Int), (b : Int)) ∈ es := by
  unfold gN
  rw [List.mem_map]
  constructor
  · rintro ⟨⟨x, y⟩, he, e⟩
    have := hok _ he
    dsimp only at this
    cases e
    rw [Int.toNat_of_nonneg (by omega), Int.toNat_of_nonneg (by omega)]
    exact he
  · intro h
    exact ⟨_, h, rfl⟩
/-- Check's answer of pairs: what they are then. -/
theorem po_ok {n : Int} {es : List (Int × Int)} (h : poE n es = 0) : ∃ N : Nat, n = (N : Int) ∧ N ≤ 200 ∧ es.length ≤ 2000 ∧ OkE N es ∧ loopK (relG (gN es)) N = false ∧ Trans2 (relG (gN es)) ∧ (gN es).Pairwise ltP := by
  obtain ⟨h1, h2, h3⟩ := poE_ok h
  obtain ⟨N, rfl, hN, hk, hok⟩ := chk_ok h1
  rw [Int.toNat_natCast] at h2 h3
  exact ⟨N, rfl, hN, hk, hok, h2, (trsB_iff (gN_low hok)).1 h3, chk_srt h1⟩
theorem great_no {n : Int} {es : List (Int × Int)} (h : great4 n es = false) : (n ≤ 8 ∨ 200 < n) ∧ es.length ≤ 60 := by
  unfold great4 at h
  simp at h
  omega

/-- A strict partial order that contains the pairs contains what they generate. -/
theorem least_in {N : Nat} {es ms : List (Int × Int)} (hok : OkE N es) (hom : OkE N ms) (ht : Trans2 (relG (gN ms))) (hs : subE es ms = true) : Sub2 (genF N es) (relG (gN ms)) := by
  refine war_least (fun a b h => ?_) ht N
  have h1 := (mem_gN hok).1 (relG_iff.1 h)
  exact relG_iff.2 ((mem_gN hom).2 (subE_iff.1 hs _ h1))
theorem okE_sub {N : Nat} {es ms : List (Int × Int)} (hom : OkE N ms) (hs : subE es ms = true) : OkE N es := fun e he => hom e (subE_iff.1 hs e he)
theorem least_gen {n : Int} {es ms : List (Int × Int)} (hg : great4 n es = false) (hp : poE n ms = 0) (hs : subE es ms = true) : genE n es = 0 ∧ subE (edgesOf (genL n es)) ms = true := by
  obtain ⟨N, rfl, hN, hk, hom, ho, ht, _⟩ := po_ok hp
  obtain ⟨hN8, h60⟩ := great_no hg
  have hok := okE_sub hom hs
  have hsub := least_in hok hom ht hs
  have hlo : loopK (genF N es) N = false := by
    rw [loopK_false] at ho ⊢
    intro i hi
    cases e : genF N es i i with
    | false => rfl
    | true => have h1 := ho i hi; rw [hsub i i e] at h1; cases h1
  have h8 : N * N ≤ 8 * 8 := Nat.mul_le_mul (by omega) (by omega)
  have hle := prs_le N (genF N es)
  obtain ⟨h1, h2⟩ := gen_of hN (by omega) hok hlo (by omega)
  refine ⟨h1, ?_⟩
  rw [h2, subE_iff]
  rintro ⟨x, y⟩ he
  obtain ⟨a, b, rfl, rfl, h⟩ := mem_edgesOf.1 he
  obtain ⟨_, _, h3⟩ := mem_prs.1 h
  exact (mem_gN hom).1 (relG_iff.1 (hsub a b h3))
/-- What Generate returns: a strict partial order that contains the pairs; generating again changes nothing. -/
theorem least_is {n : Int} {es : List (Int × Int)} (h : genE n es = 0) : poE n (edgesOf (genL n es)) = 0 ∧ subE es (edgesOf (genL n es)) = true ∧ genE n (edgesOf (genL n es)) = 0 ∧ genL n (edgesOf (genL n es)) = genL n es := by
  obtain ⟨N, rfl, hN, hk, hok, ho, hl, hg⟩ := gen_ok h
  have hL := genF_low hok
  have ht := genF_trans hok
  rw [hg]
  refine ⟨po_prs hN hl hL ht ho, ?_, (gen_prs hN hl hL ht ho).1, (gen_prs hN hl hL ht ho).2⟩
  rw [subE_iff]
  rintro ⟨x, y⟩ he
  have hb := hok _ he
  dsimp only at hb
  refine mem_edgesOf.2 ⟨x.toNat, y.toNat, by omega, by omega, mem_prs.2 ⟨by omega, by omega, ?_⟩⟩
  refine war_sub _ N _ _ (relG_iff.2 ?_)
  rw [mem_gN hok, Int.toNat_of_nonneg (by omega), Int.toNat_of_nonneg (by omega)]
  exact he

end Go.Proofs.Ytbfeiegjhcjbnaa
