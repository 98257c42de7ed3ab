/-
  The plain mathematics of covering pairs: they generate the order; without one of them something less is generated.
-/
import Derived.Test.YtbfeiegjhcjbnaaPoMath
namespace Go.Proofs.Ytbfeiegjhcjbnaa

theorem countP_lt {p q : Nat → Bool} {y : Nat} : ∀ (l : List Nat), (∀ x, p x = true → q x = true) → y ∈ l → q y = true → p y = false → l.countP p < l.countP q
  | [], _, h, _, _ => by cases h
  | a :: l, hpq, h, hq, hp => by
    have hle : l.countP p ≤ l.countP q := List.countP_mono_left (fun x _ => hpq x)
    rw [List.countP_cons, List.countP_cons]
    rcases List.mem_cons.1 h with rfl | h
    · rw [hq, hp]
      simp
      omega
    · have ih := countP_lt l hpq h hq hp
      have h1 : (if p a = true then 1 else 0) ≤ (if q a = true then 1 else 0 : Nat) := by
        by_cases e : p a = true
        · rw [if_pos e, if_pos (hpq a e)]
          exact Nat.le_refl _
        · rw [if_neg e]
          exact Nat.zero_le _
      omega
theorem edgesOf_gN {N : Nat} {es : List (Int × Int)} (h : OkE N es) : edgesOf (gN es) = es := by
  unfold edgesOf gN
  rw [List.map_map]
  conv => rhs; rw [← List.map_id es]
  refine List.map_congr_left fun e he => ?_
  have := h e he
  obtain ⟨x, y⟩ := e
  dsimp only at this
  show (((x.toNat : Nat) : Int), ((y.toNat : Nat) : Int)) = (x, y)
  rw [Int.toNat_of_nonneg (by omega), Int.toNat_of_nonneg (by omega)]
theorem betwK_iff {f : Nat → Nat → Bool} {i j N : Nat} : betwK f i j N = true ↔ ∃ x, x < N ∧ f i x = true ∧ f x j = true := by
  unfold betwK
  rw [List.any_eq_true]
  constructor
  · rintro ⟨x, hx, h⟩
    simp at hx h
    exact ⟨x, hx, h⟩
  · rintro ⟨x, hx, h1, h2⟩
    exact ⟨x, by simpa using hx, by rw [h1, h2]; rfl⟩

/-- The covering pairs generate the order. -/
theorem cov_gen {N : Nat} {f : Nat → Nat → Bool} (hL : Low2 N f) (ht : Trans2 f) (hi : ∀ i, f i i = false) : war (covP N f) N = f := by
  have hsub : Sub2 (covP N f) f := by
    intro a b h
    unfold covP at h
    simp at h
    exact h.1
  have hlow : Low2 N (covP N f) := fun a b h => hL a b (hsub a b h)
  have hle : Sub2 (war (covP N f) N) f := war_least hsub ht N
  have hge : ∀ (m i j : Nat), ((List.range N).countP fun x => f i x && f x j) < m → f i j = true → war (covP N f) N i j = true := by
    intro m
    induction m with
    | zero => intro i j h; omega
    | succ m ih =>
      intro i j hm hij
      cases hb : betwK f i j N with
      | false =>
        refine war_sub _ N i j ?_
        unfold covP
        rw [hij, hb]
        rfl
      | true =>
        obtain ⟨x, hx, h1, h2⟩ := betwK_iff.1 hb
        have hmem : x ∈ List.range N := by simpa using hx
        have c1 : ((List.range N).countP fun y => f i y && f y x) < ((List.range N).countP fun y => f i y && f y j) :=
          countP_lt _ (fun y hy => by simp at hy ⊢; exact ⟨hy.1, ht y x j hy.2 h2⟩) hmem (by rw [h1, h2]; rfl) (by rw [h1, hi x]; rfl)
        have c2 : ((List.range N).countP fun y => f x y && f y j) < ((List.range N).countP fun y => f i y && f y j) :=
          countP_lt _ (fun y hy => by simp at hy ⊢; exact ⟨ht i x y h1 hy.1, hy.2⟩) hmem (by rw [h1, h2]; rfl) (by rw [hi x]; rfl)
        exact war_trans hlow i x j (ih i x (by omega) h1) (ih x j (by omega) h2)
  funext i j
  cases e : f i j with
  | true => exact hge _ i j (Nat.lt_succ_self _) e
  | false =>
    cases e2 : war (covP N f) N i j with
    | false => rfl
    | true => rw [hle i j e2] at e; cases e

/-- What PartialorderCovers asks. -/
theorem cov_law {n : Int} {es : List (Int × Int)} (hg : great4 n es = false) (hp : poE n es = 0) :
    genE n (edgesOf (covL n es)) = 0 ∧ edgesOf (genL n (edgesOf (covL n es))) = es ∧ subE (edgesOf (covL n es)) es = true ∧ (covL n es).length ≤ 64 ∧
      ∀ i x y : Nat, (covL n es)[i]? = some (x, y) → genE n (edgesOf ((covL n es).take i ++ (covL n es).drop (i + 1))) = 0 ∧ hasE (edgesOf (genL n (edgesOf ((covL n es).take i ++ (covL n es).drop (i + 1))))) x y = false := by
  obtain ⟨N, rfl, hN, hk, hok, ho, ht, hsrt⟩ := po_ok hp
  obtain ⟨hN8, h60⟩ := great_no hg
  have h8 : N * N ≤ 8 * 8 := Nat.mul_le_mul (by omega) (by omega)
  obtain ⟨f, hf⟩ : ∃ f, relG (gN es) = f := ⟨_, rfl⟩
  have hcv : covL (N : Int) es = prs N (covP N f) := by unfold covL; rw [if_pos hp, Int.toNat_natCast, hf]
  rw [hcv]
  have hself := prs_self (gN_lt hok) hsrt
  have hL := gN_low hok
  rw [hf] at ho ht hself hL
  have hi : ∀ i, f i i = false := by
    intro i
    cases e : f i i with
    | false => rfl
    | true =>
      have h1 := (loopK_false.1 ho) i (hL i i e).1
      rw [e] at h1
      cases h1
  have hcs : Sub2 (covP N f) f := by
    intro a b h
    unfold covP at h
    simp at h
    exact h.1
  have hcl : Low2 N (covP N f) := fun a b h => hL a b (hcs a b h)
  have hle := prs_le N (covP N f)
  have hokc : ∀ l : List (Nat × Nat), (∀ e, e ∈ l → e ∈ prs N (covP N f)) → OkE N (edgesOf l) := by
    rintro l hl ⟨x, y⟩ he
    obtain ⟨a, b, rfl, rfl, h⟩ := mem_edgesOf.1 he
    have := prs_lt _ (hl _ h)
    dsimp only at this ⊢
    omega
  have hF : genF N (edgesOf (prs N (covP N f))) = f := by
    unfold genF
    rw [gN_edgesOf, relG_prs hcl, cov_gen hL ht hi]
  obtain ⟨g1, g2⟩ := gen_of (es := edgesOf (prs N (covP N f))) hN (by rw [edgesOf_length]; omega) (hokc _ fun _ h => h) (by rw [hF]; exact ho) (by rw [hF]; have := prs_le N f; omega)
  rw [hF] at g2
  refine ⟨g1, by rw [g2, hself, edgesOf_gN hok], ?_, by omega, ?_⟩
  · rw [subE_iff]
    rintro ⟨x, y⟩ he
    obtain ⟨a, b, rfl, rfl, h⟩ := mem_edgesOf.1 he
    obtain ⟨_, _, h3⟩ := mem_prs.1 h
    exact (mem_gN hok).1 (relG_iff.1 (by rw [hf]; exact hcs a b h3))
  · intro i x y hxy
    obtain ⟨C, hC⟩ : ∃ C, prs N (covP N f) = C := ⟨_, rfl⟩
    rw [hC] at hxy
    obtain ⟨hlt, hget⟩ := List.getElem?_eq_some_iff.1 hxy
    have hcsrt : C.Pairwise ltP := by rw [← hC]; exact prsK_srt N _ _
    have hmemC : ∀ e, e ∈ C ↔ e ∈ prs N (covP N f) := fun e => by rw [hC]
    rw [hC]
    have hsplit : C = C.take i ++ (x, y) :: C.drop (i + 1) := by
      rw [← hget]
      simp
    have hcov : covP N f x y = true := by
      have h1 : (x, y) ∈ C := by rw [← hget]; exact List.getElem_mem hlt
      exact (mem_prs.1 ((hmemC _).1 h1)).2.2
    obtain ⟨L, hL'⟩ : ∃ L, C.take i ++ C.drop (i + 1) = L := ⟨_, rfl⟩
    have hmem : ∀ a b, (a, b) ∈ L → (a, b) ∈ C ∧ ¬ (a = x ∧ b = y) := by
      intro a b h
      rw [← hL'] at h
      rw [hsplit] at hcsrt
      obtain ⟨_, h2, h3⟩ := List.pairwise_append.1 hcsrt
      obtain ⟨h4, _⟩ := List.pairwise_cons.1 h2
      rcases List.mem_append.1 h with h | h
      · refine ⟨List.mem_of_mem_take h, ?_⟩
        rintro ⟨rfl, rfl⟩
        have h5 := h3 _ h _ (List.mem_cons_self ..)
        unfold ltP at h5
        dsimp only at h5
        omega
      · refine ⟨List.mem_of_mem_drop h, ?_⟩
        rintro ⟨rfl, rfl⟩
        have h5 := h4 _ h
        unfold ltP at h5
        dsimp only at h5
        omega
    rw [hL']
    have hokL := hokc L (fun e he => (hmemC e).1 (hmem e.1 e.2 he).1)
    have hlL : L.length ≤ 64 := by
      have h1 : L.length ≤ C.length := by rw [← hL', List.length_append, List.length_take, List.length_drop]; omega
      rw [← hC] at h1
      omega
    let h : Nat → Nat → Bool := fun a b => f a b && !(decide (a = x) && decide (b = y))
    have hh : ∀ a b, h a b = true ↔ f a b = true ∧ ¬ (a = x ∧ b = y) := by
      intro a b
      by_cases h1 : a = x <;> by_cases h2 : b = y <;> simp [h, h1, h2]
    have hsub : Sub2 (relG (gN (edgesOf L))) h := by
      intro a b hab
      rw [gN_edgesOf] at hab
      obtain ⟨h1, h2⟩ := hmem a b (relG_iff.1 hab)
      obtain ⟨_, _, h3⟩ := mem_prs.1 ((hmemC _).1 h1)
      exact (hh a b).2 ⟨hcs a b h3, h2⟩
    have htr : Trans2 h := by
      intro a b d h1 h2
      obtain ⟨f1, _⟩ := (hh a b).1 h1
      obtain ⟨f2, _⟩ := (hh b d).1 h2
      refine (hh a d).2 ⟨ht a b d f1 f2, ?_⟩
      rintro ⟨rfl, rfl⟩
      unfold covP at hcov
      have hb := betwK_iff.2 ⟨b, (hL a b f1).2, f1, f2⟩
      rw [hb] at hcov
      simp at hcov
    have hgen : Sub2 (genF N (edgesOf L)) h := war_least hsub htr N
    have hlo : loopK (genF N (edgesOf L)) N = false := by
      rw [loopK_false]
      intro a _
      cases e : genF N (edgesOf L) a a with
      | false => rfl
      | true =>
        have h1 := ((hh a a).1 (hgen a a e)).1
        rw [hi a] at h1
        cases h1
    have hle2 := prs_le N (genF N (edgesOf L))
    obtain ⟨k1, k2⟩ := gen_of (es := edgesOf L) hN (by rw [edgesOf_length]; omega) hokL hlo (by omega)
    refine ⟨k1, ?_⟩
    rw [k2]
    cases e : hasE (edgesOf (prs N (genF N (edgesOf L)))) (x : Int) (y : Int) with
    | false => rfl
    | true =>
      obtain ⟨a, b, e1, e2, h1⟩ := mem_edgesOf.1 (hasE_iff.1 e)
      obtain rfl : x = a := by omega
      obtain rfl : y = b := by omega
      obtain ⟨_, _, h3⟩ := mem_prs.1 h1
      exact absurd ⟨rfl, rfl⟩ ((hh x y).1 (hgen x y h3)).2

end Go.Proofs.Ytbfeiegjhcjbnaa
