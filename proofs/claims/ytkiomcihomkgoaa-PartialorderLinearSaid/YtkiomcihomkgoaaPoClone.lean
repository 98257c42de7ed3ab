/-
  The library's Clone over pairs; what partialorder's Generate gives when two concurrent elements are put in an order.
-/
import Derived.Test.YtkiomcihomkgoaaPoMath
import Derived.Test.YtkiomcihomkgoaaAwake4
namespace Go.Proofs.Ytkiomcihomkgoaa
open Go.RowKit

theorem edV_length (l : List (Nat × Nat)) : (edV l).length = l.length * 2 := by
  induction l with
  | nil => rfl
  | cons x xs ih =>
    have e : edV (x :: xs) = [.int .i64 (x.1 : Int), .int .i64 (x.2 : Int)] ++ edV xs := by simp [edV]
    rw [e, List.length_append, ih, List.length_cons]
    simp
    omega
theorem edV_one (l : List (Nat × Nat)) : ∀ u ∈ edV l, u.oneCell' = true := by
  intro u hu
  unfold edV at hu
  obtain ⟨e, _, h⟩ := List.mem_flatMap.1 hu
  simp at h
  rcases h with rfl | rfl <;> rfl
theorem edV_cells {N n b off : Nat} {es : List (Int × Int)} {w : World} (hok : OkE N es) (hE : EdgesA n w (some ⟨b, off, none⟩) es) : ∀ j u, (edV (gN es))[j]? = some u → w.cell? ⟨b, off + j, none⟩ = some u := by
  intro j u hj
  have hlt : j < (edV (gN es)).length := (List.getElem?_eq_some_iff.1 hj).1
  rw [edV_length, gN_length] at hlt
  obtain ⟨x, y, he, hx, hy, hg⟩ := hok.at_ (k := j / 2) (by omega)
  obtain ⟨b', off', e', _, h1, h2⟩ := hE (j / 2) (by omega)
  cases e'
  rw [he] at h1 h2
  have hg' : (gN es)[j / 2]'(by rw [gN_length]; omega) = (x, y) := (List.getElem?_eq_some_iff.1 hg).2
  obtain ⟨g1, g2⟩ := edV_get (gN es) (j / 2) (by rw [gN_length]; omega)
  rw [hg'] at g1 g2
  rcases Nat.mod_two_eq_zero_or_one j with hm | hm
  · rw [show j = j / 2 * 2 from by omega] at hj ⊢
    rw [g1] at hj
    cases hj
    exact h1
  · rw [show j = j / 2 * 2 + 1 from by omega] at hj ⊢
    rw [g2] at hj
    cases hj
    exact h2

set_option maxRecDepth 100000 in
set_option maxHeartbeats 2000000 in
theorem cloneE_any (N n₀ : Nat) (ad : Option Addr) (cap : Nat) (es : List (Int × Int)) (w : World) (hok : OkE N es) (hl : es.length ≤ 2000) (hE : EdgesA n₀ w ad es) :
    Calls Try.prog 34 #[.slice ad es.length cap] w fun e w' => ∃ v, e = .returned v ∧ OwnE w.heap.size (gN es) v w' ∧ Below w.heap.size w w' := by
  obtain ⟨i3, ki, kz0, kz1, kz2⟩ := info_parts infoE
  have q22 : ∀ (w : World) (a : Option Addr) (n c n' c' : Nat), (binOp .eql 22 (.slice a n c) (.slice none n' c')).run Try.prog w = .ok (.bool a.isNone) w := fun w a n c n' c' => Lib.run_eql_slice_nil w _ _ a n c n' c' Try.underlying22
  cases ad with
  | none =>
    have hz : es = [] := by
      cases es with
      | nil => rfl
      | cons x xs =>
        obtain ⟨b, off, e, _⟩ := hE 0 (by simp)
        cases e
    subst hz
    clear hE
    go_enter Try.func34, Try.ntmps34
    go_wp2
    go_ret
    exact ⟨_, rfl, OwnE.nil _ _, Below.refl _ _⟩
  | some q =>
    have hc : ∀ j u, (edV (gN es))[j]? = some u → (w.alloc (.cells #[] TE)).cell? (q.add j) = some u := by
      intro j u hj
      have hlt : j < (edV (gN es)).length := (List.getElem?_eq_some_iff.1 hj).1
      rw [edV_length, gN_length] at hlt
      obtain ⟨b, off, e, _⟩ := hE 0 (by omega)
      cases e
      rw [Addr.add_lit]
      exact Lib.cell?_alloc_some _ (edV_cells hok hE j u hj)
    have HC := Lib.hid hc
    have hln : (gN es).length = es.length := gN_length es
    clear hc hE
    go_enter Try.func34, Try.ntmps34
    go_wp2_with (at_builtin; refine wpList_append_own _ rfl _ _ 22 rfl w.heap.size TE i3 (.agg #[.int .i64 0, .int .i64 0]) 2 16 Try.underlying22 ki kz0 kz1 kz2 rfl (by decide) _ _ _ rfl (World.ownsRow_made w #[] 0 (Nat.le_refl _) (Nat.zero_le _) rfl) q es.length cap (edV (gN es)) rfl ?qc1 HC.out (edV_one _) ?qc4 ?qc5 ?qc6 ?_)
    case qc1 => rw [edV_length, hln]
    case qc4 => unfold maxLen; omega
    case qc5 => omega
    case qc6 => simp
    intro v' w1 hown hgrow hnil
    go_wp2
    go_ret
    refine ⟨v', rfl, ?_, ((Below.refl _ w).alloc (Nat.le_refl _) _).grown hgrow (by simp) (by intro k hk; simp [Value.ownBlock] at hk; omega)⟩
    unfold OwnE
    rw [hln]
    simpa using hown

/-- Two concurrent elements, put in an order: a strict partial order comes of it. -/
theorem refine_gen {n : Int} {es : List (Int × Int)} {a b N : Nat} (hg : great4 n es = false) (hp : poE n es = 0) (hn : n = (N : Int)) (ha : a < N) (hb : b < N) (hab : a ≠ b) (hba : relG (gN es) b a = false) :
    genE n (edgesOf (gN es ++ [(a, b)])) = 0 ∧ subE es (edgesOf (genL n (edgesOf (gN es ++ [(a, b)])))) = true ∧ hasE (edgesOf (genL n (edgesOf (gN es ++ [(a, b)])))) a b = true ∧ hasE (edgesOf (genL n (edgesOf (gN es ++ [(a, b)])))) b a = false := by
  obtain ⟨N', rfl, hN, hk, hok, ho, ht, _⟩ := po_ok hp
  obtain rfl : N' = N := by omega
  obtain ⟨hN8, h60⟩ := great_no hg
  obtain ⟨E, hE⟩ : ∃ E, edgesOf (gN es ++ [(a, b)]) = E := ⟨_, rfl⟩
  have hmem : ∀ x y : Nat, ((x : Int), (y : Int)) ∈ E ↔ (x, y) ∈ gN es ∨ (x = a ∧ y = b) := by
    intro x y
    rw [← hE, mem_edgesOf]
    constructor
    · rintro ⟨p, q, e1, e2, h⟩
      obtain rfl : x = p := by omega
      obtain rfl : y = q := by omega
      simpa using h
    · intro h
      exact ⟨x, y, rfl, rfl, by simpa using h⟩
  have hokE : OkE N' E := by
    rintro ⟨x, y⟩ he
    rw [← hE] at he
    obtain ⟨p, q, rfl, rfl, h⟩ := mem_edgesOf.1 he
    dsimp only
    rcases List.mem_append.1 h with h | h
    · have := gN_lt hok _ h
      dsimp only at this
      omega
    · simp at h
      omega
  have hlE : E.length ≤ 61 := by rw [← hE, edgesOf_length, List.length_append, gN_length]; simp; omega
  let f := relG (gN es)
  let h : Nat → Nat → Bool := fun x y => f x y || ((decide (x = a) || f x a) && (decide (y = b) || f b y))
  have hh : ∀ x y, h x y = true ↔ f x y = true ∨ ((x = a ∨ f x a = true) ∧ (y = b ∨ f b y = true)) := by
    intro x y
    simp [h]
  have hsub : Sub2 (relG (gN E)) h := by
    intro x y hxy
    have h1 := (mem_gN hokE).1 (relG_iff.1 hxy)
    rw [hh]
    rcases (hmem x y).1 h1 with h2 | ⟨rfl, rfl⟩
    · exact .inl (relG_iff.2 h2)
    · exact .inr ⟨.inl rfl, .inl rfl⟩
  have fab : ∀ x, f x a = true → f b x = true → False := by
    intro x h1 h2
    have := ht b x a h2 h1
    rw [hba] at this
    cases this
  have htr : Trans2 h := by
    intro x y z h1 h2
    rw [hh] at *
    rcases h1 with h1 | ⟨p1, p2⟩ <;> rcases h2 with h2 | ⟨q1, q2⟩
    · exact .inl (ht x y z h1 h2)
    · refine .inr ⟨?_, q2⟩
      rcases q1 with rfl | q1
      · exact .inr h1
      · exact .inr (ht x y a h1 q1)
    · refine .inr ⟨p1, ?_⟩
      rcases p2 with rfl | p2
      · exact .inr h2
      · exact .inr (ht b y z p2 h2)
    · refine .inr ⟨p1, q2⟩
  have hgen : Sub2 (genF N' E) h := war_least hsub htr N'
  have firr : ∀ i, f i i = true → False := by
    intro i hi
    have hlt := gN_low hok i i hi
    have := (loopK_false.1 ho) i hlt.1
    rw [show relG (gN es) i i = true from hi] at this
    cases this
  have hirr : ∀ i, genF N' E i i = false := by
    intro i
    cases e : genF N' E i i with
    | false => rfl
    | true =>
      rcases (hh i i).1 (hgen i i e) with h1 | ⟨p1, p2⟩
      · exact (firr i h1).elim
      · rcases p1 with rfl | p1 <;> rcases p2 with p2 | p2
        · exact absurd p2 hab
        · rw [show relG (gN es) b i = f b i from rfl, p2] at hba; cases hba
        · subst p2; rw [show relG (gN es) i a = f i a from rfl, p1] at hba; cases hba
        · exact (fab i p1 p2).elim
  have h8 : N' * N' ≤ 8 * 8 := Nat.mul_le_mul (by omega) (by omega)
  have hle := prs_le N' (genF N' E)
  obtain ⟨g1, g2⟩ := gen_of (es := E) hN (by omega) hokE (loopK_false.2 fun i _ => hirr i) (by omega)
  obtain ⟨_, k2, _, _⟩ := least_is g1
  rw [hE]
  have hk2 := subE_iff.1 k2
  refine ⟨g1, subE_iff.2 (fun e he => hk2 e ?_), hasE_iff.2 (hk2 _ ((hmem a b).2 (.inr ⟨rfl, rfl⟩))), ?_⟩
  · obtain ⟨x, y⟩ := e
    have hb := hok _ he
    dsimp only at hb
    have h1 := (hmem x.toNat y.toNat).2 (.inl ((mem_gN hok).2 (by rw [Int.toNat_of_nonneg (by omega), Int.toNat_of_nonneg (by omega)]; exact he)))
    rw [Int.toNat_of_nonneg (by omega), Int.toNat_of_nonneg (by omega)] at h1
    exact h1
  · cases e : hasE (edgesOf (genL (N' : Int) E)) b a with
    | false => rfl
    | true =>
      have h1 := hasE_iff.1 e
      rw [g2] at h1
      obtain ⟨p, q, e1, e2, h2⟩ := mem_edgesOf.1 h1
      obtain rfl : b = p := by omega
      obtain rfl : a = q := by omega
      obtain ⟨_, _, h3⟩ := mem_prs.1 h2
      have h4 := hgen b a h3
      have hab' := hk2 _ ((hmem a b).2 (.inr ⟨rfl, rfl⟩))
      rw [g2] at hab'
      obtain ⟨p', q', e1', e2', h5⟩ := mem_edgesOf.1 hab'
      obtain rfl : a = p' := by omega
      obtain rfl : b = q' := by omega
      obtain ⟨_, _, h6⟩ := mem_prs.1 h5
      have h7 := genF_trans hokE a b a h6 h3
      rw [hirr] at h7
      cases h7

end Go.Proofs.Ytkiomcihomkgoaa
