/-
  The program's shortest cycle is the reference's.
-/
import Derived.Test.YtcggmonnajggcaaRefCycle
import Derived.Test.YtcggmonnajggcaaCycPlain
namespace Go.Proofs.Ytcggmonnajggcaa

/-! ### The reference's distances are those of shortest paths -/

theorem getD_set_at {r : List Int} {u x : Nat} {z : Int} (hu : u < r.length) : (r.set u z).getD x (-1) = if x = u then z else r.getD x (-1) := by
  rw [List.getD_eq_getElem?_getD, List.getD_eq_getElem?_getD]
  by_cases e : x = u
  · subst e; rw [if_pos rfl, List.getElem?_set_self hu]; rfl
  · rw [if_neg e, List.getElem?_set_ne (fun h => e h.symm)]
/-- Up to k edges the distances to t are right. -/
def SwInv (N : Nat) (g : List (Nat × Nat)) (t k : Nat) (r : List Int) : Prop := r.length = N ∧ ∀ x, x < N → (∀ d, d ≤ k → Low g d x t → r.getD x (-1) = (d : Int)) ∧ ((∀ d, d ≤ k → ¬ Low g d x t) → r.getD x (-1) = -1)
theorem SwInv.start (N t : Nat) (g : List (Nat × Nat)) (ht : t < N) : SwInv N g t 0 (dist0 N t) := by
  have key : ∀ x, (dist0 N t).getD x (-1) = if x = t then 0 else -1 := by
    intro x
    unfold dist0
    rw [getD_set_at (by simp; exact ht), List.getD_eq_getElem?_getD, List.getElem?_replicate]
    by_cases hx : x < N <;> simp [hx]
  refine ⟨by simp [dist0], fun x hx => ⟨fun d hd hl => ?_, fun hn => ?_⟩⟩
  · obtain rfl : d = 0 := by omega
    have e : x = t := hl.1
    rw [key, if_pos e]
    rfl
  · have hne : x ≠ t := fun e => hn 0 (Nat.le_refl _) ⟨e, fun e he => absurd he (by omega)⟩
    rw [key, if_neg hne]
/-- An edge from x among the first k leads to a node at distance d. -/
def HitK (g : List (Nat × Nat)) (d : Nat) (r : List Int) (k x : Nat) : Prop := ∃ e, e ∈ g.take k ∧ e.1 = x ∧ r.getD e.2 (-1) = (d : Int)
theorem sweep_get {N d : Nat} {g : List (Nat × Nat)} {r : List Int} (hg : ∀ e, e ∈ g → e.1 < N ∧ e.2 < N) (hr : r.length = N) (k : Nat) (hk : k ≤ g.length) :
    ((g.take k).foldl (dist1 d) r).length = N ∧ ∀ x, x < N → (r.getD x (-1) < 0 → HitK g d r k x → ((g.take k).foldl (dist1 d) r).getD x (-1) = (d : Int) + 1) ∧ ((0 ≤ r.getD x (-1) ∨ ¬ HitK g d r k x) → ((g.take k).foldl (dist1 d) r).getD x (-1) = r.getD x (-1)) := by
  induction k with
  | zero =>
    refine ⟨hr, fun x hx => ⟨fun _ hh => ?_, fun _ => rfl⟩⟩
    obtain ⟨e, he, _⟩ := hh
    simp at he
  | succ k ih =>
    obtain ⟨h1, h2⟩ := ih (by omega)
    obtain ⟨e, he⟩ : ∃ e, g[k]? = some e := ⟨_, List.getElem?_eq_getElem (by omega)⟩
    obtain ⟨hu, hv⟩ := hg e (List.mem_of_getElem? he)
    rw [fold_snoc (dist1 d) r g k e he]
    obtain ⟨rk, hrk⟩ : ∃ rk, (g.take k).foldl (dist1 d) r = rk := ⟨_, rfl⟩
    rw [hrk] at h1 h2 ⊢
    have hs : ∀ x, HitK g d r (k + 1) x ↔ HitK g d r k x ∨ (e.1 = x ∧ r.getD e.2 (-1) = (d : Int)) := by
      intro x
      unfold HitK
      rw [List.take_add_one, he]
      simp only [Option.toList_some, List.mem_append, List.mem_singleton]
      constructor
      · rintro ⟨y, hy | rfl, h⟩
        · exact .inl ⟨y, hy, h⟩
        · exact .inr h
      · rintro (⟨y, hy, h⟩ | h)
        · exact ⟨y, .inl hy, h⟩
        · exact ⟨e, .inr rfl, h⟩
    have hvd : rk.getD e.2 (-1) = (d : Int) ↔ r.getD e.2 (-1) = (d : Int) := by
      obtain ⟨a, b⟩ := h2 e.2 hv
      by_cases h0 : 0 ≤ r.getD e.2 (-1)
      · rw [b (.inl h0)]
      · by_cases hh : HitK g d r k e.2
        · rw [a (by omega) hh]; omega
        · rw [b (.inr hh)]
    unfold dist1
    by_cases hc : rk.getD e.2 (-1) = (d : Int) ∧ rk.getD e.1 (-1) < 0
    · rw [if_pos hc]
      refine ⟨by simp [h1], fun x hx => ?_⟩
      rw [getD_set_at (by omega)]
      obtain ⟨a, b⟩ := h2 x hx
      by_cases exu : x = e.1
      · subst exu
        rw [if_pos rfl]
        refine ⟨fun _ _ => rfl, fun hn => ?_⟩
        have hh : HitK g d r (k + 1) e.1 := (hs e.1).2 (.inr ⟨rfl, hvd.1 hc.1⟩)
        rcases hn with hn | hn
        · rw [b (.inl hn)] at hc; omega
        · exact absurd hh hn
      · rw [if_neg exu]
        refine ⟨fun h0 hh => a h0 (((hs x).1 hh).resolve_right (fun h => exu h.1.symm)), fun hn => b ?_⟩
        rcases hn with hn | hn
        · exact .inl hn
        · exact .inr (fun hh => hn ((hs x).2 (.inl hh)))
    · rw [if_neg hc]
      refine ⟨h1, fun x hx => ?_⟩
      obtain ⟨a, b⟩ := h2 x hx
      refine ⟨fun h0 hh => ?_, fun hn => b ?_⟩
      · rcases (hs x).1 hh with hh | ⟨e1, e2⟩
        · exact a h0 hh
        · by_cases hh' : HitK g d r k x
          · exact a h0 hh'
          · exfalso
            apply hc
            refine ⟨hvd.2 e2, ?_⟩
            rw [e1, b (.inr hh')]
            exact h0
      · rcases hn with hn | hn
        · exact .inl hn
        · exact .inr (fun hh => hn ((hs x).2 (.inl hh)))
theorem SwInv.sweep {N t d : Nat} {g : List (Nat × Nat)} {r : List Int} (hg : ∀ e, e ∈ g → e.1 < N ∧ e.2 < N) (h : SwInv N g t d r) : SwInv N g t (d + 1) (distN g r d) := by
  obtain ⟨h1, h2⟩ := h
  have key := sweep_get (d := d) hg h1 g.length (Nat.le_refl _)
  rw [List.take_length] at key
  unfold distN
  obtain ⟨k1, k2⟩ := key
  have hit : ∀ x, HitK g d r g.length x ↔ ∃ v, (x, v) ∈ g ∧ Low g d v t := by
    intro x
    unfold HitK
    rw [List.take_length]
    constructor
    · rintro ⟨⟨u, v⟩, he, rfl, hv⟩
      refine ⟨v, he, ?_⟩
      have hvN := (hg _ he).2
      by_cases hl : ∃ c, c ≤ d ∧ Low g c v t
      · obtain ⟨c, hc, hl⟩ := hl
        have := (h2 v hvN).1 c hc hl
        simp only [] at hv
        rw [this] at hv
        have : c = d := by omega
        rwa [← this]
      · have := (h2 v hvN).2 (fun c hc hl' => hl ⟨c, hc, hl'⟩)
        simp only [] at hv
        omega
    · rintro ⟨v, he, hl⟩
      exact ⟨(x, v), he, rfl, (h2 v (hg _ he).2).1 d (Nat.le_refl _) hl⟩
  refine ⟨k1, fun x hx => ?_⟩
  obtain ⟨a, b⟩ := h2 x hx
  obtain ⟨c1, c2⟩ := k2 x hx
  refine ⟨fun c hc hl => ?_, fun hn => ?_⟩
  · by_cases hcd : c ≤ d
    · have := a c hcd hl
      rw [c2 (.inl (by omega)), this]
    · obtain rfl : c = d + 1 := by omega
      have hn : ∀ e, e ≤ d → ¬ Low g e x t := fun e he hle => by
        have := hl.uniq hle
        omega
      have h0 := b hn
      obtain ⟨v, hv, hlv⟩ := hl.next
      rw [c1 (by omega) ((hit x).2 ⟨v, hv, hlv⟩)]
      omega
  · have h0 := b (fun c hc => hn c (by omega))
    rw [c2 (.inr (fun hh => ?_)), h0]
    obtain ⟨v, hv, hlv⟩ := (hit x).1 hh
    obtain ⟨e, he, hle⟩ := Low.exists (hlv.1.cons hv)
    exact hn e (by omega) hle
theorem distF_get {N t x : Nat} {g : List (Nat × Nat)} (hg : ∀ e, e ∈ g → e.1 < N ∧ e.2 < N) (ht : t < N) (hx : x < N) : (∀ d, Low g d x t → (distF N g t).getD x (-1) = (d : Int)) ∧ ((∀ d, ¬ Low g d x t) → (distF N g t).getD x (-1) = -1) := by
  have key : ∀ k, SwInv N g t k ((List.range k).foldl (distN g) (dist0 N t)) := by
    intro k
    induction k with
    | zero => exact SwInv.start N t g ht
    | succ k ih => rw [range_fold]; exact ih.sweep hg
  obtain ⟨_, h⟩ := key N
  obtain ⟨a, b⟩ := h x hx
  exact ⟨fun d hl => a d (by have := hl.lt hg hx; omega) hl, fun hn => b (fun d _ => hn d)⟩

/-! ### The nearest successor, the next node -/

theorem dist_cases {N t x : Nat} {g : List (Nat × Nat)} (hg : ∀ e, e ∈ g → e.1 < N ∧ e.2 < N) (ht : t < N) (hx : x < N) : (∃ d, Low g d x t ∧ (distF N g t).getD x (-1) = (d : Int)) ∨ ((∀ d, ¬ Low g d x t) ∧ (distF N g t).getD x (-1) = -1) := by
  obtain ⟨a, b⟩ := distF_get hg ht hx
  by_cases h : ∃ d, Low g d x t
  · obtain ⟨d, hd⟩ := h
    exact .inl ⟨d, hd, a d hd⟩
  · have hn : ∀ d, ¬ Low g d x t := fun d hd => h ⟨d, hd⟩
    exact .inr ⟨hn, b hn⟩
theorem bestK_spec {g : List (Nat × Nat)} {d : List Int} {s : Nat} (k : Nat) : (bestK g d s k = none ∧ ∀ i, i < k → (s, i) ∈ g → d.getD i (-1) < 0) ∨ (∃ b, bestK g d s k = some b ∧ b < k ∧ (s, b) ∈ g ∧ 0 ≤ d.getD b (-1) ∧ ∀ i, i < k → (s, i) ∈ g → 0 ≤ d.getD i (-1) → d.getD b (-1) ≤ d.getD i (-1) ∧ (d.getD i (-1) = d.getD b (-1) → b ≤ i)) := by
  induction k with
  | zero => exact .inl ⟨rfl, fun i hi => absurd hi (by omega)⟩
  | succ k ih =>
    rw [bestK_succ]
    unfold bestB
    by_cases hc : g.contains (s, k) = true ∧ 0 ≤ d.getD k (-1) ∧ (∀ j, bestK g d s k = some j → d.getD k (-1) < d.getD j (-1))
    · rw [if_pos hc]
      right
      have hm : (s, k) ∈ g := by simpa using hc.1
      refine ⟨k, rfl, by omega, hm, hc.2.1, fun i hi hig h0 => ?_⟩
      by_cases e : i = k
      · subst e; exact ⟨Int.le_refl _, fun _ => Nat.le_refl _⟩
      · rcases ih with ⟨h1, h2⟩ | ⟨b, h1, h2, h3, h4, h5⟩
        · have := h2 i (by omega) hig; omega
        · have := h5 i (by omega) hig h0
          have := hc.2.2 b h1
          omega
    · rw [if_neg hc]
      rcases ih with ⟨h1, h2⟩ | ⟨b, h1, h2, h3, h4, h5⟩
      · left
        refine ⟨h1, fun i hi hig => ?_⟩
        by_cases e : i = k
        · subst e
          by_cases h0 : 0 ≤ d.getD i (-1)
          · exfalso
            apply hc
            exact ⟨by simpa using hig, h0, fun j hj => by rw [h1] at hj; cases hj⟩
          · omega
        · exact h2 i (by omega) hig
      · right
        refine ⟨b, h1, by omega, h3, h4, fun i hi hig h0 => ?_⟩
        by_cases e : i = k
        · subst e
          have hnl : ¬ d.getD i (-1) < d.getD b (-1) := fun hl => hc ⟨by simpa using hig, h0, fun j hj => by rw [h1] at hj; cases hj; exact hl⟩
          omega
        · exact h5 i (by omega) hig h0
/-- Of the successors of x the least one from which the rest is a. -/
theorem stepC_least {g : List (Nat × Nat)} {s a x y : Nat} (hs : SrtN g) (he : (x, y) ∈ g) (hy : dstN g y s = a) (hb : ∀ z, z < y → (x, z) ∈ g → dstN g z s ≠ a) : stepC g s a x = y := by
  have hm : y ∈ succN g x := mem_succN.2 he
  obtain ⟨p, q, hpq⟩ := List.append_of_mem hm
  have hsrt := succN_srt hs x
  rw [hpq] at hsrt
  refine stepC_hit (pre := p) ⟨q, by rw [hpq]; simp⟩ (fun z hz => ?_) hy
  have hzy : z < y := (List.pairwise_append.1 hsrt).2.2 z hz y (by simp)
  exact hb z hzy (mem_succN.1 (by rw [hpq]; simp [hz]))
theorem Low.dst {g : List (Nat × Nat)} {a y s : Nat} (h : Low g (a + 1) y s) : dstN g y s = a + 1 :=
  dstN_eq (by omega) h.1 (fun e he => by
    by_cases hlt : e + 1 < a + 1
    · exact absurd he (h.2 (e + 1) hlt)
    · omega)
theorem dst_low {g : List (Nat × Nat)} {a y s : Nat} (h : dstN g y s = a + 1) (hne : y ≠ s) : Low g (a + 1) y s := by
  obtain ⟨h1, h2⟩ := dstN_pos (g := g) (s := y) (v := s) (by omega)
  rw [h] at h1 h2
  refine ⟨h1, fun e he hw => ?_⟩
  cases e with
  | zero => exact hne hw
  | succ e => have := h2 e hw; omega
theorem walk_same {N : Nat} {g : List (Nat × Nat)} {s L : Nat} (hg : ∀ e, e ∈ g → e.1 < N ∧ e.2 < N) (hsr : SrtN g) (hsN : s < N) (hL : dstN g s s = L + 1) (a x : Nat) (hxN : x < N) (hl : Low g (a + 1) x s) (ha : a + 1 ≤ L) : walkF N g (distF N g s) s (a + 1) x = x :: walkC g s a x := by
  induction a generalizing x with
  | zero => rfl
  | succ a ih =>
    obtain ⟨y0, hy0, hl0⟩ := hl.next
    have hdx := (distF_get hg hsN hxN).1 _ hl
    have near : ∀ i, i < N → (nearB g (distF N g s) x i = true ↔ (x, i) ∈ g ∧ Low g (a + 1) i s) := by
      intro i hi
      unfold nearB
      rw [hdx]
      simp only [Bool.and_eq_true, beq_iff_eq]
      constructor
      · rintro ⟨h1, h2⟩
        refine ⟨by simpa using h1, ?_⟩
        rcases dist_cases hg hsN hi with ⟨d, hd, hv⟩ | ⟨_, hv⟩
        · rw [hv] at h2
          obtain rfl : d = a + 1 := by omega
          exact hd
        · rw [hv] at h2; omega
      · rintro ⟨h1, h2⟩
        refine ⟨by simpa using h1, ?_⟩
        rw [(distF_get hg hsN hi).1 _ h2]
        omega
    cases hn : nearF N g (distF N g s) x with
    | none =>
      unfold nearF at hn
      rw [List.find?_eq_none] at hn
      exact absurd ((near y0 (hg _ hy0).2).2 ⟨hy0, hl0⟩) (hn y0 (by simpa using (hg _ hy0).2))
    | some y =>
      have hsp := hn
      unfold nearF at hsp
      rw [List.find?_range_eq_some] at hsp
      obtain ⟨q1, q2, q3⟩ := hsp
      have hyN : y < N := by simpa using q2
      obtain ⟨hxy, hly⟩ := (near y hyN).1 q1
      have hst : stepC g s (a + 1) x = y := by
        refine stepC_least hsr hxy hly.dst (fun z hz hxz hd => ?_)
        have hzs : z ≠ s := fun e => by subst e; rw [hL] at hd; omega
        have h3 := q3 z hz
        rw [(near z (hg _ hxz).2).2 ⟨hxz, dst_low hd hzs⟩] at h3
        cases h3
      rw [walkF, hn, Option.getD_some, ih y hyN hly (by omega), walkC, hst]
theorem around_same {N : Nat} {g : List (Nat × Nat)} {s : Nat} (hg : ∀ e, e ∈ g → e.1 < N ∧ e.2 < N) (hsr : SrtN g) (hsN : s < N) : (dstN g s s = 0 → aroundF N g s = []) ∧ (∀ L, dstN g s s = L + 1 → aroundF N g s = s :: walkC g s L s) := by
  unfold aroundF
  rcases bestK_spec (g := g) (d := distF N g s) (s := s) N with ⟨h1, h2⟩ | ⟨b, h1, h2, h3, h4, h5⟩
  · rw [h1]
    refine ⟨fun _ => rfl, fun L hL => ?_⟩
    exfalso
    obtain ⟨hw, _⟩ := dstN_pos (g := g) (s := s) (v := s) (by omega)
    rw [hL] at hw
    obtain ⟨x, hx, hwx⟩ := hw.first
    obtain ⟨e, _, hl⟩ := Low.exists hwx
    have hxN : x < N := (hg _ hx).2
    have := h2 x hxN hx
    rw [(distF_get hg hsN hxN).1 e hl] at this
    omega
  · rw [h1]
    rcases dist_cases hg hsN h2 with ⟨d, hd, hv⟩ | ⟨_, hv⟩
    · have hds : dstN g s s = d + 1 := by
        refine dstN_eq (by omega) (hd.1.cons h3) (fun e he => ?_)
        obtain ⟨x, hx, hwx⟩ := he.first
        obtain ⟨c, hc, hl⟩ := Low.exists hwx
        have hxN : x < N := (hg _ hx).2
        have h6 := (distF_get hg hsN hxN).1 c hl
        have h7 := (h5 x hxN hx (by omega)).1
        omega
      refine ⟨fun h0 => by omega, fun L hL => ?_⟩
      obtain rfl : d = L := by omega
      show s :: walkF N g (distF N g s) s ((distF N g s).getD b (-1)).toNat b = _
      rw [hv, Int.toNat_natCast]
      cases d with
      | zero => rfl
      | succ a =>
        have hst : stepC g s (a + 1) s = b := by
          refine stepC_least hsr h3 hd.dst (fun z hz hsz hdz => ?_)
          have hzs : z ≠ s := fun e => by subst e; rw [hL] at hdz; omega
          have hlz := dst_low hdz hzs
          have hzN : z < N := (hg _ hsz).2
          have h6 := (distF_get hg hsN hzN).1 _ hlz
          have := (h5 z hzN hsz (by omega)).2 (by rw [h6, hv])
          omega
        rw [walk_same hg hsr hsN hL a b h2 hd (Nat.le_refl _), walkC, hst]
    · omega
/-- The program's shortest cycle is the reference's. -/
theorem cyc_same {N : Nat} {g : List (Nat × Nat)} (hg : ∀ e, e ∈ g → e.1 < N ∧ e.2 < N) (hsr : SrtN g) : cycK N g N = cycD N g := by
  have key : ∀ k, k ≤ N → cycK N g k = (if (bst g k).1 = 0 then [] else (bst g k).2 :: walkC g (bst g k).2 ((bst g k).1 - 1) (bst g k).2) := by
    intro k
    induction k with
    | zero => intro _; rfl
    | succ k ih =>
      intro hk
      have h0 := ih (by omega)
      unfold cycK at h0 ⊢
      rw [range_fold, h0, bst_succ]
      obtain ⟨p, hp⟩ : ∃ p, bst g k = p := ⟨_, rfl⟩
      rw [hp]
      obtain ⟨a, st⟩ := p
      obtain ⟨hz, hpos⟩ := around_same hg hsr (show k < N by omega)
      unfold pickC bst1
      simp only []
      have hlen : (aroundF N g k).length = dstN g k k := by
        cases hd : dstN g k k with
        | zero => rw [hz hd]; rfl
        | succ L => rw [hpos L hd, List.length_cons, walkC_length]
      have hlo : (if a = 0 then ([] : List Nat) else st :: walkC g st (a - 1) st).length = a := by
        by_cases ha : a = 0
        · rw [if_pos ha, ha]; rfl
        · rw [if_neg ha, List.length_cons, walkC_length]; omega
      rw [hlen, hlo]
      by_cases hc : 0 < dstN g k k ∧ (a = 0 ∨ dstN g k k < a)
      · rw [if_pos hc, if_pos hc]
        simp only []
        obtain ⟨L, hL⟩ : ∃ L, dstN g k k = L + 1 := ⟨dstN g k k - 1, by omega⟩
        rw [hpos L hL, hL, if_neg (by omega), Nat.add_sub_cancel]
      · rw [if_neg hc, if_neg hc]
  exact key N (Nat.le_refl _)

end Go.Proofs.Ytcggmonnajggcaa
