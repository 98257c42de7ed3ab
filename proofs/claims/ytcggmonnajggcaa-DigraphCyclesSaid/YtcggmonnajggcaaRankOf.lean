/-
  The plain mathematics of an order's ranks (no program in it): what Order's list is at each position; the rank of a node is one more than the greatest of its predecessors'.
-/
import Derived.Test.YtcggmonnajggcaaRankPlain
import Derived.Test.YtcggmonnajggcaaKahnPlain
namespace Go.Proofs.Ytcggmonnajggcaa

/-- At each position of the order stands the next node. -/
theorem order_at {N : Nat} {g : List (Nat × Nat)} {out l : List Nat} (hs : OrdSt N g out) (h : orderFrom N g out = some l) :
    l.length = N ∧ l.take out.length = out ∧ ∀ k, out.length ≤ k → k < N → ∃ x, l[k]? = some x ∧ nextF N g (l.take k) = some x ∧ OrdSt N g (l.take k) := by
  generalize hm : N - out.length = m
  induction m generalizing out with
  | zero =>
    have hle := hs.length_le
    rw [orderFrom_full (by omega)] at h
    cases h
    exact ⟨by omega, by simp, fun k h1 h2 => by omega⟩
  | succ m ih =>
    have hlt : out.length < N := by omega
    cases hn : nextF N g out with
    | none => rw [orderFrom_none hlt hn] at h; cases h
    | some i =>
      obtain ⟨hi, hf, _⟩ := nextF_spec hn
      rw [orderFrom_some hlt hn] at h
      obtain ⟨h1, h2, h3⟩ := ih (hs.snoc hi hf) h (by simp; omega)
      rw [List.length_append, List.length_singleton] at h2 h3
      have h4 : l.take out.length = out := by
        have := congrArg (List.take out.length) h2
        rw [List.take_take, Nat.min_eq_left (by omega)] at this
        rw [this]
        simp
      refine ⟨h1, h4, fun k hk1 hk2 => ?_⟩
      by_cases e : k = out.length
      · subst e
        rw [h4]
        refine ⟨i, ?_, hn, hs⟩
        have := congrArg (fun z : List Nat => z[out.length]?) h2
        simpa using this
      · exact h3 k (by omega) hk2

theorem full_mem {N : Nat} {g : List (Nat × Nat)} {l : List Nat} (h : OrdSt N g l) (hl : l.length = N) {y : Nat} (hy : y < N) : y ∈ l := by
  refine Classical.byContradiction fun hn => ?_
  have := nodup_length_le N (y :: l) (List.nodup_cons.2 ⟨hn, h.nodup⟩) (fun x hx => by
    rcases List.mem_cons.1 hx with rfl | hx
    · exact hy
    · exact h.lt x hx)
  rw [List.length_cons] at this
  omega

/-- One node's edges raise their ends. -/
theorem relaxN_get {g : List (Nat × Nat)} {r : List Nat} {x : Nat} (hx : (x, x) ∉ g) (hg : ∀ e, e ∈ g → e.2 < r.length) (v : Nat) :
    (relaxN g r x).getD v 0 = if (x, v) ∈ g then max (r.getD v 0) (r.getD x 0 + 1) else r.getD v 0 := by
  unfold relaxN
  induction g generalizing r with
  | nil => simp
  | cons e g ih =>
    have hx1 : (x, x) ∉ g := fun h => hx (List.mem_cons_of_mem _ h)
    have he : ¬ (e.1 = x ∧ e.2 = x) := fun h => hx (by rw [show (x, x) = e from Prod.ext h.1.symm h.2.symm]; exact List.mem_cons_self ..)
    have hl : e.2 < r.length := hg e (List.mem_cons_self ..)
    rw [List.foldl_cons, ih hx1 (fun f hf => by rw [relax1_length]; exact hg f (List.mem_cons_of_mem _ hf))]
    obtain ⟨u, y⟩ := e
    dsimp only at he hl
    unfold relax1
    dsimp only
    by_cases hu : u = x
    · subst hu
      have hyu : y ≠ u := fun e => he ⟨rfl, e⟩
      rw [if_pos rfl]
      have e1 : (r.set y (max (r.getD y 0) (r.getD u 0 + 1))).getD u 0 = r.getD u 0 := by
        rw [List.getD_eq_getElem?_getD, List.getElem?_set_ne hyu, ← List.getD_eq_getElem?_getD]
      rw [e1]
      by_cases hv : v = y
      · subst hv
        have e2 : (r.set v (max (r.getD v 0) (r.getD u 0 + 1))).getD v 0 = max (r.getD v 0) (r.getD u 0 + 1) := by
          rw [List.getD_eq_getElem?_getD, List.getElem?_set_self hl]; rfl
        rw [e2, if_pos (List.mem_cons_self ..)]
        split
        · omega
        · rfl
      · have e2 : (r.set y (max (r.getD y 0) (r.getD u 0 + 1))).getD v 0 = r.getD v 0 := by
          rw [List.getD_eq_getElem?_getD, List.getElem?_set_ne (fun e => hv e.symm), ← List.getD_eq_getElem?_getD]
        rw [e2]
        have e3 : (u, v) ∈ (u, y) :: g ↔ (u, v) ∈ g := by
          rw [List.mem_cons]
          exact ⟨fun h => h.resolve_left (fun e => hv (congrArg Prod.snd e)), .inr⟩
        simp only [e3]
    · rw [if_neg hu]
      have e3 : (x, v) ∈ (u, y) :: g ↔ (x, v) ∈ g := by
        rw [List.mem_cons]
        exact ⟨fun h => h.resolve_left (fun e => hu (congrArg Prod.fst e).symm), .inr⟩
      simp only [e3]

/-- What is known of the ranks behind the first k nodes of the order. -/
structure RankSt (g : List (Nat × Nat)) (out : List Nat) (r : List Nat) : Prop where
  up : ∀ e, e ∈ g → e.1 ∈ out → r.getD e.1 0 + 1 ≤ r.getD e.2 0
  by_ : ∀ v, r.getD v 0 = 0 ∨ ∃ e, e ∈ g ∧ e.2 = v ∧ e.1 ∈ out ∧ r.getD v 0 = r.getD e.1 0 + 1

theorem RankSt.snoc {N : Nat} {g : List (Nat × Nat)} {out r : List Nat} {x : Nat} (h : RankSt g out r) (ho : OrdSt N g out) (hf : freeB g out x = true) (hg : ∀ e, e ∈ g → e.2 < r.length) : RankSt g (out ++ [x]) (relaxN g r x) := by
  obtain ⟨hxo, hpre⟩ := free_spec hf
  have hxx : (x, x) ∉ g := fun h => hxo (hpre _ h rfl)
  have old : ∀ u, u ∈ out ∨ u = x → (relaxN g r x).getD u 0 = r.getD u 0 := by
    intro u hu
    rw [relaxN_get hxx hg]
    rw [if_neg]
    intro hm
    rcases hu with hu | rfl
    · exact hxo (ho.down _ hm hu)
    · exact hxx hm
  have mono : ∀ v, r.getD v 0 ≤ (relaxN g r x).getD v 0 := by
    intro v
    rw [relaxN_get hxx hg]
    split <;> omega
  constructor
  · intro e he h1
    rcases List.mem_append.1 h1 with h1 | h1
    · rw [old _ (.inl h1)]
      have := h.up e he h1
      have := mono e.2
      omega
    · simp at h1
      rw [old _ (.inr h1), h1, relaxN_get hxx hg, if_pos (by rw [← h1]; exact he)]
      omega
  · intro v
    by_cases hm : (x, v) ∈ g ∧ r.getD v 0 < r.getD x 0 + 1
    · right
      refine ⟨(x, v), hm.1, rfl, by simp, ?_⟩
      dsimp only
      rw [old x (.inr rfl), relaxN_get hxx hg, if_pos hm.1]
      omega
    · have e1 : (relaxN g r x).getD v 0 = r.getD v 0 := by
        rw [relaxN_get hxx hg]
        split
        · rename_i h1
          have : ¬ r.getD v 0 < r.getD x 0 + 1 := fun h2 => hm ⟨h1, h2⟩
          omega
        · rfl
      rw [e1]
      rcases h.by_ v with h0 | ⟨e, he, h2, h3, h4⟩
      · exact .inl h0
      · exact .inr ⟨e, he, h2, List.mem_append_left _ h3, by rw [old _ (.inl h3)]; exact h4⟩

/-- The rank of every node is one more than the greatest of its predecessors'. -/
theorem ranks_spec {N : Nat} {g : List (Nat × Nat)} {l : List Nat} (hg : ∀ e, e ∈ g → e.1 < N ∧ e.2 < N) (h : orderFrom N g [] = some l) : RankSt g l (ranksF N g l) ∧ ∀ e, e ∈ g → e.1 ∈ l := by
  obtain ⟨h1, _, h3⟩ := order_at (OrdSt.nil N g) h
  have key : ∀ k, k ≤ N → RankSt g (l.take k) ((l.take k).foldl (relaxN g) (List.replicate N 0)) := by
    intro k
    induction k with
    | zero =>
      intro _
      exact ⟨fun e _ h => by simp at h, fun v => .inl (by simp [List.getD_eq_getElem?_getD, List.getElem?_replicate]; split <;> rfl)⟩
    | succ k ih =>
      intro hk
      obtain ⟨x, hx, hn, hs⟩ := h3 k (Nat.zero_le _) (by omega)
      rw [take_fold (relaxN g) _ l k x hx, List.take_add_one, hx]
      refine (ih (by omega)).snoc hs (nextF_spec hn).2.1 (fun e he => ?_)
      have hlen : ((l.take k).foldl (relaxN g) (List.replicate N 0)).length = N := ranksF_length N g (l.take k)
      rw [hlen]
      exact (hg e he).2
  have hN := key N (Nat.le_refl _)
  rw [List.take_of_length_le (by omega)] at hN
  refine ⟨hN, fun e he => ?_⟩
  have hst : OrdSt N g l := by
    by_cases h0 : N = 0
    · have := (hg e he).1; omega
    · obtain ⟨x, hx, hn, hs⟩ := h3 (N - 1) (Nat.zero_le _) (by omega)
      have := hs.snoc (nextF_spec hn).1 (nextF_spec hn).2.1
      have e2 : l.take (N - 1) ++ [x] = l := by
        have := List.take_add_one (l := l) (i := N - 1)
        rw [hx] at this
        rw [show N - 1 + 1 = N by omega, List.take_of_length_le (by omega)] at this
        exact this.symm
      rw [e2] at this
      exact this
  exact full_mem hst h1 (hg e he).1

/-- The greatest rank of node i's predecessors among the first q edges; -1 if there is none. -/
def mostK (g : List (Nat × Nat)) (r : List Nat) (i q : Nat) : Int := (g.take q).foldl (fun m e => if e.2 = i then max m ((r.getD e.1 0 : Nat) : Int) else m) (-1)
theorem mostK_zero (g : List (Nat × Nat)) (r : List Nat) (i : Nat) : mostK g r i 0 = -1 := rfl
theorem mostK_succ {g : List (Nat × Nat)} {q u v : Nat} (r : List Nat) (i : Nat) (h : g[q]? = some (u, v)) : mostK g r i (q + 1) = if v = i then max (mostK g r i q) ((r.getD u 0 : Nat) : Int) else mostK g r i q := by
  unfold mostK
  rw [List.take_add_one, h]
  simp [List.foldl_append]
theorem mostK_bound {g : List (Nat × Nat)} {r : List Nat} {M : Nat} (h : Most M r) (i q : Nat) : -1 ≤ mostK g r i q ∧ mostK g r i q ≤ M := by
  unfold mostK
  generalize g.take q = l
  have : ∀ m : Int, -1 ≤ m → m ≤ M → -1 ≤ l.foldl (fun m e => if e.2 = i then max m ((r.getD e.1 0 : Nat) : Int) else m) m ∧ l.foldl (fun m e => if e.2 = i then max m ((r.getD e.1 0 : Nat) : Int) else m) m ≤ M := by
    induction l with
    | nil => exact fun m h1 h2 => ⟨h1, h2⟩
    | cons e l ih =>
      intro m h1 h2
      have := h.getD e.1
      rw [List.foldl_cons]
      split
      · exact ih _ (by omega) (by omega)
      · exact ih _ h1 h2
  exact this (-1) (by omega) (by omega)
theorem mostK_upto {g : List (Nat × Nat)} {r : List Nat} {i : Nat} : ∀ q, (∀ k u, k < q → g[k]? = some (u, i) → ((r.getD u 0 : Nat) : Int) ≤ mostK g r i q) ∧ (mostK g r i q = -1 ∨ ∃ u, (u, i) ∈ g ∧ mostK g r i q = ((r.getD u 0 : Nat) : Int)) := by
  intro q
  induction q with
  | zero => exact ⟨fun k u h => by omega, .inl rfl⟩
  | succ q ih =>
    cases hq : g[q]? with
    | none =>
      have e : mostK g r i (q + 1) = mostK g r i q := by unfold mostK; rw [List.take_add_one, hq]; simp
      rw [e]
      refine ⟨fun k u hk h => ?_, ih.2⟩
      by_cases hkq : k = q
      · subst hkq; rw [hq] at h; cases h
      · exact ih.1 k u (by omega) h
    | some e =>
      obtain ⟨u, v⟩ := e
      rw [mostK_succ r i hq]
      by_cases hv : v = i
      · subst hv
        rw [if_pos rfl]
        refine ⟨fun k u' hk h => ?_, ?_⟩
        · by_cases hkq : k = q
          · subst hkq; rw [hq] at h; cases h; omega
          · have := ih.1 k u' (by omega) h; omega
        · by_cases hm : mostK g r v q ≤ ((r.getD u 0 : Nat) : Int)
          · exact .inr ⟨u, List.mem_of_getElem? hq, by omega⟩
          · rw [show max (mostK g r v q) ((r.getD u 0 : Nat) : Int) = mostK g r v q by omega]
            exact ih.2
      · rw [if_neg hv]
        refine ⟨fun k u' hk h => ?_, ih.2⟩
        by_cases hkq : k = q
        · subst hkq; rw [hq] at h; cases h; exact absurd rfl hv
        · exact ih.1 k u' (by omega) h
theorem mostK_rank {N : Nat} {g : List (Nat × Nat)} {l : List Nat} (hg : ∀ e, e ∈ g → e.1 < N ∧ e.2 < N) (h : orderFrom N g [] = some l) (i : Nat) : mostK g (ranksF N g l) i g.length + 1 = (((ranksF N g l).getD i 0 : Nat) : Int) := by
  obtain ⟨hR, hall⟩ := ranks_spec hg h
  obtain ⟨h1, h2⟩ := mostK_upto (g := g) (r := ranksF N g l) (i := i) g.length
  have hle : mostK g (ranksF N g l) i g.length + 1 ≤ (((ranksF N g l).getD i 0 : Nat) : Int) := by
    rcases h2 with h2 | ⟨u, hu, h2⟩
    · omega
    · have := hR.up _ hu (hall _ hu)
      dsimp only at this
      omega
  have hge : (((ranksF N g l).getD i 0 : Nat) : Int) ≤ mostK g (ranksF N g l) i g.length + 1 := by
    have hb : -1 ≤ mostK g (ranksF N g l) i g.length := by
      rcases h2 with h2 | ⟨u, hu, h2⟩ <;> omega
    rcases hR.by_ i with h0 | ⟨e, he, e2, _, h4⟩
    · omega
    · obtain ⟨k, hk, hk2⟩ := List.getElem_of_mem he
      obtain ⟨u, v⟩ := e
      dsimp only at e2 h4
      subst e2
      have := h1 k u hk (by rw [List.getElem?_eq_getElem hk, hk2])
      omega
  omega

end Go.Proofs.Ytcggmonnajggcaa
