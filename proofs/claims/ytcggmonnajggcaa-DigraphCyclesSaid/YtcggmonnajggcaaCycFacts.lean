/-
  The plain mathematics of the statement DigraphCycles (no program in it): there is an order exactly if there is no cycle; what is known of the nodes of the shortest cycle; the nodes that are reached by a number of edges.
-/
import Derived.Test.YtcggmonnajggcaaFound
import Derived.Test.YtcggmonnajggcaaRankOf
import Derived.Test.YtcggmonnajggcaaCycSame
import Derived.Test.YtcggmonnajggcaaRefOrder
namespace Go.Proofs.Ytcggmonnajggcaa

theorem rank_walk {N : Nat} {g : List (Nat × Nat)} {l : List Nat} (hg : ∀ e, e ∈ g → e.1 < N ∧ e.2 < N) (h : orderFrom N g [] = some l) (d u v : Nat) (hw : Wlk g d u v) : (ranksF N g l).getD u 0 + d ≤ (ranksF N g l).getD v 0 := by
  obtain ⟨hR, hall⟩ := ranks_spec hg h
  induction d generalizing v with
  | zero => cases hw; omega
  | succ d ih =>
    obtain ⟨x, hx, he⟩ := hw
    have h1 := ih x hx
    have h2 := hR.up _ he (hall _ he)
    dsimp only at h2
    omega

theorem order_stop {N : Nat} {g : List (Nat × Nat)} : ∀ m out, OrdSt N g out → N - out.length = m → (∃ l, orderFrom N g out = some l) ∨ ∃ o, OrdSt N g o ∧ o.length < N ∧ nextF N g o = none := by
  intro m
  induction m with
  | zero => intro out ho hm; left; exact ⟨out, orderFrom_full (by omega)⟩
  | succ m ih =>
    intro out ho hm
    cases hx : nextF N g out with
    | none => exact .inr ⟨out, ho, by omega, hx⟩
    | some i =>
      obtain ⟨hi, hf, _⟩ := nextF_spec hx
      have := ho.length_lt hi hf
      rw [orderFrom_some this hx]
      exact ih _ (ho.snoc hi hf) (by simp; omega)

theorem order_exists {N : Nat} {g : List (Nat × Nat)} (hg : ∀ e, e ∈ g → e.1 < N ∧ e.2 < N) (hac : ∀ i d, i < N → ¬ Wlk g (d + 1) i i) : ∃ l, orderFrom N g [] = some l := by
  rcases order_stop _ [] (OrdSt.nil N g) rfl with h | ⟨o, ho, hlt, hnx⟩
  · exact h
  exfalso
  have hpre : ∀ i, i < N → i ∉ o → ∃ u, (u, i) ∈ g ∧ u ∉ o := by
    intro i hi hio
    refine Classical.byContradiction fun hne => ?_
    have ht : freeB g o i = true := by
      unfold freeB
      simp only [Bool.and_eq_true, List.all_eq_true]
      refine ⟨by simpa using hio, fun e he => ?_⟩
      by_cases e2 : e.2 = i
      · have : e.1 ∈ o := Classical.byContradiction fun h => hne ⟨e.1, by rw [← e2]; exact he, h⟩
        simp [this]
      · simp [e2]
    unfold nextF at hnx
    rw [List.find?_eq_none] at hnx
    exact hnx i (by simpa using hi) ht
  obtain ⟨v, hv, hvo⟩ : ∃ v, v < N ∧ v ∉ o := Classical.byContradiction fun hne => by
    have := nodup_sub (List.range N) o List.nodup_range (fun x hx => Classical.byContradiction fun h => hne ⟨x, by simpa using hx, h⟩)
    rw [List.length_range] at this
    omega
  have chain : ∀ k, ∃ h p, (h :: p).Nodup ∧ p.length = k ∧ (∀ x, x ∈ h :: p → x < N ∧ Rch g h x) ∧ h ∉ o := by
    intro k
    induction k with
    | zero => exact ⟨v, [], by simp, rfl, fun x hx => by simp at hx; subst hx; exact ⟨hv, .refl⟩, hvo⟩
    | succ k ih =>
      obtain ⟨h, p, h1, h2, h3, h4⟩ := ih
      obtain ⟨u, hu, huo⟩ := hpre h (h3 h (List.mem_cons_self ..)).1 h4
      have huN : u < N := (hg _ hu).1
      refine ⟨u, h :: p, List.nodup_cons.2 ⟨fun hm => ?_, h1⟩, by simp [h2], fun x hx => ?_, huo⟩
      · obtain ⟨d, hd⟩ := (h3 u hm).2.wlk
        exact hac h d (h3 h (List.mem_cons_self ..)).1 ⟨u, hd, hu⟩
      · rcases List.mem_cons.1 hx with rfl | hx
        · exact ⟨huN, .refl⟩
        · obtain ⟨q1, q2⟩ := h3 x hx
          obtain ⟨d, hd⟩ := q2.wlk
          exact ⟨q1, (hd.cons hu).rch⟩
  obtain ⟨h, p, h1, h2, h3, _⟩ := chain N
  have := nodup_length_le N (h :: p) h1 (fun x hx => (h3 x hx).1)
  rw [List.length_cons] at this
  omega

theorem stepC_ok {g : List (Nat × Nat)} {s a x : Nat} (h : dstN g x s = a + 2) : (x, stepC g s (a + 1) x) ∈ g ∧ dstN g (stepC g s (a + 1) x) s = a + 1 := by
  obtain ⟨h1, h2⟩ := dstN_pos (g := g) (s := x) (v := s) (by omega)
  rw [h] at h1 h2
  obtain ⟨y, hy, hw⟩ := h1.first
  have hd : dstN g y s = a + 1 := dstN_eq (by omega) hw (fun e he => by have := h2 (e + 1) (he.cons hy); omega)
  unfold stepC
  cases hf : (succN g x).find? (fun y => dstN g y s == a + 1) with
  | none =>
    rw [List.find?_eq_none] at hf
    exact absurd (by simpa using hd) (hf y (mem_succN.2 hy))
  | some z =>
    rw [Option.getD_some]
    have h3 := List.find?_some hf
    exact ⟨mem_succN.1 (List.mem_of_find?_eq_some hf), by simpa using h3⟩

theorem walkC_at {g : List (Nat × Nat)} {s : Nat} : ∀ a x d, dstN g x s = a + 1 → Wlk g d s x → ∀ i, i ≤ a → ∃ y, (x :: walkC g s a x)[i]? = some y ∧ dstN g y s = a + 1 - i ∧ Wlk g (d + i) s y ∧ (i < a → ∃ z, (x :: walkC g s a x)[i + 1]? = some z ∧ (y, z) ∈ g) := by
  intro a
  induction a with
  | zero =>
    intro x d h hw i hi
    obtain rfl : i = 0 := by omega
    exact ⟨x, rfl, h, hw, fun h => absurd h (by omega)⟩
  | succ a ih =>
    intro x d h hw i hi
    obtain ⟨h1, h2⟩ := stepC_ok h
    cases i with
    | zero => exact ⟨x, rfl, h, hw, fun _ => ⟨_, rfl, h1⟩⟩
    | succ j =>
      obtain ⟨y, q1, q2, q3, q4⟩ := ih (stepC g s (a + 1) x) (d + 1) h2 ⟨x, hw, h1⟩ j (by omega)
      refine ⟨y, q1, by omega, ?_, fun hj => q4 (by omega)⟩
      rw [show d + (j + 1) = d + 1 + j by omega]
      exact q3

/-- What is known of a shortest cycle. -/
structure CycOk (N : Nat) (g : List (Nat × Nat)) (R : List Nat) : Prop where
  pos : 0 < R.length
  len : R.length ≤ N
  at_ : ∀ i, i < R.length → ∃ x y z, R[i]? = some x ∧ R[(i + 1) % R.length]? = some y ∧ (x, y) ∈ g ∧ R[0]? = some z ∧ z ≤ x ∧ x ∉ R.take i
  few : ∀ i d, i < N → d + 1 < R.length → ¬ Wlk g (d + 1) i i

theorem cycD_ok {N : Nat} {g : List (Nat × Nat)} (hg : ∀ e, e ∈ g → e.1 < N ∧ e.2 < N) (h : (cycD N g).length ≠ 0) : CycOk N g (cycD N g) ∧ orderFrom N g [] = none := by
  rcases bst_spec g N with ⟨h1, _⟩ | ⟨h1, h2, h3, h4⟩
  · exfalso; apply h; unfold cycD; rw [if_pos h1]; rfl
  unfold cycD
  rw [if_neg (by omega)]
  obtain ⟨s, hs⟩ : ∃ s, (bst g N).2 = s := ⟨_, rfl⟩
  obtain ⟨a, ha⟩ : ∃ a, (bst g N).1 = a + 1 := ⟨(bst g N).1 - 1, by omega⟩
  rw [hs, ha] at h3 h4
  rw [hs] at h1
  rw [hs, ha, Nat.add_sub_cancel]
  have hwk := (dstN_pos (g := g) (s := s) (v := s) (by omega)).1
  rw [h3] at hwk
  have key := walkC_at a s 0 h3 rfl
  have hl : (s :: walkC g s a s).length = a + 1 := by rw [List.length_cons, walkC_length]
  have hedge : ∀ i, i ≤ a → ∃ x y, (s :: walkC g s a s)[i]? = some x ∧ dstN g x s = a + 1 - i ∧ Wlk g i s x ∧ (s :: walkC g s a s)[(i + 1) % (a + 1)]? = some y ∧ (x, y) ∈ g := by
    intro i hi
    obtain ⟨x, q1, q2, q3, q4⟩ := key i hi
    rw [Nat.zero_add] at q3
    by_cases hia : i < a
    · obtain ⟨z, z1, z2⟩ := q4 hia
      exact ⟨x, z, q1, q2, q3, by rw [Nat.mod_eq_of_lt (by omega)]; exact z1, z2⟩
    · obtain rfl : i = a := by omega
      rw [Nat.mod_self]
      have hw1 := (dstN_pos (g := g) (s := x) (v := s) (by omega)).1
      rw [q2, show i + 1 - i = 1 by omega] at hw1
      obtain ⟨u, hu, hus⟩ := hw1
      have hu : x = u := hu
      subst hu
      exact ⟨x, s, q1, q2, q3, rfl, hus⟩
  refine ⟨⟨by omega, ?_, fun i hi => ?_, fun i d hi hd hw => ?_⟩, ?_⟩
  · rw [hl, ← h3]
    exact dstN_le hg s s
  · rw [hl] at hi ⊢
    obtain ⟨x, y, q1, q2, q3, q4, q5⟩ := hedge i (by omega)
    refine ⟨x, y, s, q1, q4, q5, rfl, ?_, fun hm => ?_⟩
    · have hx := (hg _ q5).1
      have hw2 := (dstN_pos (g := g) (s := x) (v := s) (by omega)).1
      have hw3 := hw2.append q3
      rw [q2, show a + 1 - i + i = a + 1 by omega] at hw3
      obtain ⟨k1, _, k3⟩ := dstN_spec hw3
      have := k3 a hw3
      have := h4 x hx k1
      omega
    · obtain ⟨j, hj, hjx⟩ := List.getElem_of_mem hm
      have hji : j < i := by rw [List.length_take] at hj; omega
      have e : (s :: walkC g s a s)[j]? = some x := by
        rw [List.getElem_take] at hjx
        rw [List.getElem?_eq_getElem (by rw [hl]; omega), hjx]
      obtain ⟨x', _, r1, r2, _⟩ := hedge j (by omega)
      rw [e] at r1
      cases r1
      omega
  · rw [hl] at hd
    obtain ⟨k1, _, k3⟩ := dstN_spec hw
    have := k3 d hw
    have := h4 i hi k1
    omega
  · cases ho : orderFrom N g [] with
    | none => rfl
    | some l =>
      have := rank_walk hg ho _ _ _ hwk
      omega
theorem cycD_none {N : Nat} {g : List (Nat × Nat)} (hg : ∀ e, e ∈ g → e.1 < N ∧ e.2 < N) (h : (cycD N g).length = 0) : ∃ l, orderFrom N g [] = some l := by
  refine order_exists hg (fun i d hi hw => ?_)
  obtain ⟨k1, _, _⟩ := dstN_spec hw
  rcases bst_spec g N with ⟨_, h2⟩ | ⟨_, h2, _⟩
  · have := h2 i hi
    omega
  · unfold cycD at h
    rw [if_neg (by omega)] at h
    simp at h
/-- What Cycle and Order return of a graph. -/
theorem cyc_facts {N : Nat} {es : List (Int × Int)} (hc : chkE (N : Int) es = 0) (hg : ∀ e, e ∈ gN es → e.1 < N ∧ e.2 < N) : ∃ R, cycL (N : Int) es = R ∧ ((R = [] ∧ cycE (N : Int) es = 7 ∧ ordE (N : Int) es = 0) ∨ (CycOk N (gN es) R ∧ cycE (N : Int) es = 0 ∧ ordE (N : Int) es = 21)) := by
  unfold cycL cycE ordE
  rw [if_pos hc, if_pos hc, if_pos hc, Int.toNat_natCast, cyc_same hg (chk_srt hc)]
  refine ⟨_, rfl, ?_⟩
  by_cases h : (cycD N (gN es)).length = 0
  · left
    obtain ⟨l, hl⟩ := cycD_none hg h
    rw [if_pos h, hl]
    exact ⟨List.eq_nil_of_length_eq_zero h, rfl, rfl⟩
  · right
    obtain ⟨h1, h2⟩ := cycD_ok hg h
    rw [if_neg h, h2]
    exact ⟨h1, rfl, rfl⟩

/-- The nodes that are reached from i by exactly r edges. -/
structure Stp (N : Nat) (g : List (Nat × Nat)) (i r : Nat) (F : List Nat) : Prop where
  nodup : F.Nodup
  lt : ∀ x, x ∈ F → x < N
  iff : ∀ x, x ∈ F ↔ Wlk g r i x
/-- The same of one edge more, behind the first q edges. -/
structure Nxt (N : Nat) (g : List (Nat × Nat)) (i r q : Nat) (X : List Nat) : Prop where
  nodup : X.Nodup
  lt : ∀ x, x ∈ X → x < N ∧ Wlk g (r + 1) i x
  edge : ∀ k a b, k < q → g[k]? = some (a, b) → Wlk g r i a → b ∈ X
theorem Stp.start {N : Nat} (g : List (Nat × Nat)) {i : Nat} (hi : i < N) : Stp N g i 0 [i] where
  nodup := by simp
  lt := fun x hx => by simp at hx; omega
  iff := fun x => by
    rw [List.mem_singleton]
    exact eq_comm
theorem Stp.len {N : Nat} {g : List (Nat × Nat)} {i r : Nat} {F : List Nat} (h : Stp N g i r F) : F.length ≤ N := nodup_length_le N F h.nodup h.lt
theorem Nxt.len {N : Nat} {g : List (Nat × Nat)} {i r q : Nat} {F : List Nat} (h : Nxt N g i r q F) : F.length ≤ N := nodup_length_le N F h.nodup (fun x hx => (h.lt x hx).1)
theorem Nxt.start (N : Nat) (g : List (Nat × Nat)) (i r : Nat) : Nxt N g i r 0 [] where
  nodup := List.nodup_nil
  lt := fun x hx => by simp at hx
  edge := fun k a b h => by omega
theorem Nxt.skip {N : Nat} {g : List (Nat × Nat)} {i r q a b : Nat} {X : List Nat} (h : Nxt N g i r q X) (he : g[q]? = some (a, b)) (hs : Wlk g r i a → b ∈ X) : Nxt N g i r (q + 1) X where
  nodup := h.nodup
  lt := h.lt
  edge := fun k a' b' hk hg hw => by
    by_cases e : k = q
    · subst e
      rw [he] at hg
      cases hg
      exact hs hw
    · exact h.edge k a' b' (by omega) hg hw
theorem Nxt.push {N : Nat} {g : List (Nat × Nat)} {i r q a b : Nat} {X : List Nat} (h : Nxt N g i r q X) (he : g[q]? = some (a, b)) (ha : Wlk g r i a) (hb : b ∉ X) (hbN : b < N) : Nxt N g i r (q + 1) (X ++ [b]) where
  nodup := by
    rw [List.nodup_append]
    refine ⟨h.nodup, by simp, fun x hx y hy => ?_⟩
    simp at hy
    subst hy
    exact fun e => hb (e ▸ hx)
  lt := fun x hx => by
    rcases List.mem_append.1 hx with hx | hx
    · exact h.lt x hx
    · simp at hx
      subst hx
      exact ⟨hbN, a, ha, List.mem_of_getElem? he⟩
  edge := fun k a' b' hk hg hw => by
    by_cases e : k = q
    · subst e
      rw [he] at hg
      cases hg
      simp
    · exact List.mem_append_left _ (h.edge k a' b' (by omega) hg hw)
theorem Nxt.done {N : Nat} {g : List (Nat × Nat)} {i r : Nat} {X : List Nat} (h : Nxt N g i r g.length X) : Stp N g i (r + 1) X where
  nodup := h.nodup
  lt := fun x hx => (h.lt x hx).1
  iff := fun x => by
    constructor
    · exact fun hx => (h.lt x hx).2
    · rintro ⟨u, hu, hm⟩
      obtain ⟨k, hk, hg⟩ := List.getElem_of_mem hm
      exact h.edge k u x hk (by rw [List.getElem?_eq_getElem hk, hg]) hu

end Go.Proofs.Ytcggmonnajggcaa
