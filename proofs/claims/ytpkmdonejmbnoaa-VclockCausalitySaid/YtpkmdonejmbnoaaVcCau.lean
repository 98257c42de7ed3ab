/-
  Causality, the mathematics: a history of events that learn of earlier ones; their clocks tell which happened before which.
-/
import Derived.Test.YtpkmdonejmbnoaaVcBnd
namespace Go.Proofs.Ytpkmdonejmbnoaa
open Go.RowKit

/-- An event: its process, what it knows of earlier events, its clock. -/
structure Ev where
  p : Nat
  b : Nat → Bool
  c : List Int
def evK (H : List Ev) (k : Nat) : Ev := H[k]?.getD ⟨0, fun _ => false, []⟩
theorem evK_old {H : List Ev} (e : Ev) {k : Nat} (h : k < H.length) : evK (H ++ [e]) k = evK H k := by simp [evK, List.getElem?_append_left h]
theorem evK_new (H : List Ev) (e : Ev) : evK (H ++ [e]) H.length = e := by simp [evK]
def learnK (H : List Ev) (st : (Nat → Bool) × List Int) (k : Nat) : (Nat → Bool) × List Int := (fun m => (st.1 m || m == k) || (decide (m < k) && (evK H k).b m), joinL st.2 (evK H k).c)
def zero4 : List Int := fnL 4 (fun _ => 0)
def ownKs (H : List Ev) (p n : Nat) : List Nat := (List.range n).filter fun k => (evK H k).p == p
theorem ownKs_succ (H : List Ev) (p n : Nat) : ownKs H p (n + 1) = ownKs H p n ++ if (evK H n).p = p then [n] else [] := by
  unfold ownKs
  rw [List.range_succ, List.filter_append]
  by_cases h : (evK H n).p = p <;> simp [h]
def moreK (n F : Nat) : List Nat := if 0 < F ∧ 0 < n then [F % n] else []
def gotK (H : List Ev) (p F : Nat) : (Nat → Bool) × List Int := (moreK H.length F).foldl (learnK H) ((ownKs H p H.length).foldl (learnK H) (fun _ => false, zero4))
def newEv (H : List Ev) (P F : Nat) : Ev := ⟨P % 4, (gotK H (P % 4) F).1, tickL (gotK H (P % 4) F).2 ((P % 4 : Nat) : Int)⟩
def hist (z : List (Nat × Nat)) : List Ev := z.foldl (fun H e => H ++ [newEv H e.1 e.2]) []
theorem hist_snoc (z : List (Nat × Nat)) (e : Nat × Nat) : hist (z ++ [e]) = hist z ++ [newEv (hist z) e.1 e.2] := by simp [hist]
theorem hist_length (z : List (Nat × Nat)) : (hist z).length = z.length := by
  have h : ∀ (l : List (Nat × Nat)) (H : List Ev), (l.foldl (fun H e => H ++ [newEv H e.1 e.2]) H).length = H.length + l.length := by
    intro l
    induction l with
    | nil => intro H; rfl
    | cons x xs ih => intro H; rw [List.foldl_cons, ih]; simp; omega
  have := h z []
  simpa [hist] using this

/-! ### The number of events of a process before one -/

def cntP (H : List Ev) (q : Nat) : Nat → Nat
  | 0 => 0
  | m + 1 => cntP H q m + if (evK H m).p = q then 1 else 0
theorem cntP_le (H : List Ev) (q m : Nat) : cntP H q m ≤ m := by
  induction m with
  | zero => exact Nat.le_refl _
  | succ m ih => unfold cntP; split <;> omega
theorem cntP_mono (H : List Ev) (q : Nat) {m n : Nat} (h : m ≤ n) : cntP H q m ≤ cntP H q n := by
  induction n with
  | zero => rw [show m = 0 by omega]; exact Nat.le_refl _
  | succ n ih =>
    by_cases e : m = n + 1
    · rw [e]; exact Nat.le_refl _
    · have := ih (by omega)
      have h2 : cntP H q (n + 1) = cntP H q n + if (evK H n).p = q then 1 else 0 := rfl
      rw [h2]
      split <;> omega
theorem cntP_old {H : List Ev} (e : Ev) (q : Nat) {m : Nat} (h : m ≤ H.length) : cntP (H ++ [e]) q m = cntP H q m := by
  induction m with
  | zero => rfl
  | succ m ih =>
    unfold cntP
    rw [ih (by omega), evK_old e (by omega)]
theorem cntP_last {H : List Ev} {q i : Nat} (h : 0 < cntP H q i) : ∃ m, m < i ∧ (evK H m).p = q ∧ cntP H q m + 1 = cntP H q i := by
  induction i with
  | zero => unfold cntP at h; omega
  | succ i ih =>
    by_cases e : (evK H i).p = q
    · exact ⟨i, by omega, e, by conv => rhs; unfold cntP; rw [if_pos e]⟩
    · have hc : cntP H q (i + 1) = cntP H q i := by conv => lhs; unfold cntP; rw [if_neg e, Nat.add_zero]
      rw [hc] at h ⊢
      obtain ⟨m, h1, h2, h3⟩ := ih h
      exact ⟨m, by omega, h2, h3⟩
def ordE (H : List Ev) (m : Nat) : Nat := cntP H (evK H m).p m + 1
theorem ordE_old {H : List Ev} (e : Ev) {m : Nat} (h : m < H.length) : ordE (H ++ [e]) m = ordE H m := by
  unfold ordE
  rw [evK_old e h, cntP_old e _ (by omega)]
theorem ordE_lt {H : List Ev} {m n : Nat} (h : m < n) (hp : (evK H m).p = (evK H n).p) : ordE H m < ordE H n := by
  unfold ordE
  rw [hp]
  have h1 : cntP H (evK H n).p (m + 1) = cntP H (evK H n).p m + 1 := by conv => lhs; unfold cntP; rw [if_pos hp]
  have h2 := cntP_mono H (evK H n).p (show m + 1 ≤ n by omega)
  omega
theorem ordE_le {H : List Ev} {m n : Nat} (hp : (evK H m).p = (evK H n).p) (h : ordE H m ≤ ordE H n) : m ≤ n := by
  by_cases e : m ≤ n
  · exact e
  · have := ordE_lt (H := H) (show n < m by omega) hp.symm
    omega

/-! ### What is known, and the clock of it -/

/-- The clock of what is known: of each process the number of its last event that is known. -/
def ClkOf (H : List Ev) (K : Nat → Prop) (c : List Int) : Prop := c.length = 4 ∧ ∀ q, q < 4 → ∀ n : Int, n ≤ gz c q ↔ n ≤ 0 ∨ ∃ m, K m ∧ (evK H m).p = q ∧ n ≤ (ordE H m : Int)
structure Good (H : List Ev) : Prop where
  p4 : ∀ i, i < H.length → (evK H i).p < 4
  low : ∀ i, i < H.length → ∀ m, (evK H i).b m = true → m < i
  trans : ∀ i, i < H.length → ∀ k m, (evK H i).b k = true → (evK H k).b m = true → (evK H i).b m = true
  own : ∀ i, i < H.length → ∀ k, k < i → (evK H k).p = (evK H i).p → (evK H i).b k = true
  clk : ∀ i, i < H.length → ClkOf H (fun m => m = i ∨ (evK H i).b m = true) (evK H i).c
  few : H.length ≤ 20
theorem clkOf_ok {H : List Ev} {K : Nat → Prop} {c : List Int} (h : ClkOf H K c) (hK : ∀ m, K m → m < 20) : vcE c = 0 := by
  refine vcE_iff.2 ⟨by rw [h.1]; omega, fun q hq => ?_⟩
  have hq4 : q < 4 := by have := h.1; omega
  have h0 := (h.2 q hq4 0).2 (.inl (Int.le_refl _))
  refine ⟨h0, ?_⟩
  rcases (h.2 q hq4 (gz c q)).1 (Int.le_refl _) with h1 | ⟨m, h1, h2, h3⟩
  · omega
  · have := hK m h1
    have h4 := cntP_le H (evK H m).p m
    unfold ordE at h3
    omega
theorem clkOf_zero (H : List Ev) : ClkOf H (fun _ => False) zero4 := by
  refine ⟨by simp [zero4, fnL], fun q hq n => ?_⟩
  rw [show gz zero4 q = 0 from gz_fnL hq]
  exact ⟨.inl, fun h => by rcases h with h | ⟨_, h, _⟩; exact h; exact h.elim⟩
theorem clkOf_congr {H : List Ev} {K L : Nat → Prop} {c : List Int} (h : ClkOf H K c) (hk : ∀ m, K m ↔ L m) : ClkOf H L c := by
  have : K = L := by funext m; exact propext (hk m)
  rw [← this]
  exact h
theorem clkOf_join {H : List Ev} {K L : Nat → Prop} {c d : List Int} (h : ClkOf H K c) (k : ClkOf H L d) (hp : Pr c d) : ClkOf H (fun m => K m ∨ L m) (joinL c d) := by
  refine ⟨by rw [len_join hp]; exact h.1, fun q hq n => ?_⟩
  rw [gz_join hp (by rw [h.1]; exact hq)]
  have a := h.2 q hq n
  have b := k.2 q hq n
  constructor
  · intro hn
    have : n ≤ gz c q ∨ n ≤ gz d q := by omega
    rcases this with h1 | h1
    · rcases a.1 h1 with h2 | ⟨m, h2, h3⟩
      · exact .inl h2
      · exact .inr ⟨m, .inl h2, h3⟩
    · rcases b.1 h1 with h2 | ⟨m, h2, h3⟩
      · exact .inl h2
      · exact .inr ⟨m, .inr h2, h3⟩
  · rintro (h1 | ⟨m, h1 | h1, h2⟩)
    · have := a.2 (.inl h1); omega
    · have := a.2 (.inr ⟨m, h1, h2⟩); omega
    · have := b.2 (.inr ⟨m, h1, h2⟩); omega
/-- What holds while a new event learns. -/
structure Lrn (H : List Ev) (st : (Nat → Bool) × List Int) : Prop where
  low : ∀ m, st.1 m = true → m < H.length
  trans : ∀ k m, st.1 k = true → (evK H k).b m = true → st.1 m = true
  clk : ClkOf H (fun m => st.1 m = true) st.2
theorem Lrn.zero (H : List Ev) : Lrn H (fun _ => false, zero4) := ⟨fun _ h => (by cases h), fun _ _ h => (by cases h), clkOf_congr (clkOf_zero H) (fun _ => by simp)⟩
theorem Lrn.pr {H : List Ev} {st : (Nat → Bool) × List Int} (h : Lrn H st) (g : Good H) {k : Nat} (hk : k < H.length) : Pr st.2 (evK H k).c := by
  have hf := g.few
  refine pairE_of (clkOf_ok h.clk (fun m hm => by have := h.low m hm; omega)) (clkOf_ok (g.clk k hk) (fun m hm => ?_)) ?_
  · rcases hm with rfl | hm
    · omega
    · have := g.low k hk m hm; omega
  · rw [h.clk.1, (g.clk k hk).1]
theorem Lrn.learn {H : List Ev} {st : (Nat → Bool) × List Int} (h : Lrn H st) (g : Good H) {k : Nat} (hk : k < H.length) : Lrn H (learnK H st k) := by
  have e : ∀ m, (learnK H st k).1 m = true ↔ st.1 m = true ∨ m = k ∨ (evK H k).b m = true := by
    intro m
    unfold learnK
    simp
    constructor
    · rintro ((h1 | h1) | ⟨_, h1⟩)
      · exact .inl h1
      · exact .inr (.inl h1)
      · exact .inr (.inr h1)
    · rintro (h1 | h1 | h1)
      · exact .inl (.inl h1)
      · exact .inl (.inr h1)
      · exact .inr ⟨g.low k hk m h1, h1⟩
  refine ⟨fun m hm => ?_, fun j m hj hm => ?_, ?_⟩
  · rcases (e m).1 hm with h1 | rfl | h1
    · exact h.low m h1
    · exact hk
    · have := g.low k hk m h1; omega
  · rw [e]
    rcases (e j).1 hj with h1 | rfl | h1
    · exact .inl (h.trans j m h1 hm)
    · exact .inr (.inr hm)
    · exact .inr (.inr (g.trans k hk j m h1 hm))
  · exact clkOf_congr (clkOf_join h.clk (g.clk k hk) (h.pr g hk)) (fun m => by rw [e])
theorem lrn_fold {H : List Ev} (g : Good H) (l : List Nat) (hl : ∀ k, k ∈ l → k < H.length) : ∀ st, Lrn H st → Lrn H (l.foldl (learnK H) st) := by
  induction l with
  | nil => exact fun st h => h
  | cons k l ih => exact fun st h => ih (fun j hj => hl j (List.mem_cons_of_mem _ hj)) _ (h.learn g (hl k (List.mem_cons_self ..)))
theorem fold_keeps {H : List Ev} (l : List Nat) : ∀ st m, st.1 m = true → (l.foldl (learnK H) st).1 m = true := by
  induction l with
  | nil => exact fun st m h => h
  | cons k l ih => exact fun st m h => ih _ m (by unfold learnK; simp [h])
theorem fold_has {H : List Ev} (l : List Nat) : ∀ st k, k ∈ l → (l.foldl (learnK H) st).1 k = true := by
  induction l with
  | nil => exact fun st k h => by cases h
  | cons j l ih =>
    intro st k h
    rcases List.mem_cons.1 h with rfl | h
    · exact fold_keeps l _ _ (by unfold learnK; simp)
    · exact ih _ k h
theorem own_lt {H : List Ev} {p n k : Nat} (h : k ∈ ownKs H p n) : k < n := by
  unfold ownKs at h
  simp at h
  exact h.1
theorem own_mem {H : List Ev} {p n k : Nat} (h : k < n) (hp : (evK H k).p = p) : k ∈ ownKs H p n := by
  unfold ownKs
  simp [h, hp]
theorem more_lt {n F k : Nat} (h : k ∈ moreK n F) : k < n := by
  unfold moreK at h
  by_cases e : 0 < F ∧ 0 < n
  · rw [if_pos e] at h
    simp at h
    subst h
    exact Nat.mod_lt _ e.2
  · rw [if_neg e] at h
    cases h
theorem got_lrn {H : List Ev} (g : Good H) (p F : Nat) : Lrn H (gotK H p F) := lrn_fold g _ (fun _ h => more_lt h) _ (lrn_fold g _ (fun _ h => own_lt h) _ (Lrn.zero H))
theorem got_own {H : List Ev} (p F : Nat) {k : Nat} (hk : k < H.length) (hp : (evK H k).p = p) : (gotK H p F).1 k = true := fold_keeps _ _ _ (fold_has _ _ k (own_mem hk hp))
/-- The component of the event's own process, ahead of its tick. -/
theorem got_count {H : List Ev} (g : Good H) (p F : Nat) (hp : p < 4) : gz (gotK H p F).2 p = (cntP H p H.length : Int) := by
  have h := (got_lrn g p F).clk.2 p hp
  have hle : (cntP H p H.length : Int) ≤ gz (gotK H p F).2 p := by
    by_cases h0 : 0 < cntP H p H.length
    · obtain ⟨m, h1, h2, h3⟩ := cntP_last h0
      exact (h _).2 (.inr ⟨m, got_own p F h1 h2, h2, by unfold ordE; rw [h2]; omega⟩)
    · exact (h _).2 (.inl (by omega))
  have hge : gz (gotK H p F).2 p ≤ (cntP H p H.length : Int) := by
    rcases (h _).1 (Int.le_refl _) with h1 | ⟨m, h1, h2, h3⟩
    · omega
    · have h4 := (got_lrn g p F).low m h1
      have h5 := cntP_mono H p (show m + 1 ≤ H.length by omega)
      have h6 : cntP H p (m + 1) = cntP H p m + 1 := by conv => lhs; unfold cntP; rw [if_pos h2]
      unfold ordE at h3
      rw [h2] at h3
      omega
  omega
theorem new_tick {H : List Ev} (g : Good H) (P F : Nat) : tickE (gotK H (P % 4) F).2 ((P % 4 : Nat) : Int) = 0 ∧ (newEv H P F).c = (gotK H (P % 4) F).2.set (P % 4) (gz (gotK H (P % 4) F).2 (P % 4) + 1) := by
  have hl := got_lrn g (P % 4) F
  have hf := g.few
  have hv := clkOf_ok hl.clk (fun m hm => by have := hl.low m hm; omega)
  have hp : P % 4 < 4 := Nat.mod_lt _ (by decide)
  have hlen : P % 4 < (gotK H (P % 4) F).2.length := by rw [hl.clk.1]; exact hp
  have hm : gz (gotK H (P % 4) F).2 (P % 4) ≠ 1099511627776 := by
    rw [got_count g _ F hp]
    have := cntP_le H (P % 4) H.length
    omega
  have e : tickE (gotK H (P % 4) F).2 ((P % 4 : Nat) : Int) = 0 := by
    unfold tickE
    rw [if_neg (by simp [hv]), inB_iff.2 ⟨by omega, by omega⟩, if_neg (by simp), Int.toNat_natCast, if_neg hm]
  exact ⟨e, by show tickL _ _ = _; unfold tickL; rw [if_pos e, Int.toNat_natCast]⟩
theorem Good.more {H : List Ev} (g : Good H) (P F : Nat) (hf : H.length < 20) : Good (H ++ [newEv H P F]) := by
  have hl := got_lrn g (P % 4) F
  have hp : P % 4 < 4 := Nat.mod_lt _ (by decide)
  obtain ⟨_, hc⟩ := new_tick g P F
  have hcnt := got_count g (P % 4) F hp
  have hb : ∀ m, (newEv H P F).b m = (gotK H (P % 4) F).1 m := fun _ => rfl
  have hpe : (newEv H P F).p = P % 4 := rfl
  generalize hE : newEv H P F = E at *
  have hord : ordE (H ++ [E]) H.length = cntP H (P % 4) H.length + 1 := by
    unfold ordE
    rw [evK_new, hpe, cntP_old _ _ (Nat.le_refl _)]
  have old : ∀ {i : Nat}, i < H.length → evK (H ++ [E]) i = evK H i := fun h => evK_old E h
  have cases_ : ∀ {i : Nat}, i < (H ++ [E]).length → i < H.length ∨ i = H.length := fun h => by simp at h; omega
  refine ⟨fun i hi => ?_, fun i hi m hm => ?_, fun i hi k m hk hm => ?_, fun i hi k hk hpk => ?_, fun i hi => ?_, by simp; omega⟩
  · rcases cases_ hi with h | rfl
    · rw [old h]; exact g.p4 i h
    · rw [evK_new, hpe]; exact hp
  · rcases cases_ hi with h | rfl
    · rw [old h] at hm; exact g.low i h m hm
    · rw [evK_new, hb] at hm; exact hl.low m hm
  · rcases cases_ hi with h | rfl
    · rw [old h] at hk ⊢
      have hki := g.low i h k hk
      rw [old (by omega)] at hm
      exact g.trans i h k m hk hm
    · rw [evK_new, hb] at hk ⊢
      have hki := hl.low k hk
      rw [old hki] at hm
      exact hl.trans k m hk hm
  · rcases cases_ hi with h | rfl
    · rw [old h] at hpk ⊢
      rw [old (by omega)] at hpk
      exact g.own i h k hk hpk
    · rw [evK_new] at hpk ⊢
      rw [old hk, hpe] at hpk
      rw [hb]
      exact got_own _ F hk hpk
  · rcases cases_ hi with h | rfl
    · rw [old h]
      obtain ⟨c1, c2⟩ := g.clk i h
      refine ⟨c1, fun q hq n => ?_⟩
      rw [c2 q hq n]
      refine or_congr Iff.rfl (exists_congr fun m => ?_)
      constructor
      · rintro ⟨h1, h2, h3⟩
        have hm : m < H.length := by rcases h1 with rfl | h1; exact h; have := g.low i h m h1; omega
        exact ⟨h1, by rw [old hm]; exact h2, by rw [ordE_old E hm]; exact h3⟩
      · rintro ⟨h1, h2, h3⟩
        have hm : m < H.length := by rcases h1 with rfl | h1; exact h; have := g.low i h m h1; omega
        rw [old hm] at h2
        rw [ordE_old E hm] at h3
        exact ⟨h1, h2, h3⟩
    · rw [evK_new, hc]
      refine ⟨by rw [List.length_set]; exact hl.clk.1, fun q hq n => ?_⟩
      rw [gz_set (by rw [hl.clk.1]; exact hp)]
      have c2 := hl.clk.2 q hq
      by_cases e : q = P % 4
      · subst e
        rw [if_pos rfl, hcnt]
        constructor
        · intro hn
          exact .inr ⟨H.length, .inl rfl, by rw [evK_new, hpe], by rw [hord]; omega⟩
        · rintro (h1 | ⟨m, rfl | h1, h2, h3⟩)
          · omega
          · rw [hord] at h3; omega
          · rw [hb] at h1
            have hm := hl.low m h1
            rw [old hm] at h2
            rw [ordE_old E hm] at h3
            have := (c2 n).2 (.inr ⟨m, h1, h2, h3⟩)
            rw [hcnt] at this
            omega
      · rw [if_neg e, c2 n]
        refine or_congr Iff.rfl (exists_congr fun m => ?_)
        constructor
        · rintro ⟨h1, h2, h3⟩
          have hm := hl.low m h1
          exact ⟨.inr (by rw [hb]; exact h1), by rw [old hm]; exact h2, by rw [ordE_old E hm]; exact h3⟩
        · rintro ⟨rfl | h1, h2, h3⟩
          · rw [evK_new, hpe] at h2
            exact absurd h2.symm e
          · rw [hb] at h1
            have hm := hl.low m h1
            rw [old hm] at h2
            rw [ordE_old E hm] at h3
            exact ⟨h1, h2, h3⟩
theorem good_hist (z : List (Nat × Nat)) (h : z.length ≤ 20) : ∀ i, i ≤ z.length → Good (hist (z.take i)) := by
  intro i
  induction i with
  | zero =>
    intro _
    rw [List.take_zero]
    exact ⟨fun i hi => by simp [hist] at hi, fun i hi => by simp [hist] at hi, fun i hi => by simp [hist] at hi, fun i hi => by simp [hist] at hi, fun i hi => by simp [hist] at hi, by simp [hist]⟩
  | succ i ih =>
    intro hi
    rw [List.take_succ_eq_append_getElem (by omega), hist_snoc]
    exact (ih (by omega)).more _ _ (by rw [hist_length, List.length_take]; omega)

/-! ### What the statement asks -/

theorem own_comp {H : List Ev} (g : Good H) {k : Nat} (hk : k < H.length) : gz (evK H k).c (evK H k).p = (ordE H k : Int) := by
  have h := (g.clk k hk).2 _ (g.p4 k hk)
  have h1 := (h (ordE H k : Int)).2 (.inr ⟨k, .inl rfl, rfl, Int.le_refl _⟩)
  rcases (h _).1 (Int.le_refl _) with h2 | ⟨m, h2, h3, h4⟩
  · unfold ordE at h1; omega
  · rcases h2 with rfl | h2
    · omega
    · have h5 := g.low k hk m h2
      have h6 := ordE_lt (H := H) h5 h3
      omega
theorem covers_iff {H : List Ev} (g : Good H) {i k : Nat} (hi : i < H.length) (hk : k < i) : gz (evK H k).c (evK H k).p ≤ gz (evK H i).c (evK H k).p ↔ (evK H i).b k = true := by
  rw [own_comp g (by omega), (g.clk i hi).2 _ (g.p4 k (by omega))]
  constructor
  · rintro (h1 | ⟨m, h1, h2, h3⟩)
    · unfold ordE at h1; omega
    · have hkm : k ≤ m := ordE_le h2.symm (by omega)
      by_cases e : k = m
      · subst e
        rcases h1 with rfl | h1
        · omega
        · exact h1
      · rcases h1 with rfl | h1
        · exact g.own m hi k (by omega) h2.symm
        · have hm := g.low i hi m h1
          exact g.trans i hi m k h1 (g.own m (by omega) k (by omega) h2.symm)
  · intro h
    exact .inr ⟨k, .inr h, rfl, Int.le_refl _⟩
theorem ev_ok {H : List Ev} (g : Good H) {i : Nat} (hi : i < H.length) : vcE (evK H i).c = 0 ∧ (evK H i).c.length = 4 := by
  have hf := g.few
  refine ⟨clkOf_ok (g.clk i hi) (fun m hm => ?_), (g.clk i hi).1⟩
  rcases hm with rfl | hm
  · omega
  · have := g.low i hi m hm; omega
theorem ev_pr {H : List Ev} (g : Good H) {i k : Nat} (hi : i < H.length) (hk : k < H.length) : Pr (evK H k).c (evK H i).c :=
  pairE_of (ev_ok g hk).1 (ev_ok g hi).1 (by rw [(ev_ok g hk).2, (ev_ok g hi).2])
theorem not_back {H : List Ev} (g : Good H) {i k : Nat} (hi : i < H.length) (hk : k < i) : ¬ gz (evK H i).c (evK H i).p ≤ gz (evK H k).c (evK H i).p := by
  rw [own_comp g hi, (g.clk k (by omega)).2 _ (g.p4 i hi)]
  rintro (h1 | ⟨m, h1, h2, h3⟩)
  · unfold ordE at h1; omega
  · have him : i ≤ m := ordE_le h2.symm (by omega)
    rcases h1 with rfl | h1
    · omega
    · have := g.low k (by omega) m h1; omega
theorem before_iff {H : List Ev} (g : Good H) {i k : Nat} (hi : i < H.length) (hk : k < i) : cmpK (evK H k).c (evK H i).c = 1 ↔ (evK H i).b k = true := by
  rw [cmpK_one (ev_pr g hi (by omega))]
  constructor
  · rintro ⟨h1, _⟩
    exact (covers_iff g hi hk).1 (leB_iff.1 h1 _ (by rw [(ev_ok g (by omega)).2]; exact g.p4 k (by omega)))
  · intro h
    refine ⟨leB_iff.2 (fun q hq => ?_), fun e => ?_⟩
    · rw [(ev_ok g (by omega)).2] at hq
      rw [(g.clk i hi).2 q hq]
      rcases ((g.clk k (by omega)).2 q hq _).1 (Int.le_refl _) with h1 | ⟨m, h1, h2, h3⟩
      · exact .inl h1
      · refine .inr ⟨m, .inr ?_, h2, h3⟩
        rcases h1 with rfl | h1
        · exact h
        · exact g.trans i hi k m h h1
    · exact not_back g hi hk (by rw [e]; exact Int.le_refl _)
theorem not_after {H : List Ev} (g : Good H) {i k : Nat} (hi : i < H.length) (hk : k < i) : cmpK (evK H i).c (evK H k).c ≠ 1 := by
  rw [Ne, cmpK_one (ev_pr g (by omega) hi)]
  rintro ⟨h1, _⟩
  exact not_back g hi hk (leB_iff.1 h1 _ (by rw [(ev_ok g hi).2]; exact g.p4 i hi))
theorem kov_iff {H : List Ev} (g : Good H) {i k : Nat} (hi : i < H.length) (hk : k < i) : kovB (evK H i).c ((evK H k).p : Int) (gz (evK H k).c (evK H k).p) = (evK H i).b k := by
  have h := covers_iff g hi hk
  unfold kovB covB
  rw [decide_eq_true (ev_ok g hi).1, inB_iff.2 ⟨by omega, by rw [(ev_ok g hi).2]; have := g.p4 k (by omega); omega⟩, Int.toNat_natCast, Bool.true_and, Bool.true_and, Bool.eq_iff_iff, decide_eq_true_eq]
  exact h

end Go.Proofs.Ytpkmdonejmbnoaa
