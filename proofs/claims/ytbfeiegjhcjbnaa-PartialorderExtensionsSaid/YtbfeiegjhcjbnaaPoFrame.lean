/-
  What the search for linear extensions keeps of the memory: its own steps, a call of the function that collects, the beginning of an extension in a slice.
-/
import Derived.ArgAppend
import Derived.Test.YtbfeiegjhcjbnaaPoMin
import Derived.Test.YtbfeiegjhcjbnaaHeldIn
namespace Go.Proofs.Ytbfeiegjhcjbnaa
open Go.RowKit

/-- Steps of the search's own: what lies below B0, and the collector's blocks Φ, lie as they lay. -/
structure Ab (B0 : Nat) (Φ : Nat → Prop) (A B : World) : Prop where
  os : B.os = A.os
  tape : B.tape = A.tape
  output : B.output = A.output
  size : A.heap.size ≤ B.heap.size
  keep : ∀ b o, A.heap[b]? = some o → (b < B0 ∨ Φ b) → B.heap[b]? = some o
/-- What the search does with calls of the collector among it: of the blocks below M all but the collector's and one row lie as they lay. -/
structure Fr (B0 M : Nat) (Φ Φ' : Nat → Prop) (go : Option Nat) (A B : World) : Prop where
  os : B.os = A.os
  tape : B.tape = A.tape
  output : B.output = A.output
  size : A.heap.size ≤ B.heap.size
  keep : ∀ b o, b < M → A.heap[b]? = some o → ¬ Φ b → go ≠ some b → (B0 ≤ b ∨ o.isCells = true) → B.heap[b]? = some o
  foot : ∀ b, Φ' b → Φ b ∨ M ≤ b
theorem lt_of_heap {W : World} {b : Nat} {o : Obj} (h : W.heap[b]? = some o) : b < W.heap.size := (Array.getElem?_eq_some_iff.1 h).1
theorem Ab.refl (B0 : Nat) (Φ : Nat → Prop) (A : World) : Ab B0 Φ A A := ⟨rfl, rfl, rfl, Nat.le_refl _, fun _ _ h _ => h⟩
theorem Ab.trans {B0 : Nat} {Φ : Nat → Prop} {A B C : World} (h : Ab B0 Φ A B) (k : Ab B0 Φ B C) : Ab B0 Φ A C :=
  ⟨k.os.trans h.os, k.tape.trans h.tape, k.output.trans h.output, Nat.le_trans h.size k.size, fun b o hb hc => k.keep b o (h.keep b o hb hc) hc⟩
theorem Ab.grown {B0 : Nat} {Φ : Nat → Prop} {A B : World} {row : Option Nat} (h : A.grownBy B row) (hr : ∀ r, row = some r → B0 ≤ r ∧ ¬ Φ r) : Ab B0 Φ A B :=
  ⟨h.os, h.tape, h.output, h.size, fun b o hb hc => (h.block b (lt_of_heap hb) (fun e => by
    obtain ⟨h1, h2⟩ := hr b e.symm
    rcases hc with hc | hc
    · omega
    · exact h2 hc)).trans hb⟩
theorem Ab.below {B0 : Nat} {Φ : Nat → Prop} {A B : World} (h : Below A.heap.size A B) : Ab B0 Φ A B := Ab.grown (grownOf h) (fun r e => by cases e)
theorem Fr.refl (B0 M : Nat) (Φ : Nat → Prop) (go : Option Nat) (A : World) : Fr B0 M Φ Φ go A A := ⟨rfl, rfl, rfl, Nat.le_refl _, fun _ _ _ h _ _ _ => h, fun _ h => .inl h⟩
theorem Fr.trans {B0 M : Nat} {Φ Φ' Φ'' : Nat → Prop} {go : Option Nat} {A B C : World} (h : Fr B0 M Φ Φ' go A B) (k : Fr B0 M Φ' Φ'' go B C) : Fr B0 M Φ Φ'' go A C :=
  ⟨k.os.trans h.os, k.tape.trans h.tape, k.output.trans h.output, Nat.le_trans h.size k.size, fun b o hM hb hn hg hc => k.keep b o hM (h.keep b o hM hb hn hg hc) (fun hp => by
    rcases h.foot b hp with h1 | h1
    · exact hn h1
    · omega) hg hc, fun b hb => (k.foot b hb).elim (h.foot b) .inr⟩
theorem Fr.weaken {B0 M M' : Nat} {Φ Φ' : Nat → Prop} {go go' : Option Nat} {A B : World} (h : Fr B0 M' Φ Φ' go' A B) (hM : M ≤ M') (hg : ∀ b, go' = some b → go = some b ∨ M ≤ b) : Fr B0 M Φ Φ' go A B :=
  ⟨h.os, h.tape, h.output, h.size, fun b o hb hh hn hgo hc => h.keep b o (by omega) hh hn (fun e => by
    rcases hg b e with h1 | h1
    · exact hgo h1
    · omega) hc, fun b hb => (h.foot b hb).imp id (fun h1 => by omega)⟩
/-- Own steps that turn no block below M but the row. -/
theorem Fr.own {B0 M : Nat} {Φ : Nat → Prop} {go row : Option Nat} {A B : World} (h : A.grownBy B row) (hr : ∀ r, row = some r → go = some r ∨ M ≤ r) : Fr B0 M Φ Φ go A B :=
  ⟨h.os, h.tape, h.output, h.size, fun b o hM hb _ hg _ => (h.block b (lt_of_heap hb) (fun e => by
    rcases hr b e.symm with h1 | h1
    · exact hg h1
    · omega)).trans hb, fun _ h => .inl h⟩
theorem Fr.below {B0 M : Nat} {Φ : Nat → Prop} {go : Option Nat} {A B : World} (h : Below A.heap.size A B) : Fr B0 M Φ Φ go A B := Fr.own (grownOf h) (fun r e => by cases e)
theorem Fr.not {B0 M : Nat} {Φ Φ' : Nat → Prop} {go : Option Nat} {A B : World} (h : Fr B0 M Φ Φ' go A B) {b : Nat} (hb : b < M) (hn : ¬ Φ b) : ¬ Φ' b := fun hp => (h.foot b hp).elim hn (fun h1 => by omega)

/-! ### The beginning of an extension -/

/-- The slice of length l.length and capacity cap at this place begins with the numbers l. -/
def QRow (g off cap : Nat) (l : List Nat) (w : World) : Prop := ∃ cur : Array Value, w.heap[g]? = some (.cells cur TI (0, 0)) ∧ l.length ≤ cap ∧ cap ≤ 9223372036854775807 ∧ off + cap ≤ cur.size ∧ ∀ (j x : Nat), l[j]? = some x → cur[off + j]? = some (.int .i64 (x : Int))
theorem QRow.lt {g off cap : Nat} {l : List Nat} {w : World} (h : QRow g off cap l w) : g < w.heap.size := by
  obtain ⟨cur, hg, _⟩ := h
  exact lt_of_heap hg
theorem QRow.cell {g off cap : Nat} {l : List Nat} {w : World} (h : QRow g off cap l w) {j x : Nat} (hj : l[j]? = some x) : w.cell? ⟨g, off + j, none⟩ = some (.int .i64 (x : Int)) := by
  obtain ⟨cur, hg, _, _, _, hc⟩ := h
  rw [Lib.cell_of_heap hg]
  exact hc j x hj
theorem QRow.block {g off cap : Nat} {l : List Nat} {w w' : World} (h : QRow g off cap l w) (hb : w'.heap[g]? = w.heap[g]?) : QRow g off cap l w' := by
  obtain ⟨cur, hg, r⟩ := h
  exact ⟨cur, hb.trans hg, r⟩
theorem QRow.type {g off cap : Nat} {l : List Nat} {w : World} (h : QRow g off cap l w) : ∃ c, w.heap[g]? = some (.cells c TI (0, 0)) := by
  obtain ⟨cur, hg, _⟩ := h
  exact ⟨cur, hg⟩
theorem QRow.front {g off cap x : Nat} {l : List Nat} {w : World} (h : QRow g off cap (l ++ [x]) w) : QRow g off cap l w := by
  obtain ⟨cur, hg, h1, h2, h3, h4⟩ := h
  rw [List.length_append] at h1
  refine ⟨cur, hg, by omega, h2, h3, fun j y hj => h4 j y ?_⟩
  rw [List.getElem?_append_left (List.getElem?_eq_some_iff.1 hj).1]
  exact hj
theorem QRow.snoc {g off cap x : Nat} {l : List Nat} {w : World} (h : QRow g off cap l w) (ad : Addr) (had : w.cell? ad = some (.int .i64 (x : Int))) (hl : l.length ≤ 1000) :
    ∃ (g' off' cap' : Nat) (w' : World), (Builtin.append_ #[23, 23] 23 #[.slice (some ⟨g, off, none⟩) l.length cap, .slice (some ad) 1 1]).run Try.prog w = .ok (.slice (some ⟨g', off', none⟩) (l.length + 1) cap') w' ∧ QRow g' off' cap' (l ++ [x]) w' ∧
      ((g' = g ∧ off' = off ∧ cap' = cap ∧ w.grownBy w' (some g)) ∨ (w.heap.size ≤ g' ∧ w.grownBy w' none)) := by
  obtain ⟨i1, ji, jz0, jz1, jz2⟩ := info_parts infoI
  have hnews : ∀ (j : Nat) (u : Value), [Value.int .i64 (x : Int)][j]? = some u → w.cell? (ad.add j) = some u := by
    intro j u hj
    match j, hj with
    | 0, hj =>
      simp at hj
      subst hj
      have : ad.add 0 = ad := by obtain ⟨a, b, c⟩ := ad; cases c <;> simp [Addr.add]
      rw [this]
      exact had
  have h' := h
  obtain ⟨cur, hg, h1, h2, h3, h4⟩ := h
  by_cases hr : l.length + 1 ≤ cap
  · have hcell : ∀ j, off + j < cur.size → (w.cell? ⟨g, off + j, none⟩).isSome = true := by
      intro j hj
      rw [Lib.cell_of_heap hg]
      simp [hj]
    refine ⟨g, off, cap, _, run_append_room_cells (P := Try.prog) w 23 23 TI i1 Try.underlying23 ji g off l.length cap ad 1 1 [.int .i64 (x : Int)] (by rw [jz1]; rfl) hnews (one_one _) hr ?_ ?_, ?_, .inl ⟨rfl, rfl, rfl, ?_⟩⟩
    · intro j hj
      simp at hj
      subst hj
      rw [jz1, Nat.mul_one, Nat.add_zero]
      exact hcell _ (by omega)
    · intro j hj
      rw [Lib.frozen_of_heap hg]
    · rw [jz1, Nat.mul_one]
      refine ⟨_, heap_setCell_same w g (off + l.length) cur TI (.int .i64 (x : Int)) hg, by simp; omega, h2, by simpa using h3, fun j y hj => ?_⟩
      by_cases e : j < l.length
      · rw [List.getElem?_append_left e] at hj
        rw [Array.getElem?_setIfInBounds_ne (by omega)]
        exact h4 j y hj
      · have hj2 := (List.getElem?_eq_some_iff.1 hj).1
        simp at hj2
        have e2 : j = l.length := by omega
        subst e2
        rw [List.getElem?_append_right (by omega), Nat.sub_self] at hj
        simp at hj
        subst hj
        rw [Array.getElem?_setIfInBounds_self_of_lt (by omega)]
    · rw [jz1, Nat.mul_one]
      exact ⟨rfl, rfl, rfl, by simp [World.setCells], fun k _ hk => heap_setCell_other w ⟨g, off + l.length, none⟩ k _ (fun e => hk (by simp [e]))⟩
  · obtain ⟨v', w', hrun, ho, hgw⟩ := run_append_arg_grows (P := Try.prog) w 23 23 TI i1 (.int .i64 0) 1 8 Try.underlying23 ji jz0 jz1 jz2 rfl (by decide) ⟨g, off, none⟩ l.length cap (natV l) (by simp [natV]) (fun j u hj => by
      simp only [natV, List.getElem?_map, Option.map_eq_some_iff] at hj
      obtain ⟨y, hy, rfl⟩ := hj
      have := h'.cell hy
      rw [← Go.WideShapes.add_plain] at this
      exact this) ad 1 1 [.int .i64 (x : Int)] rfl hnews (by omega) (by unfold maxLen; omega) (by omega)
    have hne : v' ≠ .slice none 0 0 := by
      rintro rfl
      rcases ho.2 with ⟨_, e⟩ | ⟨g', cap', cur', e, _⟩
      · omega
      · cases e
    have e : natV l ++ [Value.int .i64 (x : Int)] = natV (l ++ [x]) := by simp [natV]
    rw [e] at ho
    rcases ho.2 with ⟨e, _⟩ | ⟨g', cap', cur', rfl, hB, hc, k1, k2, k3, k4⟩
    · exact absurd e hne
    · refine ⟨g', 0, cap', w', hrun, ⟨cur', hc, by simpa using k1, by unfold maxLen at k2; omega, by rw [k3]; omega, fun j y hj => ?_⟩, .inr ⟨hB, hgw⟩⟩
      have hjl := (List.getElem?_eq_some_iff.1 hj).1
      have h5 : (natV (l ++ [x]))[j]? = some (.int .i64 (y : Int)) := by rw [natV, List.getElem?_map, hj]; rfl
      rw [← k4, List.getElem?_take_of_lt (by simp at hjl; omega)] at h5
      rw [Nat.zero_add]
      simpa using h5
/-- A beginning of an extension: nil, or a slice that begins with these numbers. -/
inductive StartR : Value → Option Nat → List Nat → World → Prop
  | nil (w : World) : StartR (.slice none 0 0) none [] w
  | row {g off cap : Nat} {l : List Nat} {w : World} (h : QRow g off cap l w) : StartR (.slice (some ⟨g, off, none⟩) l.length cap) (some g) l w
theorem StartR.block {v : Value} {go : Option Nat} {l : List Nat} {w w' : World} (h : StartR v go l w) (hb : ∀ b, go = some b → w'.heap[b]? = w.heap[b]?) : StartR v go l w' := by
  cases h with
  | nil => exact .nil _
  | row h => exact .row (h.block (hb _ rfl))
theorem StartR.type {v : Value} {go : Option Nat} {l : List Nat} {w : World} (h : StartR v go l w) : ∀ b, go = some b → ∃ c, w.heap[b]? = some (.cells c TI (0, 0)) := by
  intro b e
  cases h with
  | nil => cases e
  | row h => cases e; exact h.type
theorem StartR.value {v : Value} {go : Option Nat} {l : List Nat} {w : World} (h : StartR v go l w) : ∃ a c, v = .slice a l.length c := by
  cases h with
  | nil => exact ⟨none, 0, rfl⟩
  | row h => exact ⟨_, _, rfl⟩
theorem appendV_nil (x : Nat) (ad : Addr) (w : World) (had : w.cell? ad = some (.int .i64 (x : Int))) :
    ∃ (g' cap' : Nat) (w' : World), (Builtin.append_ #[23, 23] 23 #[.slice none 0 0, .slice (some ad) 1 1]).run Try.prog w = .ok (.slice (some ⟨g', 0, none⟩) 1 cap') w' ∧ QRow g' 0 cap' [x] w' ∧ w.heap.size ≤ g' ∧ w.grownBy w' none := by
  obtain ⟨i1, ji, jz0, jz1, jz2⟩ := info_parts infoI
  have hnews : ∀ (j : Nat) (u : Value), [Value.int .i64 (x : Int)][j]? = some u → w.cell? (ad.add j) = some u := by
    intro j u hj
    match j, hj with
    | 0, hj =>
      simp at hj
      subst hj
      have : ad.add 0 = ad := by obtain ⟨a, b, c⟩ := ad; cases c <;> simp [Addr.add]
      rw [this]
      exact had
  obtain ⟨v', w', hrun, ho, hgw, hne⟩ := run_append_own (P := Try.prog) w w.heap.size 23 23 TI i1 (.int .i64 0) 1 8 Try.underlying23 ji jz0 jz1 jz2 rfl (by decide) (.slice none 0 0) 0 [] (World.ownsRow_nil _ _ _ _) ad 1 1 [.int .i64 (x : Int)] rfl hnews (one_one _) (by unfold maxLen; omega) (by omega) (Nat.le_refl _)
  obtain ⟨g, c, rfl⟩ := ownsRow_some ho (fun e => by have := (hne.1 e).2; omega)
  rcases ho.2 with ⟨e, _⟩ | ⟨g', cap', cur', e, hB, hc, k1, k2, k3, k4⟩
  · cases e
  · cases e
    refine ⟨g, c, w', hrun, ⟨cur', hc, by simpa using k1, by unfold maxLen at k2; omega, by rw [k3]; omega, fun j y hj => ?_⟩, hB, hgw⟩
    match j, hj with
    | 0, hj =>
      simp at hj
      subst hj
      have h5 : ([] ++ [Value.int .i64 (x : Int)] : List Value)[0]? = some (.int .i64 (x : Int)) := rfl
      rw [← k4, List.getElem?_take_of_lt (by omega)] at h5
      rw [Nat.zero_add]
      simpa using h5

/-- One element more: the row itself, or a new one; what was there can be had back. -/
theorem StartR.snoc {v : Value} {go : Option Nat} {l : List Nat} {w : World} (h : StartR v go l w) (x : Nat) (ad : Addr) (had : w.cell? ad = some (.int .i64 (x : Int))) (hl : l.length ≤ 1000) :
    ∃ (v' : Value) (gn : Nat) (w' : World), (Builtin.append_ #[23, 23] 23 #[v, .slice (some ad) 1 1]).run Try.prog w = .ok v' w' ∧ StartR v' (some gn) (l ++ [x]) w' ∧
      ((go = some gn ∧ w.grownBy w' (some gn)) ∨ (w.heap.size ≤ gn ∧ w.grownBy w' none)) ∧
      ∀ W', StartR v' (some gn) (l ++ [x]) W' → (∀ b, go = some b → b ≠ gn → W'.heap[b]? = w.heap[b]?) → StartR v go l W' := by
  cases h with
  | nil =>
    obtain ⟨g, c, w', hrun, hq, hg, hgr⟩ := appendV_nil x ad w had
    exact ⟨_, g, w', hrun, .row (l := [x]) hq, .inr ⟨hg, hgr⟩, fun W' _ _ => .nil _⟩
  | row h =>
    rename_i g off cap
    obtain ⟨g', off', cap', w', hrun, hq, hc⟩ := h.snoc (x := x) ad had hl
    have hlen : (l ++ [x]).length = l.length + 1 := by simp
    refine ⟨_, g', w', hrun, ?_, ?_, fun W' hS hK => ?_⟩
    · have := StartR.row hq
      rwa [hlen] at this
    · rcases hc with ⟨rfl, _, _, hgr⟩ | ⟨h1, h2⟩
      · exact .inl ⟨rfl, hgr⟩
      · exact .inr ⟨h1, h2⟩
    · rcases hc with ⟨rfl, rfl, rfl, _⟩ | ⟨h1, _⟩
      · generalize hv : Value.slice (some ⟨g', off', none⟩) (l.length + 1) cap' = v at hS
        generalize hgo : some g' = go at hS
        generalize hll : l ++ [x] = ll at hS
        cases hS with
        | nil => cases hv
        | row h2 =>
          injection hv with e1 e2 e3
          injection e1 with e1
          injection e1 with e1 e4 _
          subst hll
          subst e1 e4 e3
          exact .row h2.front
      · have hlt := h.lt
        exact .row (h.block (hK g rfl (by omega)))

end Go.Proofs.Ytbfeiegjhcjbnaa
