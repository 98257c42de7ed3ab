/-
  Causality: the statement that appends to three lists at once, in whatever order.
-/
import Derived.Test.YtpkmdonejmbnoaaVcCauM
import Derived.Test.YtpkmdonejmbnoaaAnyStates
namespace Go.Proofs.Ytpkmdonejmbnoaa
open Go.RowKit

def upd {α : Type} (f : Nat → α) (i : Nat) (x : α) (j : Nat) : α := if j = i then x else f j
theorem upd_same {α : Type} (f : Nat → α) (i : Nat) (x : α) : upd f i x i = x := by simp [upd]
theorem upd_ne {α : Type} (f : Nat → α) {i j : Nat} (x : α) (h : j ≠ i) : upd f i x j = f j := by simp [upd, h]
theorem set_upd {L : Array Bool} {j : Nat} (hj : j < L.size) : (fun i => (L.setIfInBounds j true).getD i false) = upd (fun i => L.getD i false) j true := by
  funext i
  unfold upd
  by_cases e : i = j
  · subst e; simp [hj]
  · rw [if_neg e]
    simp [Ne.symm e]
theorem put_upd {a : Act} {s : Nat} (v : Value) (hs : s < a.tmps.size) : (fun i => (a.put (some s) v).tmps[i]?) = upd (fun i => a.tmps[i]?) s (some v) := by
  funext i
  unfold upd Act.put
  by_cases e : i = s
  · subst e; simp [hs]
  · rw [if_neg e]
    simp [Ne.symm e]

/-- One list: what is built, what is appended. -/
structure Ch (T : TypeId) (B : Nat) (v : Value) (vs : List Value) (n : Nat) (u : Value) (n0 : Nat) (lb la : Bool) (xb xa : Option Value) (w : World) : Prop where
  row : la = false → w.ownsRow B T 1 v n vs
  new : la = false → lb = true → ∃ m, xb = some (.slice (some ⟨m, 0, none⟩) 1 1) ∧ n0 ≤ m ∧ w.heap[m]? = some (.cells #[u] T (0, 0))
  app : la = true → ∃ x, xa = some x ∧ w.ownsRow B T 1 x (n + 1) (vs ++ [u]) ∧ ∀ b, x.ownBlock = some b → v.ownBlock = some b ∨ n0 ≤ b
theorem rowT_keep {w w' : World} {B n : Nat} {T : TypeId} {v : Value} {xs : List Value} (h : w.ownsRow B T 1 v n xs) (hk : ∀ (b : Nat) (c : Array Value) (z : Nat × Nat), w.heap[b]? = some (.cells c T z) → w'.heap[b]? = w.heap[b]?) : w'.ownsRow B T 1 v n xs :=
  ownZ_block h (fun b e => by
    rcases h.2 with ⟨rfl, _⟩ | ⟨g, cap, cur, rfl, _, hg, _⟩
    · simp [Value.ownBlock] at e
    · simp [Value.ownBlock] at e
      subst e
      exact hk _ _ _ hg)
theorem Ch.keep {T : TypeId} {B : Nat} {v : Value} {vs : List Value} {n : Nat} {u : Value} {n0 : Nat} {lb la : Bool} {xb xa : Option Value} {w w' : World} (h : Ch T B v vs n u n0 lb la xb xa w) (hk : ∀ (b : Nat) (c : Array Value) (z : Nat × Nat), w.heap[b]? = some (.cells c T z) → w'.heap[b]? = w.heap[b]?) : Ch T B v vs n u n0 lb la xb xa w' where
  row := fun e => rowT_keep (h.row e) hk
  new := fun e1 e2 => by
    obtain ⟨m, h1, h2, h3⟩ := h.new e1 e2
    exact ⟨m, h1, h2, (hk _ _ _ h3).trans h3⟩
  app := fun e => by
    obtain ⟨x, h1, h2, h3⟩ := h.app e
    exact ⟨x, h1, rowT_keep h2 hk, h3⟩
/-- What lies elsewhere is as it was. -/
structure Frm (φ : Nat → Prop) (wb w : World) : Prop where
  os : w.os = wb.os
  tape : w.tape = wb.tape
  output : w.output = wb.output
  size : wb.heap.size ≤ w.heap.size
  block : ∀ b, b < wb.heap.size → φ b → w.heap[b]? = wb.heap[b]?
theorem Frm.refl (φ : Nat → Prop) (w : World) : Frm φ w w := ⟨rfl, rfl, rfl, Nat.le_refl _, fun _ _ _ => rfl⟩
theorem Frm.grown {φ : Nat → Prop} {wb w w' : World} {r : Option Nat} (h : Frm φ wb w) (g : w.grownBy w' r) (hr : ∀ b, r = some b → b < wb.heap.size → ¬ φ b) : Frm φ wb w' :=
  ⟨g.os.trans h.os, g.tape.trans h.tape, g.output.trans h.output, Nat.le_trans h.size g.size, fun b hb hp => (g.block b (by have := h.size; omega) (fun e => hr b e.symm hb hp)).trans (h.block b hb hp)⟩

abbrev T46 : TypeId := 46
abbrev T47 : TypeId := 47
/-- What holds behind some of the region's operations. -/
structure G24 (C K n : Nat) (cv dv pv nx kv pw : Value) (cvs dvs pvs : List Value) (V0 : Nat → Option Value) (wb : World) (l : Nat → Bool) (V : Nat → Option Value) (w : World) : Prop where
  oth : ∀ s, (s < 82 ∨ 93 < s) → s ≠ 5 → V s = V0 s
  f5 : l 14 = false → V 5 = V0 5
  s0 : l 0 = true → V 82 = some cv
  s1 : l 1 = true → V 83 = some nx
  s4 : l 4 = true → V 86 = some dv
  s5 : l 5 = true → V 87 = some kv
  s8 : l 8 = true → V 90 = some pv
  s9 : l 9 = true → V 91 = some pw
  c1 : Ch TC (C + 2) cv cvs n nx wb.heap.size (l 2) (l 3) (V 84) (V 85) w
  c2 : Ch TBl (C + 2) dv dvs n kv wb.heap.size (l 6) (l 7) (V 88) (V 89) w
  c3 : Ch TZ (C + 2) pv pvs n pw wb.heap.size (l 10) (l 11) (V 92) (V 93) w
  b1 : l 12 = false → w.heap[C]? = some (.cells #[cv] T46 (0, 0))
  b1' : l 12 = true → ∃ x, V 85 = some x ∧ w.heap[C]? = some (.cells #[x] T46 (0, 0))
  b2 : l 13 = false → w.heap[C + 1]? = some (.cells #[dv] T47 (0, 0))
  b2' : l 13 = true → ∃ x, V 89 = some x ∧ w.heap[C + 1]? = some (.cells #[x] T47 (0, 0))
  s14 : l 14 = true → ∃ x, V 93 = some x ∧ V 5 = some x
  fr : Frm (Fre C cv dv pv) wb w
theorem G24.put0 {C K n : Nat} {cv dv pv nx kv pw : Value} {cvs dvs pvs : List Value} {V0 : Nat → Option Value} {wb : World} {l : Nat → Bool} {V : Nat → Option Value} {w : World} (h : G24 C K n cv dv pv nx kv pw cvs dvs pvs V0 wb l V w) : G24 C K n cv dv pv nx kv pw cvs dvs pvs V0 wb (upd l 0 true) (upd V 82 (some cv)) w where
  oth := fun s h1 h2 => by rw [upd_ne _ _ (by omega)]; exact h.oth s h1 h2
  f5 := by simpa [upd] using h.f5
  s0 := fun _ => upd_same _ _ _
  s1 := by simpa [upd] using h.s1
  s4 := by simpa [upd] using h.s4
  s5 := by simpa [upd] using h.s5
  s8 := by simpa [upd] using h.s8
  s9 := by simpa [upd] using h.s9
  c1 := by simpa [upd] using h.c1
  c2 := by simpa [upd] using h.c2
  c3 := by simpa [upd] using h.c3
  b1 := by simpa [upd] using h.b1
  b1' := by simpa [upd] using h.b1'
  b2 := by simpa [upd] using h.b2
  b2' := by simpa [upd] using h.b2'
  s14 := by simpa [upd] using h.s14
  fr := by simpa [upd] using h.fr
theorem G24.put1 {C K n : Nat} {cv dv pv nx kv pw : Value} {cvs dvs pvs : List Value} {V0 : Nat → Option Value} {wb : World} {l : Nat → Bool} {V : Nat → Option Value} {w : World} (h : G24 C K n cv dv pv nx kv pw cvs dvs pvs V0 wb l V w) : G24 C K n cv dv pv nx kv pw cvs dvs pvs V0 wb (upd l 1 true) (upd V 83 (some nx)) w where
  oth := fun s h1 h2 => by rw [upd_ne _ _ (by omega)]; exact h.oth s h1 h2
  f5 := by simpa [upd] using h.f5
  s0 := by simpa [upd] using h.s0
  s1 := fun _ => upd_same _ _ _
  s4 := by simpa [upd] using h.s4
  s5 := by simpa [upd] using h.s5
  s8 := by simpa [upd] using h.s8
  s9 := by simpa [upd] using h.s9
  c1 := by simpa [upd] using h.c1
  c2 := by simpa [upd] using h.c2
  c3 := by simpa [upd] using h.c3
  b1 := by simpa [upd] using h.b1
  b1' := by simpa [upd] using h.b1'
  b2 := by simpa [upd] using h.b2
  b2' := by simpa [upd] using h.b2'
  s14 := by simpa [upd] using h.s14
  fr := by simpa [upd] using h.fr
theorem G24.put4 {C K n : Nat} {cv dv pv nx kv pw : Value} {cvs dvs pvs : List Value} {V0 : Nat → Option Value} {wb : World} {l : Nat → Bool} {V : Nat → Option Value} {w : World} (h : G24 C K n cv dv pv nx kv pw cvs dvs pvs V0 wb l V w) : G24 C K n cv dv pv nx kv pw cvs dvs pvs V0 wb (upd l 4 true) (upd V 86 (some dv)) w where
  oth := fun s h1 h2 => by rw [upd_ne _ _ (by omega)]; exact h.oth s h1 h2
  f5 := by simpa [upd] using h.f5
  s0 := by simpa [upd] using h.s0
  s1 := by simpa [upd] using h.s1
  s4 := fun _ => upd_same _ _ _
  s5 := by simpa [upd] using h.s5
  s8 := by simpa [upd] using h.s8
  s9 := by simpa [upd] using h.s9
  c1 := by simpa [upd] using h.c1
  c2 := by simpa [upd] using h.c2
  c3 := by simpa [upd] using h.c3
  b1 := by simpa [upd] using h.b1
  b1' := by simpa [upd] using h.b1'
  b2 := by simpa [upd] using h.b2
  b2' := by simpa [upd] using h.b2'
  s14 := by simpa [upd] using h.s14
  fr := by simpa [upd] using h.fr
theorem G24.put5 {C K n : Nat} {cv dv pv nx kv pw : Value} {cvs dvs pvs : List Value} {V0 : Nat → Option Value} {wb : World} {l : Nat → Bool} {V : Nat → Option Value} {w : World} (h : G24 C K n cv dv pv nx kv pw cvs dvs pvs V0 wb l V w) : G24 C K n cv dv pv nx kv pw cvs dvs pvs V0 wb (upd l 5 true) (upd V 87 (some kv)) w where
  oth := fun s h1 h2 => by rw [upd_ne _ _ (by omega)]; exact h.oth s h1 h2
  f5 := by simpa [upd] using h.f5
  s0 := by simpa [upd] using h.s0
  s1 := by simpa [upd] using h.s1
  s4 := by simpa [upd] using h.s4
  s5 := fun _ => upd_same _ _ _
  s8 := by simpa [upd] using h.s8
  s9 := by simpa [upd] using h.s9
  c1 := by simpa [upd] using h.c1
  c2 := by simpa [upd] using h.c2
  c3 := by simpa [upd] using h.c3
  b1 := by simpa [upd] using h.b1
  b1' := by simpa [upd] using h.b1'
  b2 := by simpa [upd] using h.b2
  b2' := by simpa [upd] using h.b2'
  s14 := by simpa [upd] using h.s14
  fr := by simpa [upd] using h.fr
theorem G24.put8 {C K n : Nat} {cv dv pv nx kv pw : Value} {cvs dvs pvs : List Value} {V0 : Nat → Option Value} {wb : World} {l : Nat → Bool} {V : Nat → Option Value} {w : World} (h : G24 C K n cv dv pv nx kv pw cvs dvs pvs V0 wb l V w) : G24 C K n cv dv pv nx kv pw cvs dvs pvs V0 wb (upd l 8 true) (upd V 90 (some pv)) w where
  oth := fun s h1 h2 => by rw [upd_ne _ _ (by omega)]; exact h.oth s h1 h2
  f5 := by simpa [upd] using h.f5
  s0 := by simpa [upd] using h.s0
  s1 := by simpa [upd] using h.s1
  s4 := by simpa [upd] using h.s4
  s5 := by simpa [upd] using h.s5
  s8 := fun _ => upd_same _ _ _
  s9 := by simpa [upd] using h.s9
  c1 := by simpa [upd] using h.c1
  c2 := by simpa [upd] using h.c2
  c3 := by simpa [upd] using h.c3
  b1 := by simpa [upd] using h.b1
  b1' := by simpa [upd] using h.b1'
  b2 := by simpa [upd] using h.b2
  b2' := by simpa [upd] using h.b2'
  s14 := by simpa [upd] using h.s14
  fr := by simpa [upd] using h.fr
theorem G24.put9 {C K n : Nat} {cv dv pv nx kv pw : Value} {cvs dvs pvs : List Value} {V0 : Nat → Option Value} {wb : World} {l : Nat → Bool} {V : Nat → Option Value} {w : World} (h : G24 C K n cv dv pv nx kv pw cvs dvs pvs V0 wb l V w) : G24 C K n cv dv pv nx kv pw cvs dvs pvs V0 wb (upd l 9 true) (upd V 91 (some pw)) w where
  oth := fun s h1 h2 => by rw [upd_ne _ _ (by omega)]; exact h.oth s h1 h2
  f5 := by simpa [upd] using h.f5
  s0 := by simpa [upd] using h.s0
  s1 := by simpa [upd] using h.s1
  s4 := by simpa [upd] using h.s4
  s5 := by simpa [upd] using h.s5
  s8 := by simpa [upd] using h.s8
  s9 := fun _ => upd_same _ _ _
  c1 := by simpa [upd] using h.c1
  c2 := by simpa [upd] using h.c2
  c3 := by simpa [upd] using h.c3
  b1 := by simpa [upd] using h.b1
  b1' := by simpa [upd] using h.b1'
  b2 := by simpa [upd] using h.b2
  b2' := by simpa [upd] using h.b2'
  s14 := by simpa [upd] using h.s14
  fr := by simpa [upd] using h.fr
theorem G24.build2 {C K n : Nat} {cv dv pv nx kv pw : Value} {cvs dvs pvs : List Value} {V0 : Nat → Option Value} {wb : World} {l : Nat → Bool} {V : Nat → Option Value} {w : World} (h : G24 C K n cv dv pv nx kv pw cvs dvs pvs V0 wb l V w) : G24 C K n cv dv pv nx kv pw cvs dvs pvs V0 wb (upd l 2 true) (upd V 84 (some (.slice (some ⟨w.heap.size, 0, none⟩) 1 1))) (w.alloc (.cells #[nx] TC)) where
  oth := fun s h1 h2 => by rw [upd_ne _ _ (by omega)]; exact h.oth s h1 h2
  f5 := by simpa [upd] using h.f5
  s0 := by simpa [upd] using h.s0
  s1 := by simpa [upd] using h.s1
  s4 := by simpa [upd] using h.s4
  s5 := by simpa [upd] using h.s5
  s8 := by simpa [upd] using h.s8
  s9 := by simpa [upd] using h.s9
  c1 := by
    have hk := h.c1.keep (w' := w.alloc (.cells #[nx] TC)) (fun b c z hb => Below.heap_alloc w _ b (heap_lt hb))
    refine ⟨fun e => hk.row (by simpa [upd] using e), fun _ _ => ⟨w.heap.size, upd_same _ _ _, h.fr.size, World.alloc_heap_new w _⟩, fun e => ?_⟩
    have := hk.app (by simpa [upd] using e)
    simpa [upd] using this
  c2 := by simpa [upd] using h.c2.keep (w' := w.alloc (.cells #[nx] TC)) (fun b c z hb => Below.heap_alloc w _ b (heap_lt hb))
  c3 := by simpa [upd] using h.c3.keep (w' := w.alloc (.cells #[nx] TC)) (fun b c z hb => Below.heap_alloc w _ b (heap_lt hb))
  b1 := fun e => by
    have h1 := h.b1 (by simpa [upd] using e)
    exact (Below.heap_alloc w _ _ (heap_lt h1)).trans h1
  b1' := fun e => by
    obtain ⟨x, h0, h1⟩ := h.b1' (by simpa [upd] using e)
    exact ⟨x, by simpa [upd] using h0, (Below.heap_alloc w _ _ (heap_lt h1)).trans h1⟩
  b2 := fun e => by
    have h1 := h.b2 (by simpa [upd] using e)
    exact (Below.heap_alloc w _ _ (heap_lt h1)).trans h1
  b2' := fun e => by
    obtain ⟨x, h0, h1⟩ := h.b2' (by simpa [upd] using e)
    exact ⟨x, by simpa [upd] using h0, (Below.heap_alloc w _ _ (heap_lt h1)).trans h1⟩
  s14 := by simpa [upd] using h.s14
  fr := h.fr.grown (World.grownBy_alloc w _ none) (fun b e => by cases e)
theorem G24.build6 {C K n : Nat} {cv dv pv nx kv pw : Value} {cvs dvs pvs : List Value} {V0 : Nat → Option Value} {wb : World} {l : Nat → Bool} {V : Nat → Option Value} {w : World} (h : G24 C K n cv dv pv nx kv pw cvs dvs pvs V0 wb l V w) : G24 C K n cv dv pv nx kv pw cvs dvs pvs V0 wb (upd l 6 true) (upd V 88 (some (.slice (some ⟨w.heap.size, 0, none⟩) 1 1))) (w.alloc (.cells #[kv] TBl)) where
  oth := fun s h1 h2 => by rw [upd_ne _ _ (by omega)]; exact h.oth s h1 h2
  f5 := by simpa [upd] using h.f5
  s0 := by simpa [upd] using h.s0
  s1 := by simpa [upd] using h.s1
  s4 := by simpa [upd] using h.s4
  s5 := by simpa [upd] using h.s5
  s8 := by simpa [upd] using h.s8
  s9 := by simpa [upd] using h.s9
  c1 := by simpa [upd] using h.c1.keep (w' := w.alloc (.cells #[kv] TBl)) (fun b c z hb => Below.heap_alloc w _ b (heap_lt hb))
  c2 := by
    have hk := h.c2.keep (w' := w.alloc (.cells #[kv] TBl)) (fun b c z hb => Below.heap_alloc w _ b (heap_lt hb))
    refine ⟨fun e => hk.row (by simpa [upd] using e), fun _ _ => ⟨w.heap.size, upd_same _ _ _, h.fr.size, World.alloc_heap_new w _⟩, fun e => ?_⟩
    have := hk.app (by simpa [upd] using e)
    simpa [upd] using this
  c3 := by simpa [upd] using h.c3.keep (w' := w.alloc (.cells #[kv] TBl)) (fun b c z hb => Below.heap_alloc w _ b (heap_lt hb))
  b1 := fun e => by
    have h1 := h.b1 (by simpa [upd] using e)
    exact (Below.heap_alloc w _ _ (heap_lt h1)).trans h1
  b1' := fun e => by
    obtain ⟨x, h0, h1⟩ := h.b1' (by simpa [upd] using e)
    exact ⟨x, by simpa [upd] using h0, (Below.heap_alloc w _ _ (heap_lt h1)).trans h1⟩
  b2 := fun e => by
    have h1 := h.b2 (by simpa [upd] using e)
    exact (Below.heap_alloc w _ _ (heap_lt h1)).trans h1
  b2' := fun e => by
    obtain ⟨x, h0, h1⟩ := h.b2' (by simpa [upd] using e)
    exact ⟨x, by simpa [upd] using h0, (Below.heap_alloc w _ _ (heap_lt h1)).trans h1⟩
  s14 := by simpa [upd] using h.s14
  fr := h.fr.grown (World.grownBy_alloc w _ none) (fun b e => by cases e)
theorem G24.build10 {C K n : Nat} {cv dv pv nx kv pw : Value} {cvs dvs pvs : List Value} {V0 : Nat → Option Value} {wb : World} {l : Nat → Bool} {V : Nat → Option Value} {w : World} (h : G24 C K n cv dv pv nx kv pw cvs dvs pvs V0 wb l V w) : G24 C K n cv dv pv nx kv pw cvs dvs pvs V0 wb (upd l 10 true) (upd V 92 (some (.slice (some ⟨w.heap.size, 0, none⟩) 1 1))) (w.alloc (.cells #[pw] TZ)) where
  oth := fun s h1 h2 => by rw [upd_ne _ _ (by omega)]; exact h.oth s h1 h2
  f5 := by simpa [upd] using h.f5
  s0 := by simpa [upd] using h.s0
  s1 := by simpa [upd] using h.s1
  s4 := by simpa [upd] using h.s4
  s5 := by simpa [upd] using h.s5
  s8 := by simpa [upd] using h.s8
  s9 := by simpa [upd] using h.s9
  c1 := by simpa [upd] using h.c1.keep (w' := w.alloc (.cells #[pw] TZ)) (fun b c z hb => Below.heap_alloc w _ b (heap_lt hb))
  c2 := by simpa [upd] using h.c2.keep (w' := w.alloc (.cells #[pw] TZ)) (fun b c z hb => Below.heap_alloc w _ b (heap_lt hb))
  c3 := by
    have hk := h.c3.keep (w' := w.alloc (.cells #[pw] TZ)) (fun b c z hb => Below.heap_alloc w _ b (heap_lt hb))
    refine ⟨fun e => hk.row (by simpa [upd] using e), fun _ _ => ⟨w.heap.size, upd_same _ _ _, h.fr.size, World.alloc_heap_new w _⟩, fun e => ?_⟩
    have := hk.app (by simpa [upd] using e)
    simpa [upd] using this
  b1 := fun e => by
    have h1 := h.b1 (by simpa [upd] using e)
    exact (Below.heap_alloc w _ _ (heap_lt h1)).trans h1
  b1' := fun e => by
    obtain ⟨x, h0, h1⟩ := h.b1' (by simpa [upd] using e)
    exact ⟨x, by simpa [upd] using h0, (Below.heap_alloc w _ _ (heap_lt h1)).trans h1⟩
  b2 := fun e => by
    have h1 := h.b2 (by simpa [upd] using e)
    exact (Below.heap_alloc w _ _ (heap_lt h1)).trans h1
  b2' := fun e => by
    obtain ⟨x, h0, h1⟩ := h.b2' (by simpa [upd] using e)
    exact ⟨x, by simpa [upd] using h0, (Below.heap_alloc w _ _ (heap_lt h1)).trans h1⟩
  s14 := by simpa [upd] using h.s14
  fr := h.fr.grown (World.grownBy_alloc w _ none) (fun b e => by cases e)
theorem G24.app3 {C K n : Nat} {cv dv pv nx kv pw : Value} {cvs dvs pvs : List Value} {V0 : Nat → Option Value} {wb : World} {l : Nat → Bool} {V : Nat → Option Value} {w : World} (h : G24 C K n cv dv pv nx kv pw cvs dvs pvs V0 wb l V w) (hb : l 2 = true) (ha : l 3 = false) (hst : l 12 = false) (hn : n ≤ 1000) (hone : nx.oneCell' = true) (hCw : C + 2 ≤ w.heap.size) : ∃ (m : Nat) (v' : Value) (w' : World), V 84 = some (.slice (some ⟨m, 0, none⟩) 1 1) ∧ (Builtin.append_ #[46, 46] 46 #[cv, .slice (some ⟨m, 0, none⟩) 1 1]).run Try.prog w = .ok v' w' ∧ G24 C K n cv dv pv nx kv pw cvs dvs pvs V0 wb (upd l 3 true) (upd V 85 (some v')) w' := by
  obtain ⟨i1, ji, jz0, jz1, jz2⟩ := info_parts infoC
  obtain ⟨m, hm1, hm2, hm3⟩ := h.c1.new ha hb
  obtain ⟨v', w', gn, hrun, ho, hgn, hc⟩ := appendOne 46 TC i1 (.slice none 0 0) 24 Try.underlying46 ji jz0 jz1 jz2 rfl (by decide) (h.c1.row ha) hCw hone ⟨m, 0, none⟩ (by rw [Lib.cell_of_heap hm3]; rfl) (by omega)
  have hkeep : ∀ (b : Nat) (c : Array Value) (t : TypeId) (z : Nat × Nat), w.heap[b]? = some (.cells c t z) → t ≠ TC → w'.heap[b]? = w.heap[b]? := by
    intro b c t z hb ht
    rcases hc with ⟨h1, h2⟩ | ⟨_, h2⟩
    · refine h2.block b (heap_lt hb) (fun e => ?_)
      cases e
      rcases (h.c1.row ha).2 with ⟨e, _⟩ | ⟨g, cap, cur, e, _, hg, _⟩
      · rw [e] at h1; simp [Value.ownBlock] at h1
      · rw [e] at h1
        simp [Value.ownBlock] at h1
        subst h1
        rw [hb] at hg
        cases hg
        exact ht rfl
    · exact h2.block b (heap_lt hb) (by simp)
  exact ⟨m, v', w', hm1, hrun, {
    oth := fun s h1 h2 => by rw [upd_ne _ _ (by omega)]; exact h.oth s h1 h2
    f5 := by simpa [upd] using h.f5
    s0 := by simpa [upd] using h.s0
    s1 := by simpa [upd] using h.s1
    s4 := by simpa [upd] using h.s4
    s5 := by simpa [upd] using h.s5
    s8 := by simpa [upd] using h.s8
    s9 := by simpa [upd] using h.s9
    c1 := ⟨fun e => by simp [upd] at e, fun e => by simp [upd] at e, fun _ => ⟨v', upd_same _ _ _, ho, fun b e => by
      rw [hgn] at e
      cases e
      rcases hc with ⟨h1, _⟩ | ⟨h1, _⟩
      · exact .inl h1
      · exact .inr (Nat.le_trans h.fr.size h1)⟩⟩
    c2 := by simpa [upd] using h.c2.keep (fun b c z hb => hkeep b c TBl z hb (by decide))
    c3 := by simpa [upd] using h.c3.keep (fun b c z hb => hkeep b c TZ z hb (by decide))
    b1 := fun e => by
      have h1 := h.b1 (by simpa [upd] using e)
      exact (hkeep _ _ _ _ h1 (by decide)).trans h1
    b1' := fun e => by
      rw [upd_ne _ _ (by decide), hst] at e
      cases e
    b2 := fun e => by
      have h1 := h.b2 (by simpa [upd] using e)
      exact (hkeep _ _ _ _ h1 (by decide)).trans h1
    b2' := fun e => by
      obtain ⟨x, h0, h1⟩ := h.b2' (by simpa [upd] using e)
      exact ⟨x, by simpa [upd] using h0, (hkeep _ _ _ _ h1 (by decide)).trans h1⟩
    s14 := by simpa [upd] using h.s14
    fr := by
      rcases hc with ⟨h1, h2⟩ | ⟨_, h2⟩
      · exact h.fr.grown h2 (fun b e _ hp => by cases e; exact hp.2.2.1 h1)
      · exact h.fr.grown h2 (fun b e => by cases e) }⟩
theorem G24.app7 {C K n : Nat} {cv dv pv nx kv pw : Value} {cvs dvs pvs : List Value} {V0 : Nat → Option Value} {wb : World} {l : Nat → Bool} {V : Nat → Option Value} {w : World} (h : G24 C K n cv dv pv nx kv pw cvs dvs pvs V0 wb l V w) (hb : l 6 = true) (ha : l 7 = false) (hst : l 13 = false) (hn : n ≤ 1000) (hone : kv.oneCell' = true) (hCw : C + 2 ≤ w.heap.size) : ∃ (m : Nat) (v' : Value) (w' : World), V 88 = some (.slice (some ⟨m, 0, none⟩) 1 1) ∧ (Builtin.append_ #[47, 47] 47 #[dv, .slice (some ⟨m, 0, none⟩) 1 1]).run Try.prog w = .ok v' w' ∧ G24 C K n cv dv pv nx kv pw cvs dvs pvs V0 wb (upd l 7 true) (upd V 89 (some v')) w' := by
  obtain ⟨i1, ji, jz0, jz1, jz2⟩ := info_parts infoBl
  obtain ⟨m, hm1, hm2, hm3⟩ := h.c2.new ha hb
  obtain ⟨v', w', gn, hrun, ho, hgn, hc⟩ := appendOne 47 TBl i1 (.slice none 0 0) 24 Try.underlying47 ji jz0 jz1 jz2 rfl (by decide) (h.c2.row ha) hCw hone ⟨m, 0, none⟩ (by rw [Lib.cell_of_heap hm3]; rfl) (by omega)
  have hkeep : ∀ (b : Nat) (c : Array Value) (t : TypeId) (z : Nat × Nat), w.heap[b]? = some (.cells c t z) → t ≠ TBl → w'.heap[b]? = w.heap[b]? := by
    intro b c t z hb ht
    rcases hc with ⟨h1, h2⟩ | ⟨_, h2⟩
    · refine h2.block b (heap_lt hb) (fun e => ?_)
      cases e
      rcases (h.c2.row ha).2 with ⟨e, _⟩ | ⟨g, cap, cur, e, _, hg, _⟩
      · rw [e] at h1; simp [Value.ownBlock] at h1
      · rw [e] at h1
        simp [Value.ownBlock] at h1
        subst h1
        rw [hb] at hg
        cases hg
        exact ht rfl
    · exact h2.block b (heap_lt hb) (by simp)
  exact ⟨m, v', w', hm1, hrun, {
    oth := fun s h1 h2 => by rw [upd_ne _ _ (by omega)]; exact h.oth s h1 h2
    f5 := by simpa [upd] using h.f5
    s0 := by simpa [upd] using h.s0
    s1 := by simpa [upd] using h.s1
    s4 := by simpa [upd] using h.s4
    s5 := by simpa [upd] using h.s5
    s8 := by simpa [upd] using h.s8
    s9 := by simpa [upd] using h.s9
    c1 := by simpa [upd] using h.c1.keep (fun b c z hb => hkeep b c TC z hb (by decide))
    c2 := ⟨fun e => by simp [upd] at e, fun e => by simp [upd] at e, fun _ => ⟨v', upd_same _ _ _, ho, fun b e => by
      rw [hgn] at e
      cases e
      rcases hc with ⟨h1, _⟩ | ⟨h1, _⟩
      · exact .inl h1
      · exact .inr (Nat.le_trans h.fr.size h1)⟩⟩
    c3 := by simpa [upd] using h.c3.keep (fun b c z hb => hkeep b c TZ z hb (by decide))
    b1 := fun e => by
      have h1 := h.b1 (by simpa [upd] using e)
      exact (hkeep _ _ _ _ h1 (by decide)).trans h1
    b1' := fun e => by
      obtain ⟨x, h0, h1⟩ := h.b1' (by simpa [upd] using e)
      exact ⟨x, by simpa [upd] using h0, (hkeep _ _ _ _ h1 (by decide)).trans h1⟩
    b2 := fun e => by
      have h1 := h.b2 (by simpa [upd] using e)
      exact (hkeep _ _ _ _ h1 (by decide)).trans h1
    b2' := fun e => by
      rw [upd_ne _ _ (by decide), hst] at e
      cases e
    s14 := by simpa [upd] using h.s14
    fr := by
      rcases hc with ⟨h1, h2⟩ | ⟨_, h2⟩
      · exact h.fr.grown h2 (fun b e _ hp => by cases e; exact hp.2.2.2.1 h1)
      · exact h.fr.grown h2 (fun b e => by cases e) }⟩
theorem G24.app11 {C K n : Nat} {cv dv pv nx kv pw : Value} {cvs dvs pvs : List Value} {V0 : Nat → Option Value} {wb : World} {l : Nat → Bool} {V : Nat → Option Value} {w : World} (h : G24 C K n cv dv pv nx kv pw cvs dvs pvs V0 wb l V w) (hb : l 10 = true) (ha : l 11 = false) (hst : l 14 = false) (hn : n ≤ 1000) (hone : pw.oneCell' = true) (hCw : C + 2 ≤ w.heap.size) : ∃ (m : Nat) (v' : Value) (w' : World), V 92 = some (.slice (some ⟨m, 0, none⟩) 1 1) ∧ (Builtin.append_ #[22, 22] 22 #[pv, .slice (some ⟨m, 0, none⟩) 1 1]).run Try.prog w = .ok v' w' ∧ G24 C K n cv dv pv nx kv pw cvs dvs pvs V0 wb (upd l 11 true) (upd V 93 (some v')) w' := by
  obtain ⟨i1, ji, jz0, jz1, jz2⟩ := info_parts infoZ
  obtain ⟨m, hm1, hm2, hm3⟩ := h.c3.new ha hb
  obtain ⟨v', w', gn, hrun, ho, hgn, hc⟩ := appendOne 22 TZ i1 (.int .i64 0) 8 Try.underlying22 ji jz0 jz1 jz2 rfl (by decide) (h.c3.row ha) hCw hone ⟨m, 0, none⟩ (by rw [Lib.cell_of_heap hm3]; rfl) (by omega)
  have hkeep : ∀ (b : Nat) (c : Array Value) (t : TypeId) (z : Nat × Nat), w.heap[b]? = some (.cells c t z) → t ≠ TZ → w'.heap[b]? = w.heap[b]? := by
    intro b c t z hb ht
    rcases hc with ⟨h1, h2⟩ | ⟨_, h2⟩
    · refine h2.block b (heap_lt hb) (fun e => ?_)
      cases e
      rcases (h.c3.row ha).2 with ⟨e, _⟩ | ⟨g, cap, cur, e, _, hg, _⟩
      · rw [e] at h1; simp [Value.ownBlock] at h1
      · rw [e] at h1
        simp [Value.ownBlock] at h1
        subst h1
        rw [hb] at hg
        cases hg
        exact ht rfl
    · exact h2.block b (heap_lt hb) (by simp)
  exact ⟨m, v', w', hm1, hrun, {
    oth := fun s h1 h2 => by rw [upd_ne _ _ (by omega)]; exact h.oth s h1 h2
    f5 := by simpa [upd] using h.f5
    s0 := by simpa [upd] using h.s0
    s1 := by simpa [upd] using h.s1
    s4 := by simpa [upd] using h.s4
    s5 := by simpa [upd] using h.s5
    s8 := by simpa [upd] using h.s8
    s9 := by simpa [upd] using h.s9
    c1 := by simpa [upd] using h.c1.keep (fun b c z hb => hkeep b c TC z hb (by decide))
    c2 := by simpa [upd] using h.c2.keep (fun b c z hb => hkeep b c TBl z hb (by decide))
    c3 := ⟨fun e => by simp [upd] at e, fun e => by simp [upd] at e, fun _ => ⟨v', upd_same _ _ _, ho, fun b e => by
      rw [hgn] at e
      cases e
      rcases hc with ⟨h1, _⟩ | ⟨h1, _⟩
      · exact .inl h1
      · exact .inr (Nat.le_trans h.fr.size h1)⟩⟩
    b1 := fun e => by
      have h1 := h.b1 (by simpa [upd] using e)
      exact (hkeep _ _ _ _ h1 (by decide)).trans h1
    b1' := fun e => by
      obtain ⟨x, h0, h1⟩ := h.b1' (by simpa [upd] using e)
      exact ⟨x, by simpa [upd] using h0, (hkeep _ _ _ _ h1 (by decide)).trans h1⟩
    b2 := fun e => by
      have h1 := h.b2 (by simpa [upd] using e)
      exact (hkeep _ _ _ _ h1 (by decide)).trans h1
    b2' := fun e => by
      obtain ⟨x, h0, h1⟩ := h.b2' (by simpa [upd] using e)
      exact ⟨x, by simpa [upd] using h0, (hkeep _ _ _ _ h1 (by decide)).trans h1⟩
    s14 := fun e => by
      rw [upd_ne _ _ (by decide), hst] at e
      cases e
    fr := by
      rcases hc with ⟨h1, h2⟩ | ⟨_, h2⟩
      · exact h.fr.grown h2 (fun b e _ hp => by cases e; exact hp.2.2.2.2 h1)
      · exact h.fr.grown h2 (fun b e => by cases e) }⟩
theorem G24.store12 {C K n : Nat} {cv dv pv nx kv pw : Value} {cvs dvs pvs : List Value} {V0 : Nat → Option Value} {wb : World} {l : Nat → Bool} {V : Nat → Option Value} {w : World} (h : G24 C K n cv dv pv nx kv pw cvs dvs pvs V0 wb l V w) (ha : l 3 = true) (hs : l 12 = false) : ∃ x v0, V 85 = some x ∧ w.heap[C]? = some (.cells #[v0] T46 (0, 0)) ∧ G24 C K n cv dv pv nx kv pw cvs dvs pvs V0 wb (upd l 12 true) V (w.setCell ⟨C, 0, none⟩ x) := by
  obtain ⟨x, hx, _, _⟩ := h.c1.app ha
  have hbx := h.b1 hs
  have hset : (w.setCell ⟨C, 0, none⟩ x).heap[C]? = some (.cells #[x] T46 (0, 0)) := by rw [heap_setCell_same w (C) 0 _ _ _ hbx]; rfl
  have hkeep : ∀ (b : Nat) (c : Array Value) (t : TypeId) (z : Nat × Nat), w.heap[b]? = some (.cells c t z) → t ≠ T46 → (w.setCell ⟨C, 0, none⟩ x).heap[b]? = w.heap[b]? := by
    intro b c t z hb ht
    refine Below.heap_setCell w ⟨C, 0, none⟩ _ b (fun e => ?_)
    have e : b = C := e
    subst e
    rw [hbx] at hb
    cases hb
    exact ht rfl
  exact ⟨x, _, hx, hbx, {
    oth := h.oth
    f5 := by simpa [upd] using h.f5
    s0 := by simpa [upd] using h.s0
    s1 := by simpa [upd] using h.s1
    s4 := by simpa [upd] using h.s4
    s5 := by simpa [upd] using h.s5
    s8 := by simpa [upd] using h.s8
    s9 := by simpa [upd] using h.s9
    c1 := by simpa [upd] using h.c1.keep (fun b c z hb => hkeep b c TC z hb (by decide))
    c2 := by simpa [upd] using h.c2.keep (fun b c z hb => hkeep b c TBl z hb (by decide))
    c3 := by simpa [upd] using h.c3.keep (fun b c z hb => hkeep b c TZ z hb (by decide))
    b1 := fun e => by simp [upd] at e
    b1' := fun _ => ⟨x, hx, hset⟩
    b2 := fun e => by
      have h1 := h.b2 (by simpa [upd] using e)
      exact (hkeep _ _ _ _ h1 (by decide)).trans h1
    b2' := fun e => by
      obtain ⟨x, h0, h1⟩ := h.b2' (by simpa [upd] using e)
      exact ⟨x, h0, (hkeep _ _ _ _ h1 (by decide)).trans h1⟩
    s14 := by simpa [upd] using h.s14
    fr := h.fr.grown (r := some (C)) ⟨rfl, rfl, rfl, by simp [World.setCell], fun b _ hb => Below.heap_setCell w ⟨C, 0, none⟩ _ b (fun e => hb (by rw [e]))⟩ (fun b e _ hp => by cases e; exact hp.1 rfl) }⟩
theorem G24.store13 {C K n : Nat} {cv dv pv nx kv pw : Value} {cvs dvs pvs : List Value} {V0 : Nat → Option Value} {wb : World} {l : Nat → Bool} {V : Nat → Option Value} {w : World} (h : G24 C K n cv dv pv nx kv pw cvs dvs pvs V0 wb l V w) (ha : l 7 = true) (hs : l 13 = false) : ∃ x v0, V 89 = some x ∧ w.heap[C + 1]? = some (.cells #[v0] T47 (0, 0)) ∧ G24 C K n cv dv pv nx kv pw cvs dvs pvs V0 wb (upd l 13 true) V (w.setCell ⟨C + 1, 0, none⟩ x) := by
  obtain ⟨x, hx, _, _⟩ := h.c2.app ha
  have hbx := h.b2 hs
  have hset : (w.setCell ⟨C + 1, 0, none⟩ x).heap[C + 1]? = some (.cells #[x] T47 (0, 0)) := by rw [heap_setCell_same w (C + 1) 0 _ _ _ hbx]; rfl
  have hkeep : ∀ (b : Nat) (c : Array Value) (t : TypeId) (z : Nat × Nat), w.heap[b]? = some (.cells c t z) → t ≠ T47 → (w.setCell ⟨C + 1, 0, none⟩ x).heap[b]? = w.heap[b]? := by
    intro b c t z hb ht
    refine Below.heap_setCell w ⟨C + 1, 0, none⟩ _ b (fun e => ?_)
    have e : b = C + 1 := e
    subst e
    rw [hbx] at hb
    cases hb
    exact ht rfl
  exact ⟨x, _, hx, hbx, {
    oth := h.oth
    f5 := by simpa [upd] using h.f5
    s0 := by simpa [upd] using h.s0
    s1 := by simpa [upd] using h.s1
    s4 := by simpa [upd] using h.s4
    s5 := by simpa [upd] using h.s5
    s8 := by simpa [upd] using h.s8
    s9 := by simpa [upd] using h.s9
    c1 := by simpa [upd] using h.c1.keep (fun b c z hb => hkeep b c TC z hb (by decide))
    c2 := by simpa [upd] using h.c2.keep (fun b c z hb => hkeep b c TBl z hb (by decide))
    c3 := by simpa [upd] using h.c3.keep (fun b c z hb => hkeep b c TZ z hb (by decide))
    b1 := fun e => by
      have h1 := h.b1 (by simpa [upd] using e)
      exact (hkeep _ _ _ _ h1 (by decide)).trans h1
    b1' := fun e => by
      obtain ⟨x, h0, h1⟩ := h.b1' (by simpa [upd] using e)
      exact ⟨x, h0, (hkeep _ _ _ _ h1 (by decide)).trans h1⟩
    b2 := fun e => by simp [upd] at e
    b2' := fun _ => ⟨x, hx, hset⟩
    s14 := by simpa [upd] using h.s14
    fr := h.fr.grown (r := some (C + 1)) ⟨rfl, rfl, rfl, by simp [World.setCell], fun b _ hb => Below.heap_setCell w ⟨C + 1, 0, none⟩ _ b (fun e => hb (by rw [e]))⟩ (fun b e _ hp => by cases e; exact hp.2.1 rfl) }⟩
theorem G24.last {C K n : Nat} {cv dv pv nx kv pw : Value} {cvs dvs pvs : List Value} {V0 : Nat → Option Value} {wb : World} {l : Nat → Bool} {V : Nat → Option Value} {w : World} (h : G24 C K n cv dv pv nx kv pw cvs dvs pvs V0 wb l V w) (ha : l 11 = true) : ∃ x, V 93 = some x ∧ G24 C K n cv dv pv nx kv pw cvs dvs pvs V0 wb (upd l 14 true) (upd V 5 (some x)) w := by
  obtain ⟨x, hx, _, _⟩ := h.c3.app ha
  exact ⟨x, hx, {
    oth := fun s h1 h2 => by rw [upd_ne _ _ h2]; exact h.oth s h1 h2
    f5 := fun e => by simp [upd] at e
    s0 := by simpa [upd] using h.s0
    s1 := by simpa [upd] using h.s1
    s4 := by simpa [upd] using h.s4
    s5 := by simpa [upd] using h.s5
    s8 := by simpa [upd] using h.s8
    s9 := by simpa [upd] using h.s9
    c1 := by simpa [upd] using h.c1
    c2 := by simpa [upd] using h.c2
    c3 := by simpa [upd] using h.c3
    b1 := by simpa [upd] using h.b1
    b1' := by simpa [upd] using h.b1'
    b2 := by simpa [upd] using h.b2
    b2' := by simpa [upd] using h.b2'
    s14 := fun _ => ⟨x, by simpa [upd] using hx, upd_same _ _ _⟩
    fr := by simpa [upd] using h.fr }⟩

end Go.Proofs.Ytpkmdonejmbnoaa
