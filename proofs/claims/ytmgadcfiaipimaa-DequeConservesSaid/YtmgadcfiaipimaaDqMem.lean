/-
  Slices of ints in memory, with their capacity; parts of slices; pairs.
-/
import Derived.Test.YtmgadcfiaipimaaDqPlain
namespace Go.Proofs.Ytmgadcfiaipimaa
open Go.RowKit

/-- A slice value that leads to these integers, in a block below n. -/
def KzC (n : Nat) (w : World) (v : Value) (zs : List Int) : Prop := ∃ a c, v = .slice a zs.length c ∧ zs.length ≤ c ∧ c ≤ 9223372036854775807 ∧ IntsA n w a zs
abbrev KZ (w : World) (v : Value) (zs : List Int) : Prop := KzC w.heap.size w v zs
theorem KzC.below {n : Nat} {w w' : World} {v : Value} {zs : List Int} (h : KzC n w v zs) (hb : Below n w w') : KzC n w' v zs := by
  obtain ⟨a, c, e, h1, h2, h3⟩ := h
  exact ⟨a, c, e, h1, h2, h3.below hb⟩
theorem KzC.mono {n m : Nat} {w : World} {v : Value} {zs : List Int} (h : KzC n w v zs) (hm : n ≤ m) : KzC m w v zs := by
  obtain ⟨a, c, e, h1, h2, h3⟩ := h
  exact ⟨a, c, e, h1, h2, h3.mono hm⟩
theorem KZ.below {w w' : World} {v : Value} {zs : List Int} (h : KZ w v zs) (hb : Below w.heap.size w w') : KZ w' v zs := KzC.mono (KzC.below h hb) hb.size
theorem KzC.nil (n : Nat) (w : World) (a : Option Addr) (c : Nat) (hc : c ≤ 9223372036854775807) : KzC n w (.slice a 0 c) [] := ⟨a, c, rfl, Nat.zero_le _, hc, fun j hj => by simp at hj⟩
theorem KZ.lc {w : World} {v : Value} {zs : List Int} (h : KZ w v zs) : KlC w v zs := by
  obtain ⟨a, c, e, h1, h2, h3⟩ := h
  exact ⟨a, c, e, h3, by omega⟩
theorem KZ.len {w : World} {v : Value} {zs : List Int} (h : KZ w v zs) : zs.length ≤ 9223372036854775807 := by
  obtain ⟨a, c, e, h1, h2, h3⟩ := h
  omega
theorem OwnZ.kz {B : Nat} {zs : List Int} {v : Value} {w : World} (h : OwnZ B zs v w) : KZ w v zs := by
  obtain ⟨a, c, e, h1, h2⟩ := h.known
  obtain ⟨a', c', e', h3, h4⟩ := ownZ_slice (show w.ownsRow B TZ 1 v zs.length (intV zs) from h)
  rw [e] at e'
  cases e'
  exact ⟨a, c, e, h3, h4, h1⟩
theorem intsA_take {n : Nat} {w : World} {a : Option Addr} {zs : List Int} (h : IntsA n w a zs) (k : Nat) : IntsA n w a (zs.take k) := fun j hj => by
  rw [List.length_take] at hj
  obtain ⟨b, off, e, h1, h2⟩ := h j (by omega)
  refine ⟨b, off, e, h1, ?_⟩
  rw [h2, List.getElem?_take_of_lt (by omega)]
theorem gz_take {zs : List Int} {i k : Nat} (h : i < k) : gz (zs.take k) i = gz zs i := by unfold gz; rw [List.getElem?_take_of_lt h]
theorem gz_drop (zs : List Int) (k i : Nat) : gz (zs.drop k) i = gz zs (k + i) := by unfold gz; rw [List.getElem?_drop]
/-- What is behind a place of a slice. -/
theorem restZ (n i : Nat) (ad : Option Addr) (cap : Nat) (zs : List Int) (W : World) (hA : IntsA n W ad zs) (hcap : zs.length ≤ cap) (hi : i ≤ zs.length) :
    ∃ (ao : Option Addr) (c2 : Nat), IntsA n W ao (zs.drop i) ∧ zs.length - i ≤ c2 ∧ c2 ≤ cap ∧ ∀ w, (Instr.slice 22 (.slice ad zs.length cap) (some (.int .i64 (i : Int))) none none).run Try.prog w = .ok (.slice ao (zs.length - i) c2) w := by
  refine ⟨if cap = i then ad else ad.map (·.add i), cap - i, fun j hj => ?_, by omega, by omega, fun w => ?_⟩
  · simp only [List.length_drop] at hj
    obtain ⟨b, off, rfl, hb, h⟩ := hA (i + j) (by omega)
    refine ⟨b, off + i, by rw [if_neg (by omega)]; simp [Addr.add], hb, ?_⟩
    rw [List.getElem?_drop, show off + i + j = off + (i + j) by omega]
    exact h
  · rw [run_slice_l w 22 ad zs.length cap (by kernel_rfl) .i64 (i : Int) (by omega) (by omega)]
    have hz : (sizeOf (Try.prog.elem 22)).run Try.prog w = .ok 1 w := by kernel_rfl
    rw [hz]
    simp [Result.andThen, sliced]
/-- What is ahead of a place of a slice. -/
theorem headZ (i : Nat) (ad : Option Addr) (len cap : Nat) (hcap : i ≤ cap) (w : World) : (Instr.slice 22 (.slice ad len cap) none (some (.int .i64 (i : Int))) none).run Try.prog w = .ok (.slice ad i cap) w := by
  rw [run_slice_h w 22 ad len cap (by kernel_rfl) .i64 (i : Int) (by omega) (by omega)]
  have hz : (sizeOf (Try.prog.elem 22)).run Try.prog w = .ok 1 w := by kernel_rfl
  rw [hz]
  simp [Result.andThen, sliced]
  intro _
  cases ad <;> simp [Addr.add]
theorem cell_laterZ {w w' : World} {p : Addr} {v : Value} (hb : Below w.heap.size w w') (h : w.cell? p = some v) : w'.cell? p = some v := (hb.cell (World.block_lt_of_cell? _ _ h)).trans h
theorem grown_ofZ {w w' : World} (h : Below w.heap.size w w') (row : Option Nat) : w.grownBy w' row := ⟨h.os, h.tape, h.output, h.size, fun k hk _ => h.block k hk⟩
theorem OwnZ.below {B : Nat} {o : List Int} {v : Value} {w w' : World} (h : OwnZ B o v w) (hb : Below w.heap.size w w') : OwnZ B o v w' := World.ownsRow.kept (show w.ownsRow B TZ 1 v o.length (intV o) from h) (grown_ofZ hb none) (by cases v.ownBlock <;> simp)
theorem OwnZ.lt {B : Nat} {o : List Int} {v : Value} {w : World} (h : OwnZ B o v w) : ∀ k, v.ownBlock = some k → B ≤ k ∧ k < w.heap.size := fun k e => World.ownsRow.lt (show w.ownsRow B TZ 1 v o.length (intV o) from h) k e
theorem below_drewZ {B n : Nat} {a b : World} (h : Below B a b) : Below B a (b.drewN n) := ⟨h.os, h.tape, h.output, h.size, h.block⟩
theorem made_rowZ {V : World} {B x : Nat} (h : V.heap[x]? = some (.cells #[] TZ (0, 0))) (hB : B ≤ x) : OwnZ B [] (.slice (some ⟨x, 0, none⟩) 0 0) V := ⟨rfl, .inr ⟨x, 0, #[], rfl, hB, h, Nat.le_refl _, Nat.zero_le _, rfl, rfl⟩⟩

/-- Integers are appended to a row. -/
theorem append_restZ (W : World) (B n : Nat) (v : Value) (o : List Int) (ad : Option Addr) (c : Nat) (zs : List Int) (hO : OwnZ B o v W) (hA : IntsA n W ad zs) (hl : o.length ≤ 10000) (hz : zs.length ≤ 10000) (hBW : B ≤ W.heap.size) :
    ∃ v' w', (Builtin.append_ #[22, 22] 22 #[v, .slice ad zs.length c]).run Try.prog W = .ok v' w' ∧ OwnZ B (o ++ zs) v' w' ∧ W.grownBy w' v.ownBlock ∧ Below B W w' := by
  obtain ⟨i3, ki, kz0, kz1, kz2⟩ := info_parts infoZ
  have hr : W.ownsRow B TZ 1 v o.length (intV o) := hO
  cases ad with
  | none =>
    have hz : zs = [] := by
      cases zs with
      | nil => rfl
      | cons y ys =>
        obtain ⟨b, off, e, _⟩ := hA 0 (by simp)
        cases e
    subst hz
    obtain ⟨a', c', rfl, hc', _⟩ := ownZ_slice hr
    have hrun : (Builtin.append_ #[22, 22] 22 #[.slice a' o.length c', .slice none 0 c]).run Try.prog W = .ok (.slice a' o.length c') W := by
      cases a' with
      | none =>
        rcases hr.2 with ⟨e, e2⟩ | ⟨g, cap, cur, e, _⟩
        · injection e with e3 e4 e5
          rw [e2, e5]
          simp [Builtin.append_, run_underlying Try.underlying22, sizeOf, typeInfo, ki, Builtin.lenOf, Builtin.firstCells]
        · injection e with e3
          cases e3
      | some q => simp [Builtin.append_, run_underlying Try.underlying22, sizeOf, typeInfo, ki, Builtin.lenOf, Builtin.firstCells, storeCells, hc']
    exact ⟨_, _, hrun, by rw [List.append_nil]; exact hO, ⟨rfl, rfl, rfl, Nat.le_refl _, fun _ _ _ => rfl⟩, Below.refl _ _⟩
  | some q =>
    have hc : ∀ j u, (intV zs)[j]? = some u → W.cell? (q.add j) = some u := by
      intro j u hj
      have hlt : j < (intV zs).length := (List.getElem?_eq_some_iff.1 hj).1
      rw [intV_length] at hlt
      obtain ⟨b, off, e, _, h⟩ := hA j hlt
      cases e
      rw [Addr.add_lit, h, ← hj, intV_get _ hlt]
      rfl
    obtain ⟨v', w', h1, h2, h3, h4⟩ := run_append_own (P := Try.prog) W B 22 22 TZ i3 (.int .i64 0) 1 8 Try.underlying22 ki kz0 kz1 kz2 rfl (by decide) _ _ _ hr q zs.length c (intV zs) (by rw [intV_length, Nat.mul_one]) hc (intV_one _) (by unfold maxLen; omega) (by omega) hBW
    refine ⟨v', w', h1, ?_, h3, (Below.refl B W).grown h3 hBW (fun k e => (World.ownsRow.lt hr k e).1)⟩
    unfold OwnZ
    rw [List.length_append, show intV (o ++ zs) = intV o ++ intV zs by simp [intV]]
    exact h2
/-- One integer more in a row, out of a block of its own. -/
theorem append_oneZ (W : World) (B : Nat) (v : Value) (o : List Int) (x : Int) (y : Nat) (hO : OwnZ B o v W) (hy : W.heap[y]? = some (.cells #[.int .i64 x] TZ (0, 0))) (hl : o.length ≤ 10000) (hBW : B ≤ W.heap.size) :
    ∃ v' w', (Builtin.append_ #[22, 22] 22 #[v, .slice (some ⟨y, 0, none⟩) 1 1]).run Try.prog W = .ok v' w' ∧ OwnZ B (o ++ [x]) v' w' ∧ W.grownBy w' v.ownBlock ∧ Below B W w' := by
  refine append_restZ W B (y + 1) v o (some ⟨y, 0, none⟩) 1 [x] hO (fun j hj => ?_) hl (by simp) hBW
  obtain rfl : j = 0 := by simpa using hj
  exact ⟨y, 0, rfl, by omega, by rw [Lib.cell_of_heap hy]; rfl⟩

/-- A slice value that leads to these integers, in a block from m on. -/
def FzC (m : Nat) (w : World) (v : Value) (zs : List Int) : Prop := ∃ a c, v = .slice a zs.length c ∧ zs.length ≤ c ∧ c ≤ 9223372036854775807 ∧ ∀ j, j < zs.length → ∃ b off, a = some ⟨b, off, none⟩ ∧ m ≤ b ∧ b < w.heap.size ∧ w.cell? ⟨b, off + j, none⟩ = some (.int .i64 (gz zs j))
theorem FzC.kz {m : Nat} {w : World} {v : Value} {zs : List Int} (h : FzC m w v zs) : KZ w v zs := by
  obtain ⟨a, c, e, h1, h2, h3⟩ := h
  refine ⟨a, c, e, h1, h2, fun j hj => ?_⟩
  obtain ⟨b, off, e1, e2, e3, e4⟩ := h3 j hj
  exact ⟨b, off, e1, e3, e4⟩
theorem FzC.lower {m k : Nat} {w : World} {v : Value} {zs : List Int} (h : FzC m w v zs) (hk : k ≤ m) : FzC k w v zs := by
  obtain ⟨a, c, e, h1, h2, h3⟩ := h
  refine ⟨a, c, e, h1, h2, fun j hj => ?_⟩
  obtain ⟨b, off, e1, e2, e3, e4⟩ := h3 j hj
  exact ⟨b, off, e1, Nat.le_trans hk e2, e3, e4⟩
theorem FzC.below {m : Nat} {w w' : World} {v : Value} {zs : List Int} (h : FzC m w v zs) (hb : Below w.heap.size w w') : FzC m w' v zs := by
  obtain ⟨a, c, e, h1, h2, h3⟩ := h
  refine ⟨a, c, e, h1, h2, fun j hj => ?_⟩
  obtain ⟨b, off, e1, e2, e3, e4⟩ := h3 j hj
  exact ⟨b, off, e1, e2, Nat.lt_of_lt_of_le e3 hb.size, (hb.cell (p := ⟨b, off + j, none⟩) e3).trans e4⟩
theorem FzC.nil (m : Nat) (w : World) (a : Option Addr) (c : Nat) (hc : c ≤ 9223372036854775807) : FzC m w (.slice a 0 c) [] := ⟨a, c, rfl, Nat.zero_le _, hc, fun j hj => by simp at hj⟩
theorem FzC.cast {m : Nat} {w : World} {v : Value} {xs ys : List Int} (h : FzC m w v xs) (e : xs = ys) : FzC m w v ys := e ▸ h
/-- It stays so where another row grows. -/
theorem FzC.grown {m : Nat} {w w' : World} {v : Value} {zs : List Int} {r : Option Nat} (h : FzC m w v zs) (hg : w.grownBy w' r) (hr : ∀ b, r = some b → b < m) : FzC m w' v zs := by
  obtain ⟨a, c, e, h1, h2, h3⟩ := h
  refine ⟨a, c, e, h1, h2, fun j hj => ?_⟩
  obtain ⟨b, off, e1, e2, e3, e4⟩ := h3 j hj
  have hb := hg.block b e3 (fun e => by have := hr b e.symm; omega)
  exact ⟨b, off, e1, e2, Nat.lt_of_lt_of_le e3 hg.size, (World.cell?_of_block (a := ⟨b, off + j, none⟩) hb).trans e4⟩
theorem OwnZ.fz {B : Nat} {zs : List Int} {v : Value} {w : World} (h : OwnZ B zs v w) : FzC B w v zs := by
  have h : w.ownsRow B TZ 1 v zs.length (intV zs) := h
  obtain ⟨a, c, rfl, h1, h2⟩ := ownZ_slice h
  refine ⟨a, c, rfl, h1, h2, fun j hj => ?_⟩
  obtain ⟨g, cap, e, hB⟩ := ownZ_some h (by omega)
  injection e with e1 e2 e3
  subst e1
  refine ⟨g, 0, rfl, hB, (World.ownsRow.lt h g rfl).2, ?_⟩
  rw [Nat.zero_add, World.ownsRow.cellAt h j (by omega), intV_get zs hj]

/-! ### Calls that return such slices -/

/-- Integers and an error. -/
def RetZ (zs : List Int) (x : Int) (w : World) (e : Ending) (w' : World) : Prop := ∃ v, e = .returned (.tuple #[v, .int .i64 x]) ∧ FzC w.heap.size w' v zs ∧ Below w.heap.size w w'
/-- Integers, a task and an error. -/
def RetX (zs : List Int) (y x : Int) (w : World) (e : Ending) (w' : World) : Prop := ∃ v, e = .returned (.tuple #[v, .int .i64 y, .int .i64 x]) ∧ FzC w.heap.size w' v zs ∧ Below w.heap.size w w'
/-- Two slices of integers. -/
def RetD (xs ys : List Int) (w : World) (e : Ending) (w' : World) : Prop := ∃ u v, e = .returned (.tuple #[u, v]) ∧ FzC w.heap.size w' u xs ∧ FzC w.heap.size w' v ys ∧ Below w.heap.size w w'
/-- Two slices of integers and an error. -/
def RetP (s : Pl) (w : World) (e : Ending) (w' : World) : Prop := ∃ u v, e = .returned (.tuple #[u, v, .int .i64 s.2.2]) ∧ FzC w.heap.size w' u s.1 ∧ FzC w.heap.size w' v s.2.1 ∧ Below w.heap.size w w'

/-! ### Operations in memory -/

abbrev TE : TypeId := 40
theorem infoE : (Try.prog.info? TE).map (fun i => (i.zero, i.size, i.bytes)) = some (some (.agg #[.int .i64 0, .int .i64 0]), 2, 16) := by kernel_rfl
/-- The slice with this address holds the pairs es, in a block below n. -/
def EdgesA (n : Nat) (W : World) (ad : Option Addr) (es : List (Int × Int)) : Prop :=
  ∀ j, j < es.length → ∃ b off, ad = some ⟨b, off, none⟩ ∧ b < n ∧ W.cell? ⟨b, off + j * 2, none⟩ = some (.int .i64 (ge es j).1) ∧ W.cell? ⟨b, off + j * 2 + 1, none⟩ = some (.int .i64 (ge es j).2)
theorem EdgesA.below {n : Nat} {A B : World} (h : Below n A B) {ad : Option Addr} {es : List (Int × Int)} (hE : EdgesA n A ad es) : EdgesA n B ad es := fun j hj => by
  obtain ⟨b, off, e, hb, h1, h2⟩ := hE j hj
  exact ⟨b, off, e, hb, (h.cell (p := ⟨b, off + j * 2, none⟩) hb).trans h1, (h.cell (p := ⟨b, off + j * 2 + 1, none⟩) hb).trans h2⟩
theorem EdgesA.mono {n m : Nat} {A : World} (hnm : n ≤ m) {ad : Option Addr} {es : List (Int × Int)} (hE : EdgesA n A ad es) : EdgesA m A ad es := fun j hj => by
  obtain ⟨b, off, e, hb, h⟩ := hE j hj
  exact ⟨b, off, e, by omega, h⟩
theorem ge_take {es : List (Int × Int)} {i k : Nat} (h : i < k) : ge (es.take k) i = ge es i := by unfold ge; rw [List.getElem?_take_of_lt h]
theorem ge_drop (es : List (Int × Int)) (k i : Nat) : ge (es.drop k) i = ge es (k + i) := by unfold ge; rw [List.getElem?_drop]
/-- A slice value that leads to these pairs, in a block below n. -/
def KeC (n : Nat) (w : World) (v : Value) (es : List (Int × Int)) : Prop := ∃ a c, v = .slice a es.length c ∧ es.length ≤ c ∧ c ≤ 9223372036854775807 ∧ EdgesA n w a es
abbrev KE (w : World) (v : Value) (es : List (Int × Int)) : Prop := KeC w.heap.size w v es
theorem KeC.below {n : Nat} {w w' : World} {v : Value} {es : List (Int × Int)} (h : KeC n w v es) (hb : Below n w w') : KeC n w' v es := by
  obtain ⟨a, c, e, h1, h2, h3⟩ := h
  exact ⟨a, c, e, h1, h2, h3.below hb⟩
theorem KeC.mono {n m : Nat} {w : World} {v : Value} {es : List (Int × Int)} (h : KeC n w v es) (hm : n ≤ m) : KeC m w v es := by
  obtain ⟨a, c, e, h1, h2, h3⟩ := h
  exact ⟨a, c, e, h1, h2, h3.mono hm⟩
theorem KE.below {w w' : World} {v : Value} {es : List (Int × Int)} (h : KE w v es) (hb : Below w.heap.size w w') : KE w' v es := KeC.mono (KeC.below h hb) hb.size
theorem KE.len {w : World} {v : Value} {es : List (Int × Int)} (h : KE w v es) : es.length ≤ 9223372036854775807 := by
  obtain ⟨a, c, e, h1, h2, h3⟩ := h
  omega

end Go.Proofs.Ytmgadcfiaipimaa
