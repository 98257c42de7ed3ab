/-
  The lexer's map of operators: a map with strings as keys that the program itself fills.
-/
import Derived.Laws.EntriesVeiled
import Derived.Maps.OwnOps
import Derived.Maps.OwnSet
import Derived.Test.YtdgphhdkeikbaaaDoorLxTok
import Derived.Test.YtdgphhdkeikbaaaDoorLxPs
namespace Go.Proofs.YtdgphhdkeikbaaaDoor
set_option linter.unusedSimpArgs false
set_option linter.unusedVariables false
open Go.RowKit

abbrev TMo : TypeId := 78
abbrev TLo : TypeId := 96
abbrev Ent : Type := ByteArray × Int × Int
def opV2 (o p : Int) : Value := .agg #[.int .i64 o, .int .i64 p]
def entS : Nat → List Ent → List MapEntry
  | _, [] => []
  | n, p :: r => { key := .string p.1, val := opV2 p.2.1 p.2.2, born := n } :: entS (n + 1) r
def mapS (l : List Ent) : Obj := .map (entS 0 l).toArray l.length
theorem entS_app (a b : List Ent) : ∀ n, entS n (a ++ b) = entS n a ++ entS (n + a.length) b := by
  induction a with
  | nil => intro n; rfl
  | cons x r ih =>
    intro n
    simp only [List.cons_append, entS, ih, List.length_cons]
    rw [show n + 1 + r.length = n + (r.length + 1) by omega]
theorem mapS_snoc (l : List Ent) (k : ByteArray) (o p : Int) : mapS (l ++ [(k, o, p)]) = .map ((entS 0 l).toArray.push { key := .string k, val := opV2 o p, born := l.length }) (l.length + 1) := by
  unfold mapS
  rw [entS_app, Nat.zero_add]
  simp [entS]
def lkS (l : List Ent) (k : ByteArray) : Option (Int × Int) := (l.find? fun p => decide (p.1 = k)).map (·.2)
theorem beqB (a b : ByteArray) : (a == b) = decide (a = b) := by
  rw [Bool.eq_iff_iff, decide_eq_true_eq]
  cases a with
  | mk x => cases b with
    | mk y =>
      show (x == y) = true ↔ _
      rw [beq_iff_eq]
      constructor
      · rintro rfl; rfl
      · intro h; injection h
theorem findNow_S (l : List Ent) (k : ByteArray) : ∀ n m, ∃ r, Instr.findNow .string (.string k) (entS n l) m = some r ∧ r.map (·.2) = (lkS l k).map (fun q => opV2 q.1 q.2) := by
  induction l with
  | nil => intro n m; exact ⟨none, rfl, rfl⟩
  | cons p r ih =>
    intro n m
    simp only [entS, Instr.findNow, Instr.sameNow]
    by_cases h : k = p.1
    · refine ⟨some (m, opV2 p.2.1 p.2.2), by simp [beqB, h], ?_⟩
      simp [lkS, h]
    · obtain ⟨q, h1, h2⟩ := ih (n + 1) (m + 1)
      have hk : (k == p.1) = false := by rw [beqB]; simpa using h
      refine ⟨q, by rw [hk]; exact h1, ?_⟩
      rw [h2]
      have : ¬ (p.1 = k) := fun e => h e.symm
      simp [lkS, this]
theorem zeroLo (w : World) : (zeroValue TLo).run Tryd.prog w = .ok (opV2 0 0) w := by kernel_rfl
def setO (w : World) (b : Nat) (o : Obj) : World := { w with heap := w.heap.setIfInBounds b o }
theorem setO_same {w : World} {b : Nat} {o o' : Obj} (h : w.heap[b]? = some o') : (setO w b o).heap[b]? = some o := by
  have := (Array.getElem?_eq_some_iff.1 h).1
  simp [setO, this]
theorem setO_other {w : World} {b k : Nat} {o : Obj} (h : k ≠ b) : (setO w b o).heap[k]? = w.heap[k]? := by
  simp [setO, Array.getElem?_setIfInBounds_ne (Ne.symm h)]
theorem below_setO {B b : Nat} {w0 w : World} (h : Below B w0 w) (hb : B ≤ b) (o : Obj) : Below B w0 (setO w b o) :=
  h.trans ⟨rfl, rfl, rfl, by simp [setO], fun k hk => setO_other (by omega)⟩
theorem run_checkStr (w : World) (c : Bool) (k : ByteArray) : (Instr.checkKey c 10000 9 (.string k)).run Tryd.prog w = .ok () w := by
  exact MapKept.run_checkKey Tryd.underlying9 (by trivial) c 9999
theorem run_findStr (w : World) (k : ByteArray) (es : List MapEntry) (r : Option (Nat × Value)) (h : Instr.findNow .string (.string k) es 0 = some r) : (Instr.findKey 9 (.string k) es).run Tryd.prog w = .ok r w := by
  exact MapKept.run_findKey Tryd.underlying9 h
theorem run_insertS {w : World} {b : Nat} {l : List Ent} (k : ByteArray) (o p : Int) (hb : w.heap[b]? = some (mapS l)) (hk : lkS l k = none) :
    (Instr.mapUpdate TMo (.map (some b)) (.string k) (opV2 o p)).run Tryd.prog w = .ok () (setO w b (mapS (l ++ [(k, o, p)]))) := by
  obtain ⟨r, h1, h2⟩ := findNow_S l k 0 0
  rw [hk] at h2
  have hr : r = none := by cases r with
    | none => rfl
    | some x => cases h2
  subst hr
  rw [mapS_snoc]
  unfold mapS at hb
  have hf := run_findStr w k _ none h1
  simp [Instr.mapUpdate, run_underlying Tryd.underlying78, MapKept.run_getObj_map hb, run_checkStr, hf, MapKept.run_setObj_map _ hb, Result.andThen, setO]
theorem run_lookS {w : World} {b : Nat} {l : List Ent} (k : ByteArray) (hb : w.heap[b]? = some (mapS l)) :
    (Instr.lookup TMo (.map (some b)) (.string k) true).run Tryd.prog w = .ok (.tuple #[(fun q : Int × Int => opV2 q.1 q.2) ((lkS l k).getD (0, 0)), .bool (lkS l k).isSome]) w := by
  obtain ⟨r, h1, h2⟩ := findNow_S l k 0 0
  have hf := run_findStr w k _ r h1
  unfold mapS at hb
  have hz := zeroLo w
  cases hl : lkS l k with
  | none =>
    rw [hl] at h2
    cases r with
    | none => simp [Instr.lookup, run_underlying Tryd.underlying78, MapKept.run_getObj_map hb, run_checkStr, hf, hz, Result.andThen]
    | some x => cases h2
  | some q =>
    rw [hl] at h2
    cases r with
    | none => cases h2
    | some x =>
      simp only [Option.map_some, Option.some.injEq] at h2
      simp [Instr.lookup, run_underlying Tryd.underlying78, MapKept.run_getObj_map hb, run_checkStr, hf, Result.andThen, h2]
def tabS : List Ent := [(⟨#[124, 124]⟩, 15, 1), (⟨#[38, 38]⟩, 14, 2), (⟨#[61, 61]⟩, 8, 3), (⟨#[33, 61]⟩, 9, 3), (⟨#[60]⟩, 10, 3), (⟨#[60, 61]⟩, 11, 3), (⟨#[62]⟩, 12, 3), (⟨#[62, 61]⟩, 13, 3), (⟨#[43]⟩, 3, 4), (⟨#[45]⟩, 4, 4), (⟨#[42]⟩, 5, 5), (⟨#[47]⟩, 6, 5), (⟨#[37]⟩, 7, 5)]
theorem lkS_op (x : ByteArray) : lkS tabS x = if opS x = 0 then none else some (opS x, pcP (opS x)) := by
  by_cases h : ∃ e ∈ tabS, e.1 = x
  · obtain ⟨e, he, rfl⟩ := h
    have : ∀ e ∈ tabS, lkS tabS e.1 = if opS e.1 = 0 then none else some (opS e.1, pcP (opS e.1)) := by decide +kernel
    exact this e he
  · have h1 : lkS tabS x = none := by
      unfold lkS
      rw [List.find?_eq_none.2 (fun e he => by simpa using fun q => h ⟨e, he, q⟩)]
      rfl
    have h2 : opS x = 0 := by
      unfold opS
      rw [List.find?_eq_none.2 (fun o ho => ?_)]
      · rfl
      · intro q
        simp only [decide_eq_true_eq] at q
        apply h
        have : ∀ o ∈ ([3, 4, 5, 6, 7, 8, 9, 10, 11, 12, 13, 14, 15] : List Int), ∃ e ∈ tabS, e.1 = sgO o := by decide +kernel
        obtain ⟨e, he, h3⟩ := this o ho
        exact ⟨e, he, h3.trans q⟩
    rw [h1, h2, if_pos rfl]
theorem mk_mapS (w : World) : (Instr.makeMap TMo none).run Tryd.prog w = .ok (.map (some w.heap.size)) (w.alloc (mapS [])) := by
  simp [Instr.makeMap, mapS, entS, run_underlying Tryd.underlying78, Result.andThen]
set_option maxRecDepth 100000 in
set_option maxHeartbeats 8000000 in
theorem lexOps_any (w : World) : Calls Tryd.prog 48 #[] w fun x w' => x = .returned (.map (some w.heap.size)) ∧ w'.heap[w.heap.size]? = some (mapS tabS) ∧ Below w.heap.size w w' := by
  obtain ⟨W0, hW⟩ : ∃ W, w.alloc (mapS []) = W := ⟨_, rfl⟩
  have hm := mk_mapS w
  rw [hW] at hm
  have T0 : Hid (W0.heap[w.heap.size]? = some (mapS [])) := Lib.hid (by rw [← hW]; exact heapNew w _)
  have B0 : Hid (Below w.heap.size w W0) := Lib.hid (by rw [← hW]; exact (Below.refl _ w).alloc (Nat.le_refl _) _)
  clear hW
  go_enter Tryd.func48, Tryd.ntmps48
  go_wp2_with fail
  try clear hm
  have r1 := run_insertS (⟨#[124, 124]⟩) 15 1 T0.out (by decide +kernel)
  obtain ⟨W1, hW1⟩ : ∃ W, setO W0 w.heap.size (mapS ([] ++ [(⟨#[124, 124]⟩, 15, 1)])) = W := ⟨_, rfl⟩
  rw [hW1] at r1
  simp only [opV2] at r1
  have T1 : Hid (W1.heap[w.heap.size]? = some (mapS [(⟨#[124, 124]⟩, 15, 1)])) := Lib.hid (by rw [← hW1]; exact setO_same T0.out)
  have B1 : Hid (Below w.heap.size w W1) := Lib.hid (by rw [← hW1]; exact below_setO B0.out (Nat.le_refl _) _)
  clear hW1 T0 B0
  try rw [r1]
  go_wp2_with fail
  try clear r1
  have r2 := run_insertS (⟨#[38, 38]⟩) 14 2 T1.out (by decide +kernel)
  obtain ⟨W2, hW2⟩ : ∃ W, setO W1 w.heap.size (mapS ([(⟨#[124, 124]⟩, 15, 1)] ++ [(⟨#[38, 38]⟩, 14, 2)])) = W := ⟨_, rfl⟩
  rw [hW2] at r2
  simp only [opV2] at r2
  have T2 : Hid (W2.heap[w.heap.size]? = some (mapS [(⟨#[124, 124]⟩, 15, 1), (⟨#[38, 38]⟩, 14, 2)])) := Lib.hid (by rw [← hW2]; exact setO_same T1.out)
  have B2 : Hid (Below w.heap.size w W2) := Lib.hid (by rw [← hW2]; exact below_setO B1.out (Nat.le_refl _) _)
  clear hW2 T1 B1
  try rw [r2]
  go_wp2_with fail
  try clear r2
  have r3 := run_insertS (⟨#[61, 61]⟩) 8 3 T2.out (by decide +kernel)
  obtain ⟨W3, hW3⟩ : ∃ W, setO W2 w.heap.size (mapS ([(⟨#[124, 124]⟩, 15, 1), (⟨#[38, 38]⟩, 14, 2)] ++ [(⟨#[61, 61]⟩, 8, 3)])) = W := ⟨_, rfl⟩
  rw [hW3] at r3
  simp only [opV2] at r3
  have T3 : Hid (W3.heap[w.heap.size]? = some (mapS [(⟨#[124, 124]⟩, 15, 1), (⟨#[38, 38]⟩, 14, 2), (⟨#[61, 61]⟩, 8, 3)])) := Lib.hid (by rw [← hW3]; exact setO_same T2.out)
  have B3 : Hid (Below w.heap.size w W3) := Lib.hid (by rw [← hW3]; exact below_setO B2.out (Nat.le_refl _) _)
  clear hW3 T2 B2
  try rw [r3]
  go_wp2_with fail
  try clear r3
  have r4 := run_insertS (⟨#[33, 61]⟩) 9 3 T3.out (by decide +kernel)
  obtain ⟨W4, hW4⟩ : ∃ W, setO W3 w.heap.size (mapS ([(⟨#[124, 124]⟩, 15, 1), (⟨#[38, 38]⟩, 14, 2), (⟨#[61, 61]⟩, 8, 3)] ++ [(⟨#[33, 61]⟩, 9, 3)])) = W := ⟨_, rfl⟩
  rw [hW4] at r4
  simp only [opV2] at r4
  have T4 : Hid (W4.heap[w.heap.size]? = some (mapS [(⟨#[124, 124]⟩, 15, 1), (⟨#[38, 38]⟩, 14, 2), (⟨#[61, 61]⟩, 8, 3), (⟨#[33, 61]⟩, 9, 3)])) := Lib.hid (by rw [← hW4]; exact setO_same T3.out)
  have B4 : Hid (Below w.heap.size w W4) := Lib.hid (by rw [← hW4]; exact below_setO B3.out (Nat.le_refl _) _)
  clear hW4 T3 B3
  try rw [r4]
  go_wp2_with fail
  try clear r4
  have r5 := run_insertS (⟨#[60]⟩) 10 3 T4.out (by decide +kernel)
  obtain ⟨W5, hW5⟩ : ∃ W, setO W4 w.heap.size (mapS ([(⟨#[124, 124]⟩, 15, 1), (⟨#[38, 38]⟩, 14, 2), (⟨#[61, 61]⟩, 8, 3), (⟨#[33, 61]⟩, 9, 3)] ++ [(⟨#[60]⟩, 10, 3)])) = W := ⟨_, rfl⟩
  rw [hW5] at r5
  simp only [opV2] at r5
  have T5 : Hid (W5.heap[w.heap.size]? = some (mapS [(⟨#[124, 124]⟩, 15, 1), (⟨#[38, 38]⟩, 14, 2), (⟨#[61, 61]⟩, 8, 3), (⟨#[33, 61]⟩, 9, 3), (⟨#[60]⟩, 10, 3)])) := Lib.hid (by rw [← hW5]; exact setO_same T4.out)
  have B5 : Hid (Below w.heap.size w W5) := Lib.hid (by rw [← hW5]; exact below_setO B4.out (Nat.le_refl _) _)
  clear hW5 T4 B4
  try rw [r5]
  go_wp2_with fail
  try clear r5
  have r6 := run_insertS (⟨#[60, 61]⟩) 11 3 T5.out (by decide +kernel)
  obtain ⟨W6, hW6⟩ : ∃ W, setO W5 w.heap.size (mapS ([(⟨#[124, 124]⟩, 15, 1), (⟨#[38, 38]⟩, 14, 2), (⟨#[61, 61]⟩, 8, 3), (⟨#[33, 61]⟩, 9, 3), (⟨#[60]⟩, 10, 3)] ++ [(⟨#[60, 61]⟩, 11, 3)])) = W := ⟨_, rfl⟩
  rw [hW6] at r6
  simp only [opV2] at r6
  have T6 : Hid (W6.heap[w.heap.size]? = some (mapS [(⟨#[124, 124]⟩, 15, 1), (⟨#[38, 38]⟩, 14, 2), (⟨#[61, 61]⟩, 8, 3), (⟨#[33, 61]⟩, 9, 3), (⟨#[60]⟩, 10, 3), (⟨#[60, 61]⟩, 11, 3)])) := Lib.hid (by rw [← hW6]; exact setO_same T5.out)
  have B6 : Hid (Below w.heap.size w W6) := Lib.hid (by rw [← hW6]; exact below_setO B5.out (Nat.le_refl _) _)
  clear hW6 T5 B5
  try rw [r6]
  go_wp2_with fail
  try clear r6
  have r7 := run_insertS (⟨#[62]⟩) 12 3 T6.out (by decide +kernel)
  obtain ⟨W7, hW7⟩ : ∃ W, setO W6 w.heap.size (mapS ([(⟨#[124, 124]⟩, 15, 1), (⟨#[38, 38]⟩, 14, 2), (⟨#[61, 61]⟩, 8, 3), (⟨#[33, 61]⟩, 9, 3), (⟨#[60]⟩, 10, 3), (⟨#[60, 61]⟩, 11, 3)] ++ [(⟨#[62]⟩, 12, 3)])) = W := ⟨_, rfl⟩
  rw [hW7] at r7
  simp only [opV2] at r7
  have T7 : Hid (W7.heap[w.heap.size]? = some (mapS [(⟨#[124, 124]⟩, 15, 1), (⟨#[38, 38]⟩, 14, 2), (⟨#[61, 61]⟩, 8, 3), (⟨#[33, 61]⟩, 9, 3), (⟨#[60]⟩, 10, 3), (⟨#[60, 61]⟩, 11, 3), (⟨#[62]⟩, 12, 3)])) := Lib.hid (by rw [← hW7]; exact setO_same T6.out)
  have B7 : Hid (Below w.heap.size w W7) := Lib.hid (by rw [← hW7]; exact below_setO B6.out (Nat.le_refl _) _)
  clear hW7 T6 B6
  try rw [r7]
  go_wp2_with fail
  try clear r7
  have r8 := run_insertS (⟨#[62, 61]⟩) 13 3 T7.out (by decide +kernel)
  obtain ⟨W8, hW8⟩ : ∃ W, setO W7 w.heap.size (mapS ([(⟨#[124, 124]⟩, 15, 1), (⟨#[38, 38]⟩, 14, 2), (⟨#[61, 61]⟩, 8, 3), (⟨#[33, 61]⟩, 9, 3), (⟨#[60]⟩, 10, 3), (⟨#[60, 61]⟩, 11, 3), (⟨#[62]⟩, 12, 3)] ++ [(⟨#[62, 61]⟩, 13, 3)])) = W := ⟨_, rfl⟩
  rw [hW8] at r8
  simp only [opV2] at r8
  have T8 : Hid (W8.heap[w.heap.size]? = some (mapS [(⟨#[124, 124]⟩, 15, 1), (⟨#[38, 38]⟩, 14, 2), (⟨#[61, 61]⟩, 8, 3), (⟨#[33, 61]⟩, 9, 3), (⟨#[60]⟩, 10, 3), (⟨#[60, 61]⟩, 11, 3), (⟨#[62]⟩, 12, 3), (⟨#[62, 61]⟩, 13, 3)])) := Lib.hid (by rw [← hW8]; exact setO_same T7.out)
  have B8 : Hid (Below w.heap.size w W8) := Lib.hid (by rw [← hW8]; exact below_setO B7.out (Nat.le_refl _) _)
  clear hW8 T7 B7
  try rw [r8]
  go_wp2_with fail
  try clear r8
  have r9 := run_insertS (⟨#[43]⟩) 3 4 T8.out (by decide +kernel)
  obtain ⟨W9, hW9⟩ : ∃ W, setO W8 w.heap.size (mapS ([(⟨#[124, 124]⟩, 15, 1), (⟨#[38, 38]⟩, 14, 2), (⟨#[61, 61]⟩, 8, 3), (⟨#[33, 61]⟩, 9, 3), (⟨#[60]⟩, 10, 3), (⟨#[60, 61]⟩, 11, 3), (⟨#[62]⟩, 12, 3), (⟨#[62, 61]⟩, 13, 3)] ++ [(⟨#[43]⟩, 3, 4)])) = W := ⟨_, rfl⟩
  rw [hW9] at r9
  simp only [opV2] at r9
  have T9 : Hid (W9.heap[w.heap.size]? = some (mapS [(⟨#[124, 124]⟩, 15, 1), (⟨#[38, 38]⟩, 14, 2), (⟨#[61, 61]⟩, 8, 3), (⟨#[33, 61]⟩, 9, 3), (⟨#[60]⟩, 10, 3), (⟨#[60, 61]⟩, 11, 3), (⟨#[62]⟩, 12, 3), (⟨#[62, 61]⟩, 13, 3), (⟨#[43]⟩, 3, 4)])) := Lib.hid (by rw [← hW9]; exact setO_same T8.out)
  have B9 : Hid (Below w.heap.size w W9) := Lib.hid (by rw [← hW9]; exact below_setO B8.out (Nat.le_refl _) _)
  clear hW9 T8 B8
  try rw [r9]
  go_wp2_with fail
  try clear r9
  have r10 := run_insertS (⟨#[45]⟩) 4 4 T9.out (by decide +kernel)
  obtain ⟨W10, hW10⟩ : ∃ W, setO W9 w.heap.size (mapS ([(⟨#[124, 124]⟩, 15, 1), (⟨#[38, 38]⟩, 14, 2), (⟨#[61, 61]⟩, 8, 3), (⟨#[33, 61]⟩, 9, 3), (⟨#[60]⟩, 10, 3), (⟨#[60, 61]⟩, 11, 3), (⟨#[62]⟩, 12, 3), (⟨#[62, 61]⟩, 13, 3), (⟨#[43]⟩, 3, 4)] ++ [(⟨#[45]⟩, 4, 4)])) = W := ⟨_, rfl⟩
  rw [hW10] at r10
  simp only [opV2] at r10
  have T10 : Hid (W10.heap[w.heap.size]? = some (mapS [(⟨#[124, 124]⟩, 15, 1), (⟨#[38, 38]⟩, 14, 2), (⟨#[61, 61]⟩, 8, 3), (⟨#[33, 61]⟩, 9, 3), (⟨#[60]⟩, 10, 3), (⟨#[60, 61]⟩, 11, 3), (⟨#[62]⟩, 12, 3), (⟨#[62, 61]⟩, 13, 3), (⟨#[43]⟩, 3, 4), (⟨#[45]⟩, 4, 4)])) := Lib.hid (by rw [← hW10]; exact setO_same T9.out)
  have B10 : Hid (Below w.heap.size w W10) := Lib.hid (by rw [← hW10]; exact below_setO B9.out (Nat.le_refl _) _)
  clear hW10 T9 B9
  try rw [r10]
  go_wp2_with fail
  try clear r10
  have r11 := run_insertS (⟨#[42]⟩) 5 5 T10.out (by decide +kernel)
  obtain ⟨W11, hW11⟩ : ∃ W, setO W10 w.heap.size (mapS ([(⟨#[124, 124]⟩, 15, 1), (⟨#[38, 38]⟩, 14, 2), (⟨#[61, 61]⟩, 8, 3), (⟨#[33, 61]⟩, 9, 3), (⟨#[60]⟩, 10, 3), (⟨#[60, 61]⟩, 11, 3), (⟨#[62]⟩, 12, 3), (⟨#[62, 61]⟩, 13, 3), (⟨#[43]⟩, 3, 4), (⟨#[45]⟩, 4, 4)] ++ [(⟨#[42]⟩, 5, 5)])) = W := ⟨_, rfl⟩
  rw [hW11] at r11
  simp only [opV2] at r11
  have T11 : Hid (W11.heap[w.heap.size]? = some (mapS [(⟨#[124, 124]⟩, 15, 1), (⟨#[38, 38]⟩, 14, 2), (⟨#[61, 61]⟩, 8, 3), (⟨#[33, 61]⟩, 9, 3), (⟨#[60]⟩, 10, 3), (⟨#[60, 61]⟩, 11, 3), (⟨#[62]⟩, 12, 3), (⟨#[62, 61]⟩, 13, 3), (⟨#[43]⟩, 3, 4), (⟨#[45]⟩, 4, 4), (⟨#[42]⟩, 5, 5)])) := Lib.hid (by rw [← hW11]; exact setO_same T10.out)
  have B11 : Hid (Below w.heap.size w W11) := Lib.hid (by rw [← hW11]; exact below_setO B10.out (Nat.le_refl _) _)
  clear hW11 T10 B10
  try rw [r11]
  go_wp2_with fail
  try clear r11
  have r12 := run_insertS (⟨#[47]⟩) 6 5 T11.out (by decide +kernel)
  obtain ⟨W12, hW12⟩ : ∃ W, setO W11 w.heap.size (mapS ([(⟨#[124, 124]⟩, 15, 1), (⟨#[38, 38]⟩, 14, 2), (⟨#[61, 61]⟩, 8, 3), (⟨#[33, 61]⟩, 9, 3), (⟨#[60]⟩, 10, 3), (⟨#[60, 61]⟩, 11, 3), (⟨#[62]⟩, 12, 3), (⟨#[62, 61]⟩, 13, 3), (⟨#[43]⟩, 3, 4), (⟨#[45]⟩, 4, 4), (⟨#[42]⟩, 5, 5)] ++ [(⟨#[47]⟩, 6, 5)])) = W := ⟨_, rfl⟩
  rw [hW12] at r12
  simp only [opV2] at r12
  have T12 : Hid (W12.heap[w.heap.size]? = some (mapS [(⟨#[124, 124]⟩, 15, 1), (⟨#[38, 38]⟩, 14, 2), (⟨#[61, 61]⟩, 8, 3), (⟨#[33, 61]⟩, 9, 3), (⟨#[60]⟩, 10, 3), (⟨#[60, 61]⟩, 11, 3), (⟨#[62]⟩, 12, 3), (⟨#[62, 61]⟩, 13, 3), (⟨#[43]⟩, 3, 4), (⟨#[45]⟩, 4, 4), (⟨#[42]⟩, 5, 5), (⟨#[47]⟩, 6, 5)])) := Lib.hid (by rw [← hW12]; exact setO_same T11.out)
  have B12 : Hid (Below w.heap.size w W12) := Lib.hid (by rw [← hW12]; exact below_setO B11.out (Nat.le_refl _) _)
  clear hW12 T11 B11
  try rw [r12]
  go_wp2_with fail
  try clear r12
  have r13 := run_insertS (⟨#[37]⟩) 7 5 T12.out (by decide +kernel)
  obtain ⟨W13, hW13⟩ : ∃ W, setO W12 w.heap.size (mapS ([(⟨#[124, 124]⟩, 15, 1), (⟨#[38, 38]⟩, 14, 2), (⟨#[61, 61]⟩, 8, 3), (⟨#[33, 61]⟩, 9, 3), (⟨#[60]⟩, 10, 3), (⟨#[60, 61]⟩, 11, 3), (⟨#[62]⟩, 12, 3), (⟨#[62, 61]⟩, 13, 3), (⟨#[43]⟩, 3, 4), (⟨#[45]⟩, 4, 4), (⟨#[42]⟩, 5, 5), (⟨#[47]⟩, 6, 5)] ++ [(⟨#[37]⟩, 7, 5)])) = W := ⟨_, rfl⟩
  rw [hW13] at r13
  simp only [opV2] at r13
  have T13 : Hid (W13.heap[w.heap.size]? = some (mapS [(⟨#[124, 124]⟩, 15, 1), (⟨#[38, 38]⟩, 14, 2), (⟨#[61, 61]⟩, 8, 3), (⟨#[33, 61]⟩, 9, 3), (⟨#[60]⟩, 10, 3), (⟨#[60, 61]⟩, 11, 3), (⟨#[62]⟩, 12, 3), (⟨#[62, 61]⟩, 13, 3), (⟨#[43]⟩, 3, 4), (⟨#[45]⟩, 4, 4), (⟨#[42]⟩, 5, 5), (⟨#[47]⟩, 6, 5), (⟨#[37]⟩, 7, 5)])) := Lib.hid (by rw [← hW13]; exact setO_same T12.out)
  have B13 : Hid (Below w.heap.size w W13) := Lib.hid (by rw [← hW13]; exact below_setO B12.out (Nat.le_refl _) _)
  clear hW13 T12 B12
  try rw [r13]
  go_wp2_with fail
  try clear r13
  go_ret
  exact ⟨rfl, T13.out, B13.out⟩
end Go.Proofs.YtdgphhdkeikbaaaDoor
