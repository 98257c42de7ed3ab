/-
  Rows of strings; the library's Sort, Compact and Equal of strings.
-/
import Derived.Shelf.Sort.Plain
import Derived.Shelf.Slices.CompactS
import Derived.Shelf.Slices.Equal
import Derived.Sort.OwnSorted
import Derived.Test.YtdgphhdkeikbaaaGreatDoorExBase
namespace Go.Proofs.YtdgphhdkeikbaaaGreatDoor
set_option linter.unusedSimpArgs false
set_option linter.unusedVariables false
open Go.RowKit Go.Shelf Go.Sort

def Tryz.sortStrs_ren : Go.Shelf.Ren := ⟨fun | 190 => 32 | 125 => 73 | 258 => 72 | 128 => 105 | 129 => 106 | 302 => 96 | 303 => 97 | 304 => 98 | 305 => 99 | 306 => 100 | 307 => 101 | 308 => 102 | 309 => 103 | 310 => 104 | 333 => 120 | 329 => 121 | 330 => 122 | 334 => 123 | 335 => 124 | 336 => 125 | 344 => 139 | n => n, fun | 31 => 38 | 9 => 9 | 3 => 3 | 46 => 84 | 0 => 0 | 51 => 107 | 53 => 109 | 4 => 4 | 183 => 100 | 182 => 99 | 131 => 104 | 5 => 5 | 218 => 122 | 222 => 126 | 228 => 136 | 229 => 27 | n => n, fun | n => n⟩
theorem Tryz.sortStrs : Go.Proofs.Lays.n190 Tryz.prog Tryz.sortStrs_ren := {
  mixed := by kernel_rfl
  f125 := Tryz.func73.trans (congrArg some (by kernel_rfl))
  f128 := Tryz.func105.trans (congrArg some (by kernel_rfl))
  f129 := Tryz.func106.trans (congrArg some (by kernel_rfl))
  f190 := Tryz.func32.trans (congrArg some (by kernel_rfl))
  f258 := Tryz.func72.trans (congrArg some (by kernel_rfl))
  f302 := Tryz.func96.trans (congrArg some (by kernel_rfl))
  f303 := Tryz.func97.trans (congrArg some (by kernel_rfl))
  f304 := Tryz.func98.trans (congrArg some (by kernel_rfl))
  f305 := Tryz.func99.trans (congrArg some (by kernel_rfl))
  f306 := Tryz.func100.trans (congrArg some (by kernel_rfl))
  f307 := Tryz.func101.trans (congrArg some (by kernel_rfl))
  f308 := Tryz.func102.trans (congrArg some (by kernel_rfl))
  f309 := Tryz.func103.trans (congrArg some (by kernel_rfl))
  f310 := Tryz.func104.trans (congrArg some (by kernel_rfl))
  f329 := Tryz.func121.trans (congrArg some (by kernel_rfl))
  f330 := Tryz.func122.trans (congrArg some (by kernel_rfl))
  f333 := Tryz.func120.trans (congrArg some (by kernel_rfl))
  f334 := Tryz.func123.trans (congrArg some (by kernel_rfl))
  f335 := Tryz.func124.trans (congrArg some (by kernel_rfl))
  f336 := Tryz.func125.trans (congrArg some (by kernel_rfl))
  f344 := Tryz.func139.trans (congrArg some (by kernel_rfl))
  t0 := Tryz.underlying0
  a0 := Tryz.isAgg0
  z0 := Tryz.sizeOf0
  v0 := Tryz.zeroValue0
  t3 := Tryz.underlying3
  a3 := Tryz.isAgg3
  z3 := Tryz.sizeOf3
  v3 := Tryz.zeroValue3
  t4 := Tryz.underlying4
  a4 := Tryz.isAgg4
  z4 := Tryz.sizeOf4
  v4 := Tryz.zeroValue4
  t5 := Tryz.underlying5
  a5 := Tryz.isAgg5
  z5 := Tryz.sizeOf5
  v5 := Tryz.zeroValue5
  t9 := Tryz.underlying9
  a9 := Tryz.isAgg9
  z9 := Tryz.sizeOf9
  v9 := Tryz.zeroValue9
  t31 := Tryz.underlying38
  a31 := Tryz.isAgg38
  z31 := Tryz.sizeOf38
  v31 := Tryz.zeroValue38
  t46 := Tryz.underlying84
  a46 := Tryz.isAgg84
  z46 := Tryz.sizeOf84
  v46 := Tryz.zeroValue84
  t51 := Tryz.underlying107
  a51 := Tryz.isAgg107
  z51 := Tryz.sizeOf107
  v51 := Tryz.zeroValue107
  t53 := Tryz.underlying109
  a53 := Tryz.isAgg109
  z53 := Tryz.sizeOf109
  v53 := Tryz.zeroValue109
  t131 := Tryz.underlying104
  a131 := Tryz.isAgg104
  z131 := Tryz.sizeOf104
  v131 := Tryz.zeroValue104
  t182 := Tryz.underlying99
  a182 := Tryz.isAgg99
  z182 := Tryz.sizeOf99
  v182 := Tryz.zeroValue99
  t183 := Tryz.underlying100
  a183 := Tryz.isAgg100
  z183 := Tryz.sizeOf100
  v183 := Tryz.zeroValue100
  t218 := Tryz.underlying122
  a218 := Tryz.isAgg122
  z218 := Tryz.sizeOf122
  v218 := Tryz.zeroValue122
  t222 := Tryz.underlying126
  a222 := Tryz.isAgg126
  z222 := Tryz.sizeOf126
  v222 := Tryz.zeroValue126
  t228 := Tryz.underlying136
  a228 := Tryz.isAgg136
  z228 := Tryz.sizeOf136
  v228 := Tryz.zeroValue136
  t229 := Tryz.underlying27
  a229 := Tryz.isAgg27
  z229 := Tryz.sizeOf27
  v229 := Tryz.zeroValue27 }
def Tryz.compactStrs_ren : Go.Shelf.Ren := ⟨fun | 194 => 33 | n => n, fun | 31 => 38 | 9 => 9 | 3 => 3 | 4 => 4 | 0 => 0 | n => n, fun | n => n⟩
theorem Tryz.compactStrs : Go.Proofs.Lays.n194 Tryz.prog Tryz.compactStrs_ren := {
  mixed := by kernel_rfl
  f194 := Tryz.func33.trans (congrArg some (by kernel_rfl))
  t0 := Tryz.underlying0
  a0 := Tryz.isAgg0
  z0 := Tryz.sizeOf0
  v0 := Tryz.zeroValue0
  t3 := Tryz.underlying3
  a3 := Tryz.isAgg3
  z3 := Tryz.sizeOf3
  v3 := Tryz.zeroValue3
  t4 := Tryz.underlying4
  a4 := Tryz.isAgg4
  z4 := Tryz.sizeOf4
  v4 := Tryz.zeroValue4
  t9 := Tryz.underlying9
  a9 := Tryz.isAgg9
  z9 := Tryz.sizeOf9
  v9 := Tryz.zeroValue9
  t31 := Tryz.underlying38
  a31 := Tryz.isAgg38
  z31 := Tryz.sizeOf38
  v31 := Tryz.zeroValue38 }
abbrev TS : TypeId := 9
abbrev TSs : TypeId := 38
def gs (ss : List (List UInt8)) (j : Nat) : List UInt8 := ss[j]?.getD []
/-- A slice value that leads to these strings. -/
def KS (w : World) (v : Value) (ss : List (List UInt8)) : Prop := ∃ (a : Option Addr) (c : Nat), v = .slice a ss.length c ∧ ss.length ≤ c ∧ c ≤ 9223372036854775807 ∧ ∀ j, j < ss.length → ∃ b off, a = some ⟨b, off, none⟩ ∧ b < w.heap.size ∧ w.cell? ⟨b, off + j, none⟩ = some (encStr (gs ss j))
theorem KS.carry {w w' : World} {v : Value} {ss : List (List UInt8)} (h : KS w v ss) (hb : Below w.heap.size w w') : KS w' v ss := by
  obtain ⟨a, c, e, h1, h2, h3⟩ := h
  refine ⟨a, c, e, h1, h2, fun j hj => ?_⟩
  obtain ⟨b, off, e1, e2, e3⟩ := h3 j hj
  exact ⟨b, off, e1, Nat.lt_of_lt_of_le e2 hb.size, (World.cell?_of_block (hb.block b e2)).trans e3⟩
/-- A row of strings of the call's own. -/
def OwnS (B : Nat) (ss : List (List UInt8)) (v : Value) (w : World) : Prop := w.ownsRow B TS 1 v ss.length (ss.map encStr)
theorem OwnS.nil (B : Nat) (w : World) : OwnS B [] (.slice none 0 0) w := World.ownsRow_nil _ _ _ _
theorem OwnS.ks {B : Nat} {ss : List (List UInt8)} {v : Value} {w : World} (h : OwnS B ss v w) : KS w v ss := by
  have h : w.ownsRow B TS 1 v ss.length (ss.map encStr) := h
  obtain ⟨a, c, rfl, h1, h2⟩ := ownZ_slice h
  refine ⟨a, c, rfl, h1, h2, fun j hj => ?_⟩
  obtain ⟨g, cap, e, hB⟩ := ownZ_some h (by omega)
  injection e with e1 e2 e3
  subst e1
  refine ⟨g, 0, rfl, (World.ownsRow.lt h g rfl).2, ?_⟩
  rw [Nat.zero_add, World.ownsRow.cellAt h j (by omega)]
  simp [gs, hj]
theorem OwnS.lt {B : Nat} {ss : List (List UInt8)} {v : Value} {w : World} (h : OwnS B ss v w) : ∀ k, v.ownBlock = some k → B ≤ k ∧ k < w.heap.size := fun k e => World.ownsRow.lt (show w.ownsRow B TS 1 v ss.length (ss.map encStr) from h) k e

/-! ### Sort -/
theorem insNilS_any (w : World) : Calls Tryz.prog 96 #[.slice none 0 0, .int .i64 0, .int .i64 0] w fun e w' => e = .returned (.tuple #[]) ∧ w' = w := by
  go_enter Tryz.func96, Tryz.ntmps96
  go_wp2
  refine wp_loop_rounds 1 ?_
  rw [rounds_succ]
  go_wp2
  go_end0
  exact ⟨rfl, rfl⟩
set_option maxRecDepth 100000 in
theorem pdqNilS_any (w : World) : Calls Tryz.prog 72 #[.slice none 0 0, .int .i64 0, .int .i64 0, .int .i64 0] w fun e w' => e = .returned (.tuple #[]) ∧ w' = w := by
  go_enter Tryz.func72, Tryz.ntmps72
  go_wp2
  refine wp_loop_rounds 1 ?_
  rw [rounds_succ]
  go_wp2_with (first | (go_at_call 96; refine (insNilS_any _).mono ?_; rintro e w' ⟨rfl, rfl⟩))
  refine bodyPost_ret (results_none rfl _ _ _) rfl ?_
  exact ⟨rfl, rfl⟩
set_option maxRecDepth 100000 in
theorem lenNilS_any (w : World) : Calls Tryz.prog 73 #[.int .u64 0] w fun e w' => e = .returned (.int .i64 0) ∧ w' = w := by
  go_enter Tryz.func73, Tryz.ntmps73
  go_wp2
  go_ret
  have h : wrap64 (wrap64 (Lib.len8 0)) = 0 := by decide +kernel
  refine ⟨?_, rfl⟩
  change Ending.returned (Value.int .i64 (wrap64 (wrap64 (Lib.len8 0)))) = _
  rw [h]
set_option maxRecDepth 100000 in
theorem sortNilS_any (w : World) : Calls Tryz.prog 32 #[.slice none 0 0] w fun e w' => e = .returned (.tuple #[]) ∧ w' = w := by
  go_enter Tryz.func32, Tryz.ntmps32
  go_wp2_with (first
    | (go_at_call 73; refine (lenNilS_any _).mono ?_; rintro e w' ⟨rfl, rfl⟩)
    | (go_at_call 72; refine (pdqNilS_any _).mono ?_; rintro e w' ⟨rfl, rfl⟩))
  go_end0
  exact ⟨rfl, rfl⟩
/-- Strings in order. -/
def srt (ss : List (List UInt8)) : List (List UInt8) := ss.mergeSort fun x y => decide (x ≤ y)
theorem srt_len (ss : List (List UInt8)) : (srt ss).length = ss.length := by simp [srt]
theorem sortS_any (B : Nat) (v : Value) (ss : List (List UInt8)) (w : World) (hO : OwnS B ss v w) (hl : ss.length ≤ 10000) (hB : B ≤ w.heap.size) :
    Calls Tryz.prog 32 #[v] w fun e w' => e = .returned (.tuple #[]) ∧ OwnS B (srt ss) v w' ∧ w.grownBy w' v.ownBlock ∧ Below B w w' := by
  have hr : w.ownsRow B TS 1 v ss.length (ss.map encStr) := hO
  rcases hr.2 with ⟨rfl, h0⟩ | ⟨g, cap, cur, rfl, hBg, hg, h1, h2, h3, h4⟩
  · have : ss = [] := List.eq_nil_of_length_eq_zero h0
    subst this
    refine (sortNilS_any w).mono ?_
    rintro e w' ⟨rfl, rfl⟩
    exact ⟨rfl, by simpa [srt] using OwnS.nil B w', ⟨rfl, rfl, rfl, Nat.le_refl _, fun _ _ _ => rfl⟩, Below.refl _ _⟩
  · have hgl : g < w.heap.size := (Array.getElem?_eq_some_iff.1 hg).1
    refine (Any.slices_Sort_string Tryz.sortStrs g 0 cap ss w (holds_of_block hg (by simpa using h4)) hgl (by omega)).mono ?_
    rintro e w' ⟨rfl, n, os, rfl⟩
    have hgr := grownBy_sorted (w := w) (g := g) (n := n) (os := os) (srt ss).toArray
    refine ⟨rfl, ?_, hgr, (Below.refl B w).grown hgr hB (fun k e => by cases e; exact hBg)⟩
    have := ownsRow_sorted (n := n) (os := os) (srt_len ss) hBg hg h1 h2 h3
    unfold OwnS
    rw [srt_len]
    exact this

/-! ### Compact -/
theorem compact_le (ss : List (List UInt8)) : (Lib.compact ss).length ≤ ss.length := by
  unfold Lib.compact Lib.compactUpTo
  rw [List.length_map]
  refine Nat.le_trans (List.length_filter_le _ _) (by simp)
theorem compactS_any (B : Nat) (v : Value) (ss : List (List UInt8)) (w : World) (hO : OwnS B ss v w) (hl : ss.length ≤ 10000) (hB : B ≤ w.heap.size) :
    Calls Tryz.prog 33 #[v] w fun e w' => ∃ v', e = .returned v' ∧ OwnS B (Lib.compact ss) v' w' ∧ w.grownBy w' v.ownBlock ∧ Below B w w' := by
  have hr : w.ownsRow B TS 1 v ss.length (ss.map encStr) := hO
  rcases hr.2 with ⟨rfl, h0⟩ | ⟨g, cap, cur, rfl, hBg, hg, h1, h2, h3, h4⟩
  · have : ss = [] := List.eq_nil_of_length_eq_zero h0
    subst this
    refine (Any.slices_Compact_string_empty Tryz.compactStrs none 0 w).mono ?_
    rintro e w' ⟨rfl, rfl⟩
    exact ⟨_, rfl, OwnS.nil B w', ⟨rfl, rfl, rfl, Nat.le_refl _, fun _ _ _ => rfl⟩, Below.refl _ _⟩
  · have hgl : g < w.heap.size := (Array.getElem?_eq_some_iff.1 hg).1
    refine (Any.slices_Compact_string Tryz.compactStrs g 0 cap ss w (holds_of_block hg (by simpa using h4)) (by omega) h1).mono ?_
    rintro e w' ⟨rfl, n, rfl⟩
    have hcl := compact_le ss
    obtain ⟨D, hD⟩ : ∃ D, Lib.compact ss ++ List.replicate (ss.length - (Lib.compact ss).length) [] = D := ⟨_, rfl⟩
    rw [hD]
    have hDl : D.length = ss.length := by rw [← hD]; simp; omega
    have hgr : w.grownBy (putRow encStr (Sort.ahead w n) g 0 D.toArray) (some g) := by
      have := grownBy_sorted (w := w) (g := g) (n := n) (os := #[]) D.toArray
      simpa using this
    refine ⟨_, rfl, ?_, hgr, (Below.refl B w).grown hgr hB (fun k e => by cases e; exact hBg)⟩
    have hhp := heap_sorted (w := w) (g := g) (n := n) (os := #[]) D.toArray hg
    rw [grow_empty] at hhp
    refine ⟨by simp, .inr ⟨g, cap, _, rfl, hBg, hhp, by omega, h2, by simp [putCells, h3], ?_⟩⟩
    have htk := take_putCells cur D (by omega)
    have e1 : (putCells encStr 0 D.toArray cur).toList.take ((Lib.compact ss).length * 1) = ((putCells encStr 0 D.toArray cur).toList.take D.length).take (Lib.compact ss).length := by
      rw [List.take_take, Nat.min_eq_left (by omega), Nat.mul_one]
    rw [e1, htk, ← hD, List.map_append, List.take_left' (by simp)]

end Go.Proofs.YtdgphhdkeikbaaaGreatDoor
