/-
  What the program's add to a set of tasks returns.
-/
import Derived.WalkSpells
import Derived.Test.YtonjempbphnimaaWlSet
namespace Go.Proofs.Ytonjempbphnimaa
open Go.RowKit Go.Shelf Go.Maps

/-- What add gives: a set with the task, in which map; whether it is new. -/
def AddR (g : Nat) (mb : Option Nat) (seen : List Int) (x : Int) (W : World) (e : Ending) (W' : World) : Prop := e = .returned (.bool (!decide (x ∈ seen))) ∧ ∃ mb', (mb' = mb ∨ (mb = none ∧ ∃ b, mb' = some b ∧ W.heap.size ≤ b)) ∧ TsI g mb' (addS seen x) W' ∧ KeptT g mb W W'

set_option maxRecDepth 100000 in
set_option maxHeartbeats 2000000 in
theorem tsAdd_task (g : Nat) (mb : Option Nat) (seen : List Int) (i : Nat) (W : World) (hT : TsI g mb seen W) (hi : i < 16) :
    Calls Try.prog 50 #[.pointer (some ⟨g, 0, none⟩), .int .i64 (i : Int)] W (AddR g mb seen i W) := by
  have hI := isTask_any i W
  rw [decide_eq_true (show tskP i from ⟨by omega, by omega⟩)] at hI
  have HI := Lib.hid hI
  have c0 := hT.task i hi
  have f0 := hT.free i
  have i1 : (i : Int) < 16 := by omega
  have i2 : (0 : Int) ≤ (i : Int) := by omega
  have hres : TsI g mb (addS seen i) (W.setCell ⟨g, i, none⟩ (.bool true)) ∧ KeptT g mb W (W.setCell ⟨g, i, none⟩ (.bool true)) := by
    have hg : W.grownBy (W.setCell ⟨g, i, none⟩ (.bool true)) (some g) := ⟨rfl, rfl, rfl, (KeepsWalks.setCell W _ _).size, fun k _ hk => Below.heap_setCell _ _ _ k (fun e => hk (by rw [e]))⟩
    refine ⟨⟨?_, fun hm x hx => ?_, fun b hb => ?_⟩, rfl, rfl, rfl, hg.size, fun k h1 h2 _ => hg.block k h1 (by simp; exact h2)⟩
    · rw [heap_setCell_same W g i _ _ _ hT.blk]
      congr 2
      rw [← tsL_set seen mb i hi]
      simp
    · rcases mem_addS.1 hx with h | h
      · exact hT.mapN hm x h
      · rw [h]; exact ⟨by omega, by omega⟩
    · obtain ⟨n, D, e1, e2, e3⟩ := hT.mapS b hb
      refine ⟨n, D, Nat.le_trans e1 (addS_length _ _), e2.kept hg (by have := hT.ne hb; simp; exact this), fun x => ?_⟩
      rw [e3 x]
      congr 3
      apply propext
      rw [mem_addS]
      constructor
      · rintro ⟨h1, h2⟩; exact ⟨.inl h1, h2⟩
      · rintro ⟨h1, h2⟩
        rcases h1 with h1 | h1
        · exact ⟨h1, h2⟩
        · exact absurd (show tskP x by rw [h1]; exact ⟨by omega, by omega⟩) h2
  have HRES := Lib.hid hres
  obtain ⟨s, hs⟩ : ∃ s, decide ((i : Int) ∈ seen) = s := ⟨_, rfl⟩
  have HS := Lib.hid hs
  rw [hs] at c0
  clear hT hI hi hres hs
  go_enter Try.func50, Try.ntmps50
  go_wp2_with fail
  refine HI.out.mono ?_
  rintro e w1 ⟨rfl, rfl⟩
  go_wp2
  go_ret
  exact ⟨by rw [HS.out]; rfl, mb, .inl rfl, HRES.out.1, HRES.out.2⟩

set_option maxRecDepth 100000 in
set_option maxHeartbeats 2000000 in
/-- A task that is there already, among the others. -/
theorem tsAdd_old (g : Nat) (mb : Option Nat) (seen : List Int) (x : Int) (W : World) (hT : TsI g mb seen W) (hx : (Lit.int .i64 x).wf = true) (hn : ¬ tskP x) (hm : x ∈ seen) :
    Calls Try.prog 50 #[.pointer (some ⟨g, 0, none⟩), .int .i64 x] W (AddR g mb seen x W) := by
  have hI := isTask_any x W
  rw [decide_eq_false hn] at hI
  have HI := Lib.hid hI
  obtain ⟨b, rfl⟩ : ∃ b, mb = some b := by
    cases mb with
    | none => exact absurd (hT.mapN rfl x hm) hn
    | some b => exact ⟨b, rfl⟩
  obtain ⟨n, D, e1, e2, e3⟩ := hT.mapS b rfl
  have e3 := e3 x
  rw [decide_eq_true (show x ∈ seen ∧ ¬ tskP x from ⟨hm, hn⟩)] at e3
  have hL := look_bool e2 hx e3
  have c0 := hT.map
  have hr : addS seen x = seen := if_pos hm
  unfold AddR
  rw [decide_eq_true hm, hr]
  have HT := Lib.hid hT
  clear hT hI hx hn hm e1 e2 e3 hr
  go_enter Try.func50, Try.ntmps50
  go_wp2_with fail
  refine HI.out.mono ?_
  rintro e w1 ⟨rfl, rfl⟩
  go_wp2
  go_ret
  exact ⟨rfl, some b, .inl rfl, HT.out, KeptT.refl _ _ _⟩

set_option maxRecDepth 100000 in
set_option maxHeartbeats 2000000 in
/-- Another task that is new; there is a map. -/
theorem tsAdd_more (g b : Nat) (seen : List Int) (x : Int) (W : World) (hT : TsI g (some b) seen W) (hx : (Lit.int .i64 x).wf = true) (hn : ¬ tskP x) (hm : ¬ x ∈ seen) (hl : seen.length ≤ 1000) :
    Calls Try.prog 50 #[.pointer (some ⟨g, 0, none⟩), .int .i64 x] W (AddR g (some b) seen x W) := by
  have hI := isTask_any x W
  rw [decide_eq_false hn] at hI
  have HI := Lib.hid hI
  obtain ⟨n, D, e1, e2, e3⟩ := hT.mapS b rfl
  have e4 := e3 x
  rw [decide_eq_false (show ¬ (x ∈ seen ∧ ¬ tskP x) from fun h => hm h.1)] at e4
  have hL := look_bool e2 hx e4
  have c0 := hT.map
  have q1 : ∀ (w : World) (r : Option Nat), (binOp .eql TMp (.map r) (.map none)).run Try.prog w = .ok (.bool r.isNone) w := fun w r => run_eql_map_nil w _ _ _ r Try.underlying63
  have hres : ∀ W', W'.ownsMap Try.prog 3 (plainElem (H := Unit) Try.prog 4) b (n + 1) (D.put (.int .i64 x) (.lit (.bool true))) → W.grownBy W' (some b) → TsI g (some b) (addS seen x) W' ∧ KeptT g (some b) W W' := by
    intro W' h1 h2
    refine ⟨⟨?_, fun h => (by cases h), fun b' hb => ?_⟩, h2.os, h2.tape, h2.output, h2.size, fun k hk _ hne => h2.block k hk hne⟩
    · rw [tsL_other _ _ _ hn]
      exact (h2.block g hT.lt (by have := hT.ne rfl; simp; omega)).trans hT.blk
    · cases hb
      refine ⟨n + 1, _, ?_, h1, fun y => ?_⟩
      · unfold addS
        rw [if_neg hm]
        simp
        exact e1
      · by_cases hxy : y = x
        · subst hxy
          rw [atKey_put_same (e2.isMap) (by simp [WideAt.IsKeyLit])]
          rw [decide_eq_true (show y ∈ addS seen y ∧ ¬ tskP y from ⟨mem_addS.2 (.inr rfl), hn⟩)]
        · rw [atKey_put_other (by intro e; cases e; exact hxy rfl), e3 y]
          have : (y ∈ addS seen x ∧ ¬ tskP y) ↔ (y ∈ seen ∧ ¬ tskP y) := by
            rw [mem_addS]
            exact ⟨fun h => ⟨h.1.elim id (fun h => absurd h hxy), h.2⟩, fun h => ⟨.inl h.1, h.2⟩⟩
          rw [decide_eq_decide.2 this]
  have hnl : n < maxLen := by unfold maxLen; omega
  have HRES := Lib.hid hres
  have HOWN := Lib.hid e2
  have hkey := keyOf_int_mk (P := Try.prog) Try.underlying3 hx
  have HKEY := Lib.hid hkey
  unfold AddR
  rw [decide_eq_false hm]
  clear hT hI hx hn hm e1 e2 e3 e4 hres hkey
  go_enter Try.func50, Try.ntmps50
  go_wp2_with fail
  refine HI.out.mono ?_
  rintro e w1 ⟨rfl, rfl⟩
  go_wp2_with (at_mapUpdate; refine wpList_mapUpdate_own _ rfl _ _ _ TMp rfl 3 4 keyedI Try.underlying63 _ b n D rfl HOWN.out hnl _ _ _ rfl rfl HKEY.out _ [] (plainElem_bool Try.underlying4 true) ?_)
  intro w2 hown2 hgrow2
  have HR2 := Lib.hid (HRES.out w2 hown2 hgrow2)
  clear hown2 hgrow2
  go_wp2
  go_ret
  exact ⟨rfl, some b, .inl rfl, HR2.out.1, HR2.out.2⟩

set_option maxRecDepth 100000 in
set_option maxHeartbeats 2000000 in
/-- Another task that is new; there is no map yet. -/
theorem tsAdd_first (g : Nat) (seen : List Int) (x : Int) (W : World) (hT : TsI g none seen W) (hx : (Lit.int .i64 x).wf = true) (hn : ¬ tskP x) :
    Calls Try.prog 50 #[.pointer (some ⟨g, 0, none⟩), .int .i64 x] W (AddR g none seen x W) := by
  have hI := isTask_any x W
  rw [decide_eq_false hn] at hI
  have HI := Lib.hid hI
  have hm : ¬ x ∈ seen := fun h => hn (hT.mapN rfl x h)
  have hkey := keyOf_int_mk (P := Try.prog) Try.underlying3 hx
  have hL : (Instr.lookup TMp (.map none) (.int .i64 x) false).run Try.prog W = .ok (.bool false) W := by
    have := Maps.look_nil (P := Try.prog) (w := W) (t := TMp) (e := 4) false keyedI Try.underlying63 (z := .bool false) (by kernel_rfl) hkey
    simpa using this
  have c0 := hT.map
  have f0 := hT.free 16
  have q1 : ∀ (w : World) (r : Option Nat), (binOp .eql TMp (.map r) (.map none)).run Try.prog w = .ok (.bool r.isNone) w := fun w r => run_eql_map_nil w _ _ _ r Try.underlying63
  have hmm := @run_makeMap Try.prog
  have hlt := hT.lt
  have hbA : W.grownBy (W.alloc (.map #[] 0)) none := World.grownBy_alloc W _ none
  obtain ⟨WA, hWA⟩ : ∃ V, W.alloc (.map #[] 0) = V := ⟨_, rfl⟩
  have cA : WA.cell? ⟨g, 16, none⟩ = some (.map none) := by rw [← hWA]; exact hbA.cell c0 (by simp)
  have fA : WA.frozen? ⟨g, 16, none⟩ = false := by rw [← hWA]; exact (World.frozen?_of_block (hbA.block g hlt (by simp))).trans f0
  obtain ⟨WB, hWB⟩ : ∃ V, WA.setCell ⟨g, 16, none⟩ (.map (some W.heap.size)) = V := ⟨_, rfl⟩
  have hAB : WA.grownBy WB (some g) := by rw [← hWB]; exact ⟨rfl, rfl, rfl, (KeepsWalks.setCell WA _ _).size, fun k _ hk => Below.heap_setCell _ _ _ k (fun e => hk (by rw [e]))⟩
  have hblkA : WA.heap[g]? = some (.cells (tsL seen none).toArray TS (0, 0)) := by rw [← hWA]; exact (hbA.block g hlt (by simp)).trans hT.blk
  have hblkB : WB.heap[g]? = some (.cells (tsL seen (some W.heap.size)).toArray TS (0, 0)) := by
    rw [← hWB, heap_setCell_same WA g 16 _ _ _ hblkA, ← tsL_setmap seen none W.heap.size]
    simp
  have cB : WB.cell? ⟨g, 16, none⟩ = some (.map (some W.heap.size)) := by
    rw [Lib.cell_of_heap hblkB]
    simpa using tsL_map seen (some W.heap.size)
  have hownA : WA.ownsMap Try.prog 3 (plainElem (H := Unit) Try.prog 4) W.heap.size 0 (.map []) := by rw [← hWA]; exact World.ownsMap_made _ _ _ _
  have hownB : WB.ownsMap Try.prog 3 (plainElem (H := Unit) Try.prog 4) W.heap.size 0 (.map []) := hownA.kept hAB (by simp; omega)
  have hsA : WA.heap.size = W.heap.size + 1 := by rw [← hWA]; simp
  have hres : ∀ W', W'.ownsMap Try.prog 3 (plainElem (H := Unit) Try.prog 4) W.heap.size (0 + 1) ((DataW.map []).put (.int .i64 x) (.lit (.bool true))) → WB.grownBy W' (some W.heap.size) → TsI g (some W.heap.size) (addS seen x) W' ∧ KeptT g none W W' := by
    intro W' h1 h2
    refine ⟨⟨?_, fun h => (by cases h), fun b' hb => ?_⟩, ?_⟩
    · rw [tsL_other _ _ _ hn]
      exact (h2.block g (Array.getElem?_eq_some_iff.1 hblkB).1 (by simp; omega)).trans hblkB
    · cases hb
      refine ⟨0 + 1, _, ?_, h1, fun y => ?_⟩
      · unfold addS
        rw [if_neg hm]
        simp
      · by_cases hxy : y = x
        · subst hxy
          rw [atKey_put_same isMap_empty (by simp [WideAt.IsKeyLit])]
          rw [decide_eq_true (show y ∈ addS seen y ∧ ¬ tskP y from ⟨mem_addS.2 (.inr rfl), hn⟩)]
        · rw [atKey_put_other (by intro e; cases e; exact hxy rfl)]
          have : ¬ (y ∈ addS seen x ∧ ¬ tskP y) := by
            rw [mem_addS]
            rintro ⟨h3, h4⟩
            rcases h3 with h3 | h3
            · exact h4 (hT.mapN rfl y h3)
            · exact hxy h3
          rw [decide_eq_false this]
          rfl
    · rw [← hWA] at hAB hsA
      refine ⟨h2.os.trans (hAB.os.trans hbA.os), h2.tape.trans (hAB.tape.trans hbA.tape), h2.output.trans (hAB.output.trans hbA.output), Nat.le_trans hbA.size (Nat.le_trans hAB.size h2.size), fun k hk h3 _ => ?_⟩
      have hkA : k < (W.alloc (.map #[] 0)).heap.size := Nat.lt_of_lt_of_le hk hbA.size
      exact (h2.block k (Nat.lt_of_lt_of_le hkA hAB.size) (by simp; omega)).trans ((hAB.block k hkA (by simp; exact h3)).trans (hbA.block k hk (by simp)))
  have hnl : 0 < maxLen := by unfold maxLen; omega
  have HRES := Lib.hid hres
  have HOWN := Lib.hid hownB
  have HKEY := Lib.hid hkey
  have HWA := Lib.hid hWA
  have HWB := Lib.hid hWB
  unfold AddR
  rw [decide_eq_false hm]
  clear hT hx hn hm hI hkey hlt hbA hWA hWB hAB hblkA hblkB hownA hownB hsA hres
  go_enter Try.func50, Try.ntmps50
  go_wp2_with fail
  refine HI.out.mono ?_
  rintro e w1 ⟨rfl, rfl⟩
  go_wp2_with (first | rw [HWA.out, HWB.out] | rw [HWA.out] | rw [HWB.out] | (at_mapUpdate; refine wpList_mapUpdate_own _ rfl _ _ _ TMp rfl 3 4 keyedI Try.underlying63 _ _ 0 (.map []) rfl HOWN.out hnl _ _ _ rfl rfl HKEY.out _ [] (plainElem_bool Try.underlying4 true) ?_))
  intro w2 hown2 hgrow2
  have HR2 := Lib.hid (HRES.out w2 hown2 hgrow2)
  clear hown2 hgrow2
  go_wp2
  go_ret
  exact ⟨rfl, some _, .inr ⟨by trivial, _, rfl, Nat.le_refl _⟩, HR2.out.1, HR2.out.2⟩

theorem tsAdd_any (g : Nat) (mb : Option Nat) (seen : List Int) (x : Int) (W : World) (hT : TsI g mb seen W) (hx : (Lit.int .i64 x).wf = true) (hl : seen.length ≤ 1000) :
    Calls Try.prog 50 #[.pointer (some ⟨g, 0, none⟩), .int .i64 x] W (AddR g mb seen x W) := by
  by_cases hn : tskP x
  · obtain ⟨i, rfl⟩ : ∃ i : Nat, x = i := ⟨x.toNat, by have := hn.1; omega⟩
    exact tsAdd_task g mb seen i W hT (by have := hn.2; omega)
  · by_cases hm : x ∈ seen
    · exact tsAdd_old g mb seen x W hT hx hn hm
    · cases mb with
      | none => exact tsAdd_first g seen x W hT hx hn
      | some b => exact tsAdd_more g b seen x W hT hx hn hm hl

end Go.Proofs.Ytonjempbphnimaa
