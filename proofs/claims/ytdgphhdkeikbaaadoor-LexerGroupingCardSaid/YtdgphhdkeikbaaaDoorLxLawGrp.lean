/-
  The walk of LexerGrouping.
-/
import Derived.Test.YtdgphhdkeikbaaaDoorLxGrp0
import Derived.Test.YtdgphhdkeikbaaaDoorLxErrM
import Derived.Test.YtdgphhdkeikbaaaDoorLxRd1
namespace Go.Proofs.YtdgphhdkeikbaaaDoor
set_option linter.unusedSimpArgs false
set_option linter.unusedVariables false
open Go.RowKit

abbrev OpAt (V : World) (b o : Nat) (x : OpG) : Prop := V.cell? ⟨b, o, none⟩ = some (.string x.s) ∧ V.cell? ⟨b, o + 1, none⟩ = some (.int .i64 x.o) ∧ V.cell? ⟨b, o + 2, none⟩ = some (.int .i64 x.p)
theorem OpAt.later {w w' : World} {b o : Nat} {x : OpG} (h : OpAt w b o x) (hb : Below w.heap.size w w') : OpAt w' b o x := ⟨cell_laterZ hb h.1, cell_laterZ hb h.2.1, cell_laterZ hb h.2.2⟩
theorem opAt_row {V : World} {b : Nat} {x : OpG} (h : V.heap[b]? = some (.cells #[.string x.s, .int .i64 x.o, .int .i64 x.p] TOg (0, 0))) : OpAt V b 0 x := by
  refine ⟨?_, ?_, ?_⟩ <;> (rw [Lib.cell_of_heap h]; rfl)
theorem opAt_tab {V : World} {b m : Nat} (h : V.heap[b]? = some (.cells opCs.toArray TOg (0, 0))) (hm : m < 13) : OpAt V b (m * 3) (gO m) := by
  obtain ⟨h1, h2, h3⟩ := opC_at m hm
  refine ⟨?_, ?_, ?_⟩ <;> (rw [Lib.cell_of_heap h]; simpa using by assumption)
theorem cell_lat {w w' : World} {p : Addr} {v : Value} (h : w.cell? p = some v) (hb : Below w.heap.size w w') : w'.cell? p = some v := cell_laterZ hb h
theorem OpAt.keepB {V V' : World} {b o : Nat} {x : OpG} (h : OpAt V b o x) (hb : V'.heap[b]? = V.heap[b]?) : OpAt V' b o x := ⟨(World.cell?_of_block hb).trans h.1, (World.cell?_of_block hb).trans h.2.1, (World.cell?_of_block hb).trans h.2.2⟩
/-- Two variables of the operators' type, in two new blocks, in either order. -/
theorem twoOps (w : World) (x y : OpG) (W : World) (b6 b7 : Nat) (hb : (b6 = w.heap.size ∧ b7 = w.heap.size + 1) ∨ (b6 = w.heap.size + 1 ∧ b7 = w.heap.size)) (hW : (w.alloc (.cells #[.string ⟨#[]⟩, .int .i64 0, .int .i64 0] TOg)).alloc (.cells #[.string ⟨#[]⟩, .int .i64 0, .int .i64 0] TOg) = W) :
    W.heap[b6]? = some (.cells #[.string ⟨#[]⟩, .int .i64 0, .int .i64 0] TOg (0, 0)) ∧ ∀ V, W.setRow b6 #[.string x.s, .int .i64 x.o, .int .i64 x.p] = V → Below w.heap.size w V ∧ V.heap[b7]? = some (.cells #[.string ⟨#[]⟩, .int .i64 0, .int .i64 0] TOg (0, 0)) ∧ ∀ X, V.setRow b7 #[.string y.s, .int .i64 y.o, .int .i64 y.p] = X → Below w.heap.size w X ∧ OpAt X b6 0 x ∧ OpAt X b7 0 y := by
  obtain ⟨t0, t1, hB⟩ := twoBlocks w (.cells #[.string ⟨#[]⟩, .int .i64 0, .int .i64 0] TOg (0, 0)) (.cells #[.string ⟨#[]⟩, .int .i64 0, .int .i64 0] TOg (0, 0))
  rw [hW] at t0 t1 hB
  have h6 : W.heap[b6]? = some (.cells #[.string ⟨#[]⟩, .int .i64 0, .int .i64 0] TOg (0, 0)) := by rcases hb with ⟨rfl, rfl⟩ | ⟨rfl, rfl⟩ <;> assumption
  have h7 : W.heap[b7]? = some (.cells #[.string ⟨#[]⟩, .int .i64 0, .int .i64 0] TOg (0, 0)) := by rcases hb with ⟨rfl, rfl⟩ | ⟨rfl, rfl⟩ <;> assumption
  have hne : b6 ≠ b7 := by omega
  refine ⟨h6, fun V hV => ?_⟩
  have bV : Below w.heap.size w V := by rw [← hV]; exact below_setRow hB (by omega) _
  have v7 : V.heap[b7]? = some (.cells #[.string ⟨#[]⟩, .int .i64 0, .int .i64 0] TOg (0, 0)) := by rw [← hV, setRow_other W _ _ _ (by omega)]; exact h7
  have v6 : V.heap[b6]? = some (.cells #[.string x.s, .int .i64 x.o, .int .i64 x.p] TOg (0, 0)) := by rw [← hV]; exact setRow_heap _ _ _ _ _ _ h6
  refine ⟨bV, v7, fun X hX => ⟨by rw [← hX]; exact below_setRow bV (by omega) _, opAt_row ?_, opAt_row ?_⟩⟩
  · rw [← hX, setRow_other V _ _ _ (by omega)]; exact v6
  · rw [← hX]; exact setRow_heap _ _ _ _ _ _ v7
/-- Three variables of type Expr. -/
theorem threeVars (w : World) (e f g : Ex) (se sf sg : Value) (W : World) (hW : ((w.alloc (.cells #[.int .i64 0, .int .i64 0, .string ⟨#[]⟩, .int .i64 0, .slice none 0 0] TX)).alloc (.cells #[.int .i64 0, .int .i64 0, .string ⟨#[]⟩, .int .i64 0, .slice none 0 0] TX)).alloc (.cells #[.int .i64 0, .int .i64 0, .string ⟨#[]⟩, .int .i64 0, .slice none 0 0] TX) = W) :
    W.heap[w.heap.size]? = some (.cells #[.int .i64 0, .int .i64 0, .string ⟨#[]⟩, .int .i64 0, .slice none 0 0] TX (0, 0)) ∧ ∀ V, W.setRow w.heap.size #[.int .i64 e.k, .int .i64 e.o, .string e.s, .int .i64 e.v, se] = V → V.heap[w.heap.size + 1]? = some (.cells #[.int .i64 0, .int .i64 0, .string ⟨#[]⟩, .int .i64 0, .slice none 0 0] TX (0, 0)) ∧ ∀ U, V.setRow (w.heap.size + 1) #[.int .i64 f.k, .int .i64 f.o, .string f.s, .int .i64 f.v, sf] = U → U.heap[w.heap.size + 1 + 1]? = some (.cells #[.int .i64 0, .int .i64 0, .string ⟨#[]⟩, .int .i64 0, .slice none 0 0] TX (0, 0)) ∧ ∀ X, U.setRow (w.heap.size + 1 + 1) #[.int .i64 g.k, .int .i64 g.o, .string g.s, .int .i64 g.v, sg] = X → Below w.heap.size w X ∧ AtX X w.heap.size 0 e se ∧ AtX X (w.heap.size + 1) 0 f sf ∧ AtX X (w.heap.size + 1 + 1) 0 g sg := by
  obtain ⟨t0, t1, t2, hB⟩ := threeBlocks w (.cells #[.int .i64 0, .int .i64 0, .string ⟨#[]⟩, .int .i64 0, .slice none 0 0] TX (0, 0)) (.cells #[.int .i64 0, .int .i64 0, .string ⟨#[]⟩, .int .i64 0, .slice none 0 0] TX (0, 0)) (.cells #[.int .i64 0, .int .i64 0, .string ⟨#[]⟩, .int .i64 0, .slice none 0 0] TX (0, 0))
  rw [hW] at t0 t1 t2 hB
  have key : ∀ {Y : World} {b : Nat} {x : Ex} {s : Value}, Y.heap[b]? = some (.cells #[.int .i64 x.k, .int .i64 x.o, .string x.s, .int .i64 x.v, s] TX (0, 0)) → AtX Y b 0 x s := fun h => by
    refine ⟨?_, ?_, ?_, ?_, ?_⟩ <;> simp [World.cell?, h]
  refine ⟨t0, fun V hV => ?_⟩
  have v0 : V.heap[w.heap.size]? = some (.cells #[.int .i64 e.k, .int .i64 e.o, .string e.s, .int .i64 e.v, se] TX (0, 0)) := by rw [← hV]; exact setRow_heap _ _ _ _ _ _ t0
  have v1 : V.heap[w.heap.size + 1]? = some (.cells #[.int .i64 0, .int .i64 0, .string ⟨#[]⟩, .int .i64 0, .slice none 0 0] TX (0, 0)) := by rw [← hV, setRow_other W _ _ _ (by omega)]; exact t1
  have v2 : V.heap[w.heap.size + 1 + 1]? = some (.cells #[.int .i64 0, .int .i64 0, .string ⟨#[]⟩, .int .i64 0, .slice none 0 0] TX (0, 0)) := by rw [← hV, setRow_other W _ _ _ (by omega)]; exact t2
  refine ⟨v1, fun U hU => ?_⟩
  have u0 : U.heap[w.heap.size]? = some (.cells #[.int .i64 e.k, .int .i64 e.o, .string e.s, .int .i64 e.v, se] TX (0, 0)) := by rw [← hU, setRow_other V _ _ _ (by omega)]; exact v0
  have u1 : U.heap[w.heap.size + 1]? = some (.cells #[.int .i64 f.k, .int .i64 f.o, .string f.s, .int .i64 f.v, sf] TX (0, 0)) := by rw [← hU]; exact setRow_heap _ _ _ _ _ _ v1
  have u2 : U.heap[w.heap.size + 1 + 1]? = some (.cells #[.int .i64 0, .int .i64 0, .string ⟨#[]⟩, .int .i64 0, .slice none 0 0] TX (0, 0)) := by rw [← hU, setRow_other V _ _ _ (by omega)]; exact v2
  refine ⟨u2, fun X hX => ⟨?_, key ?_, key ?_, key ?_⟩⟩
  · rw [← hX, ← hU, ← hV]; exact below_setRow (below_setRow (below_setRow hB (Nat.le_refl _) _) (by omega) _) (by omega) _
  · rw [← hX, setRow_other U _ _ _ (by omega)]; exact u0
  · rw [← hX, setRow_other U _ _ _ (by omega)]; exact u1
  · rw [← hX]; exact setRow_heap _ _ _ _ _ _ u2
set_option maxRecDepth 100000 in
set_option maxHeartbeats 32000000 in
theorem lexerGrouping_walk (i k : Int) (hi : (Lit.int .u8 i).wf = true) (hk : (Lit.int .u8 k).wf = true) (w : World) (hV : LxV w) (hT : TabJ w) :
    Calls Tryd.prog 10 #[.int .u8 i, .int .u8 k] w fun e w' => e = .returned (.bool true) ∧ Below w.heap.size w w' := by
  simp [Lit.wf, IntKind.min, IntKind.max, IntKind.bits, IntKind.signed] at hi hk
  obtain ⟨m, hm, hm2⟩ : ∃ m : Nat, m < 13 ∧ i.tmod 13 = (m : Int) := ⟨(i.tmod 13).toNat, by rw [Int.tmod_eq_emod_of_nonneg (by omega)]; omega, by rw [Int.tmod_eq_emod_of_nonneg (by omega)]; omega⟩
  obtain ⟨n, hn, hn2⟩ : ∃ m : Nat, m < 13 ∧ k.tmod 13 = (m : Int) := ⟨(k.tmod 13).toNat, by rw [Int.tmod_eq_emod_of_nonneg (by omega)]; omega, by rw [Int.tmod_eq_emod_of_nonneg (by omega)]; omega⟩
  have wi : IntKind.i64.wrap i = i := IntWalk.i64_in _ (by omega)
  have wk : IntKind.i64.wrap k = k := IntWalk.i64_in _ (by omega)
  have wm : IntKind.i64.wrap (m : Int) = (m : Int) := IntWalk.i64_in _ (by omega)
  have wn : IntKind.i64.wrap (n : Int) = (n : Int) := IntWalk.i64_in _ (by omega)
  have m1 : (m : Int) < 13 := by omega
  have n1 : (n : Int) < 13 := by omega
  obtain ⟨hps, heq⟩ := psG m n hm hn
  have HB0 : Hid (Below w.heap.size w w) := Lib.hid (Below.refl _ w)
  have ZV_0 := Lib.hid hV
  have ZT_0 := Lib.hid hT
  have HO := Lib.hid (operators_any w)
  have HBO : Hid (Below w.heap.size w (w.alloc (.cells opCs.toArray TOg))) := Lib.hid (below_allocW w _)
  have HGO : Hid ((w.alloc (.cells opCs.toArray TOg)).heap[w.heap.size]? = some (.cells opCs.toArray TOg (0, 0))) := Lib.hid (heapNew w _)
  have hsx := gO_s m
  have hsy := gO_s n
  have HXY : Hid (OpAt (w.alloc (.cells opCs.toArray TOg)) w.heap.size (m * 3) (gO m) ∧ OpAt (w.alloc (.cells opCs.toArray TOg)) w.heap.size (n * 3) (gO n)) := Lib.hid ⟨opAt_tab HGO.out hm, opAt_tab HGO.out hn⟩
  obtain ⟨X, hX⟩ : ∃ X, gO m = X := ⟨_, rfl⟩
  obtain ⟨Y, hY⟩ : ∃ X, gO n = X := ⟨_, rfl⟩
  rw [hX] at hsx HXY hps heq
  rw [hY] at hsy HXY hps heq
  have HPS := Lib.hid hps
  have HEQ := Lib.hid heq
  clear hV hT hX hY hps heq hm hn
  go_enter Tryd.func10, Tryd.ntmps10
  go_wp2_with fail
  refine HO.out.mono ?_
  rintro e w0 ⟨rfl, hw0⟩
  obtain ⟨w1, hw1⟩ : ∃ W, w.alloc (.cells opCs.toArray TOg) = W := ⟨_, rfl⟩
  rw [hw1] at hw0
  subst hw0
  rw [hw1] at HBO HGO HXY
  have b1 := HBO.out
  have HB1 := Lib.hid (HB0.out.trans (b1.mono HB0.out.size))
  have ZV_1 := Lib.hid (LxV.carry ZV_0.out b1)
  have ZT_1 := Lib.hid (TabJ.below ZT_0.out b1)
  clear b1 HBO HGO hw1
  go_wp2_with fail
  refine wp_region_held (S := fun V => OpAt V w.heap.size (m * 3) X ∧ OpAt V w.heap.size (n * 3) Y) (by kernel_rfl) ?_
  change wpAnyH _ _ _ _ _ _ _ _ (w0).drew
  obtain ⟨XD, hXD⟩ : ∃ V, (w0).drew = V := ⟨_, rfl⟩
  have bXD : Below (w0).heap.size (w0) XD := by rw [← hXD]; exact (Below.refl _ _).drew
  have HS := Lib.hid (show OpAt XD w.heap.size (m * 3) X ∧ OpAt XD w.heap.size (n * 3) Y from ⟨HXY.out.1.later bXD, HXY.out.2.later bXD⟩)
  have HB2 := Lib.hid (HB1.out.trans (bXD.mono HB1.out.size))
  have ZV_2 := Lib.hid (LxV.carry ZV_1.out bXD)
  have ZT_2 := Lib.hid (TabJ.below ZT_1.out bXD)
  rw [hXD]
  clear hXD bXD
  refine wpAnyH_read (i := 0) (v := .slice (some ⟨w.heap.size, 0, none⟩) 13 13) rfl (by kernel_rfl) (by kernel_rfl) (by kernel_rfl) (fun _ _ _ h => h) (by rfl) ((by rintro V ⟨⟨x0, x1, x2⟩, ⟨y0, y1, y2⟩⟩; go_simp)) HS.out ?_
  simp only [Act.put, List.setIfInBounds_toArray, List.set_cons_zero, List.set_cons_succ]
  refine wpAnyH_read (i := 1) (v := .int .u8 i) rfl (by kernel_rfl) (by kernel_rfl) (by kernel_rfl) (fun _ _ _ h => h) (by rfl) ((by rintro V ⟨⟨x0, x1, x2⟩, ⟨y0, y1, y2⟩⟩; go_simp)) HS.out ?_
  simp only [Act.put, List.setIfInBounds_toArray, List.set_cons_zero, List.set_cons_succ]
  refine wpAnyH_read (i := 2) (v := .int .i64 i) rfl (by kernel_rfl) (by kernel_rfl) (by kernel_rfl) (fun _ _ _ h => h) (by rfl) ((by rintro V ⟨⟨x0, x1, x2⟩, ⟨y0, y1, y2⟩⟩; go_simp)) HS.out ?_
  simp only [Act.put, List.setIfInBounds_toArray, List.set_cons_zero, List.set_cons_succ]
  refine wpAnyH_read (i := 3) (v := .slice (some ⟨w.heap.size, 0, none⟩) 13 13) rfl (by kernel_rfl) (by kernel_rfl) (by kernel_rfl) (fun _ _ _ h => h) (by rfl) ((by rintro V ⟨⟨x0, x1, x2⟩, ⟨y0, y1, y2⟩⟩; go_simp)) HS.out ?_
  simp only [Act.put, List.setIfInBounds_toArray, List.set_cons_zero, List.set_cons_succ]
  refine wpAnyH_read (i := 4) (v := .int .i64 13) rfl (by kernel_rfl) (by kernel_rfl) (by kernel_rfl) (fun _ _ _ h => h) (by rfl) ((by rintro V ⟨⟨x0, x1, x2⟩, ⟨y0, y1, y2⟩⟩; go_simp)) HS.out ?_
  simp only [Act.put, List.setIfInBounds_toArray, List.set_cons_zero, List.set_cons_succ]
  refine wpAnyH_read (i := 5) (v := .int .i64 (m : Int)) rfl (by kernel_rfl) (by kernel_rfl) (by kernel_rfl) (fun _ _ _ h => h) (by rfl) ((by rintro V ⟨⟨x0, x1, x2⟩, ⟨y0, y1, y2⟩⟩; go_simp)) HS.out ?_
  simp only [Act.put, List.setIfInBounds_toArray, List.set_cons_zero, List.set_cons_succ]
  refine wpAnyH_read (i := 6) (v := .pointer (some ⟨w.heap.size, m * 3, none⟩)) rfl (by kernel_rfl) (by kernel_rfl) (by kernel_rfl) (fun _ _ _ h => h) (by rfl) ((by rintro V ⟨⟨x0, x1, x2⟩, ⟨y0, y1, y2⟩⟩; go_simp)) HS.out ?_
  simp only [Act.put, List.setIfInBounds_toArray, List.set_cons_zero, List.set_cons_succ]
  refine wpAnyH_read (i := 7) (v := .agg #[.string X.s, .int .i64 X.o, .int .i64 X.p]) rfl (by kernel_rfl) (by kernel_rfl) (by kernel_rfl) (fun _ _ _ h => h) (by rfl) ((by rintro V ⟨⟨x0, x1, x2⟩, ⟨y0, y1, y2⟩⟩; go_simp)) HS.out ?_
  simp only [Act.put, List.setIfInBounds_toArray, List.set_cons_zero, List.set_cons_succ]
  refine wpAnyH_read (i := 8) (v := .slice (some ⟨w.heap.size, 0, none⟩) 13 13) rfl (by kernel_rfl) (by kernel_rfl) (by kernel_rfl) (fun _ _ _ h => h) (by rfl) ((by rintro V ⟨⟨x0, x1, x2⟩, ⟨y0, y1, y2⟩⟩; go_simp)) HS.out ?_
  simp only [Act.put, List.setIfInBounds_toArray, List.set_cons_zero, List.set_cons_succ]
  refine wpAnyH_read (i := 9) (v := .int .u8 k) rfl (by kernel_rfl) (by kernel_rfl) (by kernel_rfl) (fun _ _ _ h => h) (by rfl) ((by rintro V ⟨⟨x0, x1, x2⟩, ⟨y0, y1, y2⟩⟩; go_simp)) HS.out ?_
  simp only [Act.put, List.setIfInBounds_toArray, List.set_cons_zero, List.set_cons_succ]
  refine wpAnyH_read (i := 10) (v := .int .i64 k) rfl (by kernel_rfl) (by kernel_rfl) (by kernel_rfl) (fun _ _ _ h => h) (by rfl) ((by rintro V ⟨⟨x0, x1, x2⟩, ⟨y0, y1, y2⟩⟩; go_simp)) HS.out ?_
  simp only [Act.put, List.setIfInBounds_toArray, List.set_cons_zero, List.set_cons_succ]
  refine wpAnyH_read (i := 11) (v := .slice (some ⟨w.heap.size, 0, none⟩) 13 13) rfl (by kernel_rfl) (by kernel_rfl) (by kernel_rfl) (fun _ _ _ h => h) (by rfl) ((by rintro V ⟨⟨x0, x1, x2⟩, ⟨y0, y1, y2⟩⟩; go_simp)) HS.out ?_
  simp only [Act.put, List.setIfInBounds_toArray, List.set_cons_zero, List.set_cons_succ]
  refine wpAnyH_read (i := 12) (v := .int .i64 13) rfl (by kernel_rfl) (by kernel_rfl) (by kernel_rfl) (fun _ _ _ h => h) (by rfl) ((by rintro V ⟨⟨x0, x1, x2⟩, ⟨y0, y1, y2⟩⟩; go_simp)) HS.out ?_
  simp only [Act.put, List.setIfInBounds_toArray, List.set_cons_zero, List.set_cons_succ]
  refine wpAnyH_read (i := 13) (v := .int .i64 (n : Int)) rfl (by kernel_rfl) (by kernel_rfl) (by kernel_rfl) (fun _ _ _ h => h) (by rfl) ((by rintro V ⟨⟨x0, x1, x2⟩, ⟨y0, y1, y2⟩⟩; go_simp)) HS.out ?_
  simp only [Act.put, List.setIfInBounds_toArray, List.set_cons_zero, List.set_cons_succ]
  refine wpAnyH_read (i := 14) (v := .pointer (some ⟨w.heap.size, n * 3, none⟩)) rfl (by kernel_rfl) (by kernel_rfl) (by kernel_rfl) (fun _ _ _ h => h) (by rfl) ((by rintro V ⟨⟨x0, x1, x2⟩, ⟨y0, y1, y2⟩⟩; go_simp)) HS.out ?_
  simp only [Act.put, List.setIfInBounds_toArray, List.set_cons_zero, List.set_cons_succ]
  refine wpAnyH_read (i := 15) (v := .agg #[.string Y.s, .int .i64 Y.o, .int .i64 Y.p]) rfl (by kernel_rfl) (by kernel_rfl) (by kernel_rfl) (fun _ _ _ h => h) (by rfl) ((by rintro V ⟨⟨x0, x1, x2⟩, ⟨y0, y1, y2⟩⟩; go_simp)) HS.out ?_
  simp only [Act.put, List.setIfInBounds_toArray, List.set_cons_zero, List.set_cons_succ]
  refine wpAnyH_fork (i := 16) (j := 17) rfl rfl (by kernel_rfl) ?_ ?_
  ·
    obtain ⟨XA, hXA⟩ : ∃ V, XD.alloc (.cells #[.string ⟨#[]⟩, .int .i64 0, .int .i64 0] TOg) = V := ⟨_, rfl⟩
    have bXA : Below XD.heap.size XD XA := by rw [← hXA]; exact below_allocW XD _
    have sXA : XA.heap.size = XD.heap.size + 1 := by rw [← hXA]; simp
    have HSA := Lib.hid (show OpAt XA w.heap.size (m * 3) X ∧ OpAt XA w.heap.size (n * 3) Y from ⟨HS.out.1.later bXA, HS.out.2.later bXA⟩)
    obtain ⟨XB, hXB⟩ : ∃ V, XA.alloc (.cells #[.string ⟨#[]⟩, .int .i64 0, .int .i64 0] TOg) = V := ⟨_, rfl⟩
    have bXB : Below XA.heap.size XA XB := by rw [← hXB]; exact below_allocW XA _
    have HSB := Lib.hid (show OpAt XB w.heap.size (m * 3) X ∧ OpAt XB w.heap.size (n * 3) Y from ⟨HSA.out.1.later bXB, HSA.out.2.later bXB⟩)
    obtain ⟨t6, t7⟩ := twoOps XD X Y XB (XD.heap.size) (XD.heap.size + 1) (.inl ⟨rfl, rfl⟩) (by rw [hXA, hXB])
    obtain ⟨XC, hXC⟩ : ∃ V, XB.setRow (XD.heap.size) #[.string X.s, .int .i64 X.o, .int .i64 X.p] = V := ⟨_, rfl⟩
    obtain ⟨bXC, t8, t9⟩ := t7 XC hXC
    obtain ⟨XE, hXE⟩ : ∃ V, XC.setRow (XD.heap.size + 1) #[.string Y.s, .int .i64 Y.o, .int .i64 Y.p] = V := ⟨_, rfl⟩
    obtain ⟨bXE, t10, t11⟩ := t9 XE hXE
    have HSC := Lib.hid (show OpAt XC w.heap.size (m * 3) X ∧ OpAt XC w.heap.size (n * 3) Y from ⟨HS.out.1.later bXC, HS.out.2.later bXC⟩)
    have HSE := Lib.hid (show OpAt XE w.heap.size (m * 3) X ∧ OpAt XE w.heap.size (n * 3) Y from ⟨HS.out.1.later bXE, HS.out.2.later bXE⟩)
    have H6 := Lib.hid t6
    have H7 := Lib.hid t8
    have Zx_3 := Lib.hid t10
    have Zy_3 := Lib.hid t11
    have HB3 := Lib.hid (HB2.out.trans (bXE.mono HB2.out.size))
    have ZV_3 := Lib.hid (LxV.carry ZV_2.out bXE)
    have ZT_3 := Lib.hid (TabJ.below ZT_2.out bXE)
    have HXA := Lib.hid hXA
    have HXB := Lib.hid hXB
    have HXC := Lib.hid hXC
    have HXE := Lib.hid hXE
    have HSZ := Lib.hid sXA
    clear t6 t7 t8 t9 t10 t11 bXA bXB bXC bXE hXA hXB hXC hXE sXA
    go_wp2_with fail
    try rw [HXA.out]
    refine ⟨HSA.out, ?_⟩
    refine wpAnyH_next (i := 17) rfl (by kernel_rfl) ?_
    go_wp2_with fail
    try rw [HXB.out]
    try rw [HSZ.out]
    refine ⟨HSB.out, ?_⟩
    refine wpAnyH_next (i := 18) rfl (by kernel_rfl) ?_
    go_wp2_with (refine wpList_store_row rfl TOg (.tmp 6) (.tmp 22) rfl (XD.heap.size) #[.string X.s, .int .i64 X.o, .int .i64 X.p] rfl rfl _ _ H6.out (by kernel_rfl) rfl (by simp [Value.oneCell']) ?_)
    rw [HXC.out]
    simp only [nextQ]
    refine ⟨HSC.out, ?_⟩
    refine wpAnyH_next (i := 19) rfl (by kernel_rfl) ?_
    go_wp2_with (refine wpList_store_row rfl TOg (.tmp 7) (.tmp 30) rfl (XD.heap.size + 1) #[.string Y.s, .int .i64 Y.o, .int .i64 Y.p] rfl rfl _ _ H7.out (by kernel_rfl) rfl (by simp [Value.oneCell']) ?_)
    rw [HXE.out]
    simp only [nextQ]
    refine ⟨HSE.out, ?_⟩
    refine wpAnyH_done (by kernel_rfl) ?_ _
    have n0 : ¬ 9223372036854775807 < (⟨#[97]⟩ : ByteArray).size + X.s.size := by show ¬ 9223372036854775807 < 1 + X.s.size; omega
    have n1 : ¬ 9223372036854775807 < (⟨#[97]⟩ ++ X.s : ByteArray).size + (⟨#[98]⟩ : ByteArray).size := by rw [ByteArray.size_append]; show ¬ 9223372036854775807 < 1 + X.s.size + 1; omega
    have n2 : ¬ 9223372036854775807 < (⟨#[97]⟩ ++ X.s ++ ⟨#[98]⟩ : ByteArray).size + Y.s.size := by rw [ByteArray.size_append, ByteArray.size_append]; show ¬ 9223372036854775807 < 1 + X.s.size + 1 + Y.s.size; omega
    have n3 : ¬ 9223372036854775807 < (⟨#[97]⟩ ++ X.s ++ ⟨#[98]⟩ ++ Y.s : ByteArray).size + (⟨#[99]⟩ : ByteArray).size := by rw [ByteArray.size_append, ByteArray.size_append, ByteArray.size_append]; show ¬ 9223372036854775807 < 1 + X.s.size + 1 + Y.s.size + 1; omega
    have hz : (txG X Y).size ≤ 9223372036854775807 := by rw [← txG_eq, ByteArray.size_append, ByteArray.size_append, ByteArray.size_append, ByteArray.size_append]; show 1 + X.s.size + 1 + Y.s.size + 1 ≤ _; omega
    by_cases h3 : X.p = 3
    · obtain ⟨p1, p2⟩ := ieq h3
      by_cases h4 : Y.p = 3
      · obtain ⟨p3, p4⟩ := ieq h4
        obtain ⟨I, hI⟩ : ∃ I : Nat, 2 + X.s.size = I := ⟨_, rfl⟩
        have HPQ : Hid (psF (txG X Y) = (zeroX, I, 3)) := Lib.hid (by rw [HPS.out, wtG, if_pos ⟨h3, h4⟩, hI])
        obtain ⟨p5, p6⟩ := ieq (show (I : Int) = 2 + (X.s.size : Int) by omega)
        clear h3 h4 hI
        obtain ⟨x0, x1, x2⟩ := Zx_3.out
        simp only [Nat.zero_add] at x1 x2
        obtain ⟨y0, y1, y2⟩ := Zy_3.out
        simp only [Nat.zero_add] at y1 y2
        go_wp2_with fail
        try rw [txG_eq]
        have hC4 := parA (txG X Y) zeroX I 3 XE hz ZV_3.out ZT_3.out HPQ.out
        have HC4 := Lib.hid hC4
        clear hC4
        refine HC4.out.mono ?_
        rintro e w4 ⟨ae, me, ce, rfl, ke, b4⟩
        have HB4 := Lib.hid (HB3.out.trans (b4.mono HB3.out.size))
        have ZV_4 := Lib.hid (LxV.carry ZV_3.out b4)
        have ZT_4 := Lib.hid (TabJ.below ZT_3.out b4)
        have Zx_4 := Lib.hid (OpAt.later Zx_3.out b4)
        have Zy_4 := Lib.hid (OpAt.later Zy_3.out b4)
        have Xe_4 := Lib.hid (ke)
        clear b4 HC4 ke
        try simp only [exV]
        clear x0 x1 x2 y0 y1 y2
        obtain ⟨W5, hW5⟩ : ∃ W, w4.alloc (.cells #[.int .i64 0, .int .i64 0, .string ⟨#[]⟩, .int .i64 0, .slice none 0 0] TX (0, 0)) = W := ⟨_, rfl⟩
        obtain ⟨g1, b5, g3⟩ := varX w4 zeroX (.slice ae me ce) W5 hW5
        have HG5 := Lib.hid g1
        have HW5 := Lib.hid hW5
        obtain ⟨w5, hw5⟩ : ∃ X, W5.setRow w4.heap.size #[.int .i64 zeroX.k, .int .i64 zeroX.o, .string zeroX.s, .int .i64 zeroX.v, .slice ae me ce] = X := ⟨_, rfl⟩
        rw [hw5] at b5 g3
        have HB5 := Lib.hid (HB4.out.trans (b5.mono HB4.out.size))
        have Xe_5 := Lib.hid (KA.carry Xe_4.out b5)
        have ZV_5 := Lib.hid (LxV.carry ZV_4.out b5)
        have ZT_5 := Lib.hid (TabJ.below ZT_4.out b5)
        have Zx_5 := Lib.hid (OpAt.later Zx_4.out b5)
        have Zy_5 := Lib.hid (OpAt.later Zy_4.out b5)
        have Ze_5 := Lib.hid g3
        have HV5 := Lib.hid hw5
        clear hW5 g1 g3 hw5 b5
        try simp only [exV]
        go_wp2_with (rw [HW5.out]; refine wpList_store_row rfl TX (.tmp 8) (.tmp 41) rfl w4.heap.size #[.int .i64 zeroX.k, .int .i64 zeroX.o, .string zeroX.s, .int .i64 zeroX.v, .slice ae me ce] rfl rfl _ _ HG5.out (by kernel_rfl) rfl (by simp [Value.oneCell']) ?_; rw [HV5.out])
        have hC6 := name_any ⟨#[97]⟩ w5
        have HC6 := Lib.hid hC6
        clear hC6
        refine HC6.out.mono ?_
        rintro e w6 ⟨ap, mp, cp, rfl, kp, b6⟩
        have HB6 := Lib.hid (HB5.out.trans (b6.mono HB5.out.size))
        have Xe_6 := Lib.hid (KA.carry Xe_5.out b6)
        have ZV_6 := Lib.hid (LxV.carry ZV_5.out b6)
        have ZT_6 := Lib.hid (TabJ.below ZT_5.out b6)
        have Zx_6 := Lib.hid (OpAt.later Zx_5.out b6)
        have Zy_6 := Lib.hid (OpAt.later Zy_5.out b6)
        have Ze_6 := Lib.hid (AtX.later Ze_5.out b6)
        have Xa_6 := Lib.hid (kp)
        clear b6 HC6 kp
        have hC7 := name_any ⟨#[98]⟩ w6
        have HC7 := Lib.hid hC7
        clear hC7
        go_wp2_with fail
        refine HC7.out.mono ?_
        rintro e w7 ⟨aq, mq, cq, rfl, kq, b7⟩
        have HB7 := Lib.hid (HB6.out.trans (b7.mono HB6.out.size))
        have Xe_7 := Lib.hid (KA.carry Xe_6.out b7)
        have Xa_7 := Lib.hid (KA.carry Xa_6.out b7)
        have ZV_7 := Lib.hid (LxV.carry ZV_6.out b7)
        have ZT_7 := Lib.hid (TabJ.below ZT_6.out b7)
        have Zx_7 := Lib.hid (OpAt.later Zx_6.out b7)
        have Zy_7 := Lib.hid (OpAt.later Zy_6.out b7)
        have Ze_7 := Lib.hid (AtX.later Ze_6.out b7)
        have Xb_7 := Lib.hid (kq)
        clear b7 HC7 kq
        have hC8 := name_any ⟨#[99]⟩ w7
        have HC8 := Lib.hid hC8
        clear hC8
        go_wp2_with fail
        refine HC8.out.mono ?_
        rintro e w8 ⟨ar, mr, cr, rfl, kr, b8⟩
        have HB8 := Lib.hid (HB7.out.trans (b8.mono HB7.out.size))
        have Xe_8 := Lib.hid (KA.carry Xe_7.out b8)
        have Xa_8 := Lib.hid (KA.carry Xa_7.out b8)
        have Xb_8 := Lib.hid (KA.carry Xb_7.out b8)
        have ZV_8 := Lib.hid (LxV.carry ZV_7.out b8)
        have ZT_8 := Lib.hid (TabJ.below ZT_7.out b8)
        have Zx_8 := Lib.hid (OpAt.later Zx_7.out b8)
        have Zy_8 := Lib.hid (OpAt.later Zy_7.out b8)
        have Ze_8 := Lib.hid (AtX.later Ze_7.out b8)
        have Xc_8 := Lib.hid (kr)
        clear b8 HC8 kr
        try simp only [exV]
        obtain ⟨W9, hW9⟩ : ∃ W, ((w8.alloc (.cells #[.int .i64 0, .int .i64 0, .string ⟨#[]⟩, .int .i64 0, .slice none 0 0] TX)).alloc (.cells #[.int .i64 0, .int .i64 0, .string ⟨#[]⟩, .int .i64 0, .slice none 0 0] TX)).alloc (.cells #[.int .i64 0, .int .i64 0, .string ⟨#[]⟩, .int .i64 0, .slice none 0 0] TX) = W := ⟨_, rfl⟩
        obtain ⟨g1, g2⟩ := threeVars w8 xA xB xC (.slice ap mp cp) (.slice aq mq cq) (.slice ar mr cr) W9 hW9
        obtain ⟨U9, hU9⟩ : ∃ X, W9.setRow w8.heap.size #[.int .i64 xA.k, .int .i64 xA.o, .string xA.s, .int .i64 xA.v, .slice ap mp cp] = X := ⟨_, rfl⟩
        obtain ⟨g3, g4⟩ := g2 _ hU9
        obtain ⟨T9, hT9⟩ : ∃ X, U9.setRow (w8.heap.size + 1) #[.int .i64 xB.k, .int .i64 xB.o, .string xB.s, .int .i64 xB.v, .slice aq mq cq] = X := ⟨_, rfl⟩
        obtain ⟨g5, g6⟩ := g4 _ hT9
        obtain ⟨w9, hw9⟩ : ∃ X, T9.setRow (w8.heap.size + 1 + 1) #[.int .i64 xC.k, .int .i64 xC.o, .string xC.s, .int .i64 xC.v, .slice ar mr cr] = X := ⟨_, rfl⟩
        obtain ⟨b9, g7, g8, g9⟩ := g6 _ hw9
        have HB9 := Lib.hid (HB8.out.trans (b9.mono HB8.out.size))
        have Xe_9 := Lib.hid (KA.carry Xe_8.out b9)
        have Xa_9 := Lib.hid (KA.carry Xa_8.out b9)
        have Xb_9 := Lib.hid (KA.carry Xb_8.out b9)
        have Xc_9 := Lib.hid (KA.carry Xc_8.out b9)
        have ZV_9 := Lib.hid (LxV.carry ZV_8.out b9)
        have ZT_9 := Lib.hid (TabJ.below ZT_8.out b9)
        have Zx_9 := Lib.hid (OpAt.later Zx_8.out b9)
        have Zy_9 := Lib.hid (OpAt.later Zy_8.out b9)
        have Ze_9 := Lib.hid (AtX.later Ze_8.out b9)
        have Zp_9 := Lib.hid g7
        have Zq_9 := Lib.hid g8
        have Zr_9 := Lib.hid g9
        have HG1 := Lib.hid g1
        have HG3 := Lib.hid g3
        have HG5 := Lib.hid g5
        have HW9 := Lib.hid hW9
        have HU9 := Lib.hid hU9
        have HT9 := Lib.hid hT9
        have HX9 := Lib.hid hw9
        clear g1 g2 g3 g4 g5 g6 g7 g8 g9 hW9 hU9 hT9 hw9 b9
        obtain ⟨x0, x1, x2⟩ := Zx_9.out
        simp only [Nat.zero_add] at x1 x2
        obtain ⟨y0, y1, y2⟩ := Zy_9.out
        simp only [Nat.zero_add] at y1 y2
        go_wp2_with (first
          | (rw [HW9.out]; refine wpList_store_row rfl TX (.tmp 11) (.tmp 44) rfl (w8.heap.size) #[.int .i64 xA.k, .int .i64 xA.o, .string xA.s, .int .i64 xA.v, .slice ap mp cp] rfl rfl _ _ HG1.out (by kernel_rfl) rfl (by simp [Value.oneCell']) ?_; rw [HU9.out])
          | (refine wpList_store_row rfl TX (.tmp 12) (.tmp 45) rfl (w8.heap.size + 1) #[.int .i64 xB.k, .int .i64 xB.o, .string xB.s, .int .i64 xB.v, .slice aq mq cq] rfl rfl _ _ HG3.out (by kernel_rfl) rfl (by simp [Value.oneCell']) ?_; rw [HT9.out])
          | (refine wpList_store_row rfl TX (.tmp 13) (.tmp 46) rfl (w8.heap.size + 1 + 1) #[.int .i64 xC.k, .int .i64 xC.o, .string xC.s, .int .i64 xC.v, .slice ar mr cr] rfl rfl _ _ HG5.out (by kernel_rfl) rfl (by simp [Value.oneCell']) ?_; rw [HX9.out]))
        clear x0 x1 x2 y0 y1 y2
        have hC10 := awake_any w9 ZV_9.out ZT_9.out
        have HC10 := Lib.hid hC10
        clear hC10
        skip
        refine HC10.out.mono ?_
        rintro e w10 ⟨rfl, b10⟩
        have HB10 := Lib.hid (HB9.out.trans (b10.mono HB9.out.size))
        have Xe_10 := Lib.hid (KA.carry Xe_9.out b10)
        have Xa_10 := Lib.hid (KA.carry Xa_9.out b10)
        have Xb_10 := Lib.hid (KA.carry Xb_9.out b10)
        have Xc_10 := Lib.hid (KA.carry Xc_9.out b10)
        have ZV_10 := Lib.hid (LxV.carry ZV_9.out b10)
        have ZT_10 := Lib.hid (TabJ.below ZT_9.out b10)
        have Zx_10 := Lib.hid (OpAt.later Zx_9.out b10)
        have Zy_10 := Lib.hid (OpAt.later Zy_9.out b10)
        have Ze_10 := Lib.hid (AtX.later Ze_9.out b10)
        have Zp_10 := Lib.hid (AtX.later Zp_9.out b10)
        have Zq_10 := Lib.hid (AtX.later Zq_9.out b10)
        have Zr_10 := Lib.hid (AtX.later Zr_9.out b10)
        clear b10 HC10
        go_wp2
        go_ret
        exact ⟨rfl, HB10.out⟩
      · obtain ⟨p3, p4⟩ := ine h4
        have HEE := Lib.hid (HEQ.out (fun h => h4 h.2))
        by_cases h5 : X.p < Y.p
        · have HPQ : Hid (psF (txG X Y) = (biX X.o xA (biX Y.o xB xC), 0, 0)) := Lib.hid (by rw [HPS.out, wtG, if_neg (fun h => h4 h.2), if_pos h5])
          have HE2 : Hid (equE (biX X.o xA (biX Y.o xB xC)) (biX X.o xA (biX Y.o xB xC)) = true) := Lib.hid (by have := HEE.out; rwa [wtG, if_neg (fun h => h4 h.2), if_pos h5] at this)
          obtain ⟨e, he⟩ : ∃ e, (biX X.o xA (biX Y.o xB xC)) = e := ⟨_, rfl⟩
          have HFE : Hid (fitE e) := Lib.hid (by rw [← he]; simp [fitE, fitL, xA, xB, xC, nmX, biX, ByteArray.size])
          rw [he] at HPQ HE2
          have HEE2 := Lib.hid he
          clear h3 he
          obtain ⟨x0, x1, x2⟩ := Zx_3.out
          simp only [Nat.zero_add] at x1 x2
          obtain ⟨y0, y1, y2⟩ := Zy_3.out
          simp only [Nat.zero_add] at y1 y2
          go_wp2_with fail
          try rw [txG_eq]
          have hC4 := parA (txG X Y) e 0 0 XE hz ZV_3.out ZT_3.out HPQ.out
          have HC4 := Lib.hid hC4
          clear hC4
          refine HC4.out.mono ?_
          rintro e w4 ⟨ae, me, ce, rfl, ke, b4⟩
          have HB4 := Lib.hid (HB3.out.trans (b4.mono HB3.out.size))
          have ZV_4 := Lib.hid (LxV.carry ZV_3.out b4)
          have ZT_4 := Lib.hid (TabJ.below ZT_3.out b4)
          have Zx_4 := Lib.hid (OpAt.later Zx_3.out b4)
          have Zy_4 := Lib.hid (OpAt.later Zy_3.out b4)
          have Xe_4 := Lib.hid (ke)
          clear b4 HC4 ke
          try simp only [exV]
          clear x0 x1 x2 y0 y1 y2
          obtain ⟨W5, hW5⟩ : ∃ W, w4.alloc (.cells #[.int .i64 0, .int .i64 0, .string ⟨#[]⟩, .int .i64 0, .slice none 0 0] TX (0, 0)) = W := ⟨_, rfl⟩
          obtain ⟨g1, b5, g3⟩ := varX w4 e (.slice ae me ce) W5 hW5
          have HG5 := Lib.hid g1
          have HW5 := Lib.hid hW5
          obtain ⟨w5, hw5⟩ : ∃ X, W5.setRow w4.heap.size #[.int .i64 e.k, .int .i64 e.o, .string e.s, .int .i64 e.v, .slice ae me ce] = X := ⟨_, rfl⟩
          rw [hw5] at b5 g3
          have HB5 := Lib.hid (HB4.out.trans (b5.mono HB4.out.size))
          have Xe_5 := Lib.hid (KA.carry Xe_4.out b5)
          have ZV_5 := Lib.hid (LxV.carry ZV_4.out b5)
          have ZT_5 := Lib.hid (TabJ.below ZT_4.out b5)
          have Zx_5 := Lib.hid (OpAt.later Zx_4.out b5)
          have Zy_5 := Lib.hid (OpAt.later Zy_4.out b5)
          have Ze_5 := Lib.hid g3
          have HV5 := Lib.hid hw5
          clear hW5 g1 g3 hw5 b5
          try simp only [exV]
          go_wp2_with (rw [HW5.out]; refine wpList_store_row rfl TX (.tmp 8) (.tmp 41) rfl w4.heap.size #[.int .i64 e.k, .int .i64 e.o, .string e.s, .int .i64 e.v, .slice ae me ce] rfl rfl _ _ HG5.out (by kernel_rfl) rfl (by simp [Value.oneCell']) ?_; rw [HV5.out])
          have hC6 := name_any ⟨#[97]⟩ w5
          have HC6 := Lib.hid hC6
          clear hC6
          refine HC6.out.mono ?_
          rintro e w6 ⟨ap, mp, cp, rfl, kp, b6⟩
          have HB6 := Lib.hid (HB5.out.trans (b6.mono HB5.out.size))
          have Xe_6 := Lib.hid (KA.carry Xe_5.out b6)
          have ZV_6 := Lib.hid (LxV.carry ZV_5.out b6)
          have ZT_6 := Lib.hid (TabJ.below ZT_5.out b6)
          have Zx_6 := Lib.hid (OpAt.later Zx_5.out b6)
          have Zy_6 := Lib.hid (OpAt.later Zy_5.out b6)
          have Ze_6 := Lib.hid (AtX.later Ze_5.out b6)
          have Xa_6 := Lib.hid (kp)
          clear b6 HC6 kp
          have hC7 := name_any ⟨#[98]⟩ w6
          have HC7 := Lib.hid hC7
          clear hC7
          go_wp2_with fail
          refine HC7.out.mono ?_
          rintro e w7 ⟨aq, mq, cq, rfl, kq, b7⟩
          have HB7 := Lib.hid (HB6.out.trans (b7.mono HB6.out.size))
          have Xe_7 := Lib.hid (KA.carry Xe_6.out b7)
          have Xa_7 := Lib.hid (KA.carry Xa_6.out b7)
          have ZV_7 := Lib.hid (LxV.carry ZV_6.out b7)
          have ZT_7 := Lib.hid (TabJ.below ZT_6.out b7)
          have Zx_7 := Lib.hid (OpAt.later Zx_6.out b7)
          have Zy_7 := Lib.hid (OpAt.later Zy_6.out b7)
          have Ze_7 := Lib.hid (AtX.later Ze_6.out b7)
          have Xb_7 := Lib.hid (kq)
          clear b7 HC7 kq
          have hC8 := name_any ⟨#[99]⟩ w7
          have HC8 := Lib.hid hC8
          clear hC8
          go_wp2_with fail
          refine HC8.out.mono ?_
          rintro e w8 ⟨ar, mr, cr, rfl, kr, b8⟩
          have HB8 := Lib.hid (HB7.out.trans (b8.mono HB7.out.size))
          have Xe_8 := Lib.hid (KA.carry Xe_7.out b8)
          have Xa_8 := Lib.hid (KA.carry Xa_7.out b8)
          have Xb_8 := Lib.hid (KA.carry Xb_7.out b8)
          have ZV_8 := Lib.hid (LxV.carry ZV_7.out b8)
          have ZT_8 := Lib.hid (TabJ.below ZT_7.out b8)
          have Zx_8 := Lib.hid (OpAt.later Zx_7.out b8)
          have Zy_8 := Lib.hid (OpAt.later Zy_7.out b8)
          have Ze_8 := Lib.hid (AtX.later Ze_7.out b8)
          have Xc_8 := Lib.hid (kr)
          clear b8 HC8 kr
          try simp only [exV]
          obtain ⟨W9, hW9⟩ : ∃ W, ((w8.alloc (.cells #[.int .i64 0, .int .i64 0, .string ⟨#[]⟩, .int .i64 0, .slice none 0 0] TX)).alloc (.cells #[.int .i64 0, .int .i64 0, .string ⟨#[]⟩, .int .i64 0, .slice none 0 0] TX)).alloc (.cells #[.int .i64 0, .int .i64 0, .string ⟨#[]⟩, .int .i64 0, .slice none 0 0] TX) = W := ⟨_, rfl⟩
          obtain ⟨g1, g2⟩ := threeVars w8 xA xB xC (.slice ap mp cp) (.slice aq mq cq) (.slice ar mr cr) W9 hW9
          obtain ⟨U9, hU9⟩ : ∃ X, W9.setRow w8.heap.size #[.int .i64 xA.k, .int .i64 xA.o, .string xA.s, .int .i64 xA.v, .slice ap mp cp] = X := ⟨_, rfl⟩
          obtain ⟨g3, g4⟩ := g2 _ hU9
          obtain ⟨T9, hT9⟩ : ∃ X, U9.setRow (w8.heap.size + 1) #[.int .i64 xB.k, .int .i64 xB.o, .string xB.s, .int .i64 xB.v, .slice aq mq cq] = X := ⟨_, rfl⟩
          obtain ⟨g5, g6⟩ := g4 _ hT9
          obtain ⟨w9, hw9⟩ : ∃ X, T9.setRow (w8.heap.size + 1 + 1) #[.int .i64 xC.k, .int .i64 xC.o, .string xC.s, .int .i64 xC.v, .slice ar mr cr] = X := ⟨_, rfl⟩
          obtain ⟨b9, g7, g8, g9⟩ := g6 _ hw9
          have HB9 := Lib.hid (HB8.out.trans (b9.mono HB8.out.size))
          have Xe_9 := Lib.hid (KA.carry Xe_8.out b9)
          have Xa_9 := Lib.hid (KA.carry Xa_8.out b9)
          have Xb_9 := Lib.hid (KA.carry Xb_8.out b9)
          have Xc_9 := Lib.hid (KA.carry Xc_8.out b9)
          have ZV_9 := Lib.hid (LxV.carry ZV_8.out b9)
          have ZT_9 := Lib.hid (TabJ.below ZT_8.out b9)
          have Zx_9 := Lib.hid (OpAt.later Zx_8.out b9)
          have Zy_9 := Lib.hid (OpAt.later Zy_8.out b9)
          have Ze_9 := Lib.hid (AtX.later Ze_8.out b9)
          have Zp_9 := Lib.hid g7
          have Zq_9 := Lib.hid g8
          have Zr_9 := Lib.hid g9
          have HG1 := Lib.hid g1
          have HG3 := Lib.hid g3
          have HG5 := Lib.hid g5
          have HW9 := Lib.hid hW9
          have HU9 := Lib.hid hU9
          have HT9 := Lib.hid hT9
          have HX9 := Lib.hid hw9
          clear g1 g2 g3 g4 g5 g6 g7 g8 g9 hW9 hU9 hT9 hw9 b9
          obtain ⟨x0, x1, x2⟩ := Zx_9.out
          simp only [Nat.zero_add] at x1 x2
          obtain ⟨y0, y1, y2⟩ := Zy_9.out
          simp only [Nat.zero_add] at y1 y2
          go_wp2_with (first
            | (rw [HW9.out]; refine wpList_store_row rfl TX (.tmp 11) (.tmp 44) rfl (w8.heap.size) #[.int .i64 xA.k, .int .i64 xA.o, .string xA.s, .int .i64 xA.v, .slice ap mp cp] rfl rfl _ _ HG1.out (by kernel_rfl) rfl (by simp [Value.oneCell']) ?_; rw [HU9.out])
            | (refine wpList_store_row rfl TX (.tmp 12) (.tmp 45) rfl (w8.heap.size + 1) #[.int .i64 xB.k, .int .i64 xB.o, .string xB.s, .int .i64 xB.v, .slice aq mq cq] rfl rfl _ _ HG3.out (by kernel_rfl) rfl (by simp [Value.oneCell']) ?_; rw [HT9.out])
            | (refine wpList_store_row rfl TX (.tmp 13) (.tmp 46) rfl (w8.heap.size + 1 + 1) #[.int .i64 xC.k, .int .i64 xC.o, .string xC.s, .int .i64 xC.v, .slice ar mr cr] rfl rfl _ _ HG5.out (by kernel_rfl) rfl (by simp [Value.oneCell']) ?_; rw [HX9.out]))
          clear x0 x1 x2 y0 y1 y2
          have Zxo_9 := Lib.hid (show w9.cell? ⟨XD.heap.size, 1, none⟩ = some (.int .i64 X.o) from by have := Zx_9.out.2.1; rwa [Nat.zero_add] at this)
          have Zyo_9 := Lib.hid (show w9.cell? ⟨XD.heap.size + 1, 1, none⟩ = some (.int .i64 Y.o) from by have := Zy_9.out.2.1; rwa [Nat.zero_add] at this)
          refine wp_region_held (S := fun w' => AtX w' (w4.heap.size) (0) e (.slice ae me ce) ∧ AtX w' (w8.heap.size) (0) xA (.slice ap mp cp) ∧ AtX w' (w8.heap.size + 1) (0) xB (.slice aq mq cq) ∧ AtX w' (w8.heap.size + 1 + 1) (0) xC (.slice ar mr cr) ∧ w'.cell? ⟨XD.heap.size, 1, none⟩ = some (.int .i64 X.o) ∧ w'.cell? ⟨XD.heap.size + 1, 1, none⟩ = some (.int .i64 Y.o)) (by kernel_rfl) ?_
          change wpAnyH _ _ _ _ _ _ _ _ w9.drew
          obtain ⟨w10, hw10⟩ : ∃ W, w9.drew = W := ⟨_, rfl⟩
          have b10 : Below w9.heap.size w9 w10 := by rw [← hw10]; exact (Below.refl _ _).drew
          have HB10 := Lib.hid (HB9.out.trans (b10.mono HB9.out.size))
          have Xe_10 := Lib.hid (KA.carry Xe_9.out b10)
          have Xa_10 := Lib.hid (KA.carry Xa_9.out b10)
          have Xb_10 := Lib.hid (KA.carry Xb_9.out b10)
          have Xc_10 := Lib.hid (KA.carry Xc_9.out b10)
          have ZV_10 := Lib.hid (LxV.carry ZV_9.out b10)
          have ZT_10 := Lib.hid (TabJ.below ZT_9.out b10)
          have Zx_10 := Lib.hid (OpAt.later Zx_9.out b10)
          have Zy_10 := Lib.hid (OpAt.later Zy_9.out b10)
          have Ze_10 := Lib.hid (AtX.later Ze_9.out b10)
          have Zp_10 := Lib.hid (AtX.later Zp_9.out b10)
          have Zq_10 := Lib.hid (AtX.later Zq_9.out b10)
          have Zr_10 := Lib.hid (AtX.later Zr_9.out b10)
          have Zxo_10 := Lib.hid (cell_lat Zxo_9.out b10)
          have Zyo_10 := Lib.hid (cell_lat Zyo_9.out b10)
          rw [hw10]
          have HDR10 := Lib.hid b10
          clear b10 hw10
          refine wpAnyH_read (i := 0) (v := .int .i64 0) rfl (by kernel_rfl) (by kernel_rfl) (by kernel_rfl) (fun _ _ _ h => h) (by rfl) (fun _ _ => rfl) (⟨Ze_10.out, Zp_10.out, Zq_10.out, Zr_10.out, Zxo_10.out, Zyo_10.out⟩) ?_
          simp only [Act.put, List.setIfInBounds_toArray, List.set_cons_zero, List.set_cons_succ]
          refine wpAnyH_read (i := 1) (v := .bool true) rfl (by kernel_rfl) (by kernel_rfl) (by kernel_rfl) (fun _ _ _ h => h) (by rfl) (fun _ _ => rfl) (⟨Ze_10.out, Zp_10.out, Zq_10.out, Zr_10.out, Zxo_10.out, Zyo_10.out⟩) ?_
          simp only [Act.put, List.setIfInBounds_toArray, List.set_cons_zero, List.set_cons_succ]
          refine wpAnyH_read (i := 2) (v := .bool true) rfl (by kernel_rfl) (by kernel_rfl) (by kernel_rfl) (fun _ _ _ h => h) (by rfl) (fun _ _ => rfl) (⟨Ze_10.out, Zp_10.out, Zq_10.out, Zr_10.out, Zxo_10.out, Zyo_10.out⟩) ?_
          simp only [Act.put, List.setIfInBounds_toArray, List.set_cons_zero, List.set_cons_succ]
          refine wpAnyH_read (i := 3) (v := .agg #[.int .i64 e.k, .int .i64 e.o, .string e.s, .int .i64 e.v, (.slice ae me ce)]) rfl (by kernel_rfl) (by kernel_rfl) (by kernel_rfl) (fun _ _ _ h => h) (by rfl) (by rintro V ⟨⟨r00, r01, r02, r03, r04⟩, ⟨r10, r11, r12, r13, r14⟩, ⟨r20, r21, r22, r23, r24⟩, ⟨r30, r31, r32, r33, r34⟩, z0, z1⟩; simp only [Nat.zero_add] at r01 r02 r03 r04; go_simp) (⟨Ze_10.out, Zp_10.out, Zq_10.out, Zr_10.out, Zxo_10.out, Zyo_10.out⟩) ?_
          simp only [Act.put, List.setIfInBounds_toArray, List.set_cons_zero, List.set_cons_succ]
          refine wpAnyH_read (i := 4) (v := .pointer (some ⟨XD.heap.size, 1, none⟩)) rfl (by kernel_rfl) (by kernel_rfl) (by kernel_rfl) (fun _ _ _ h => h) (by rfl) (fun _ _ => rfl) (⟨Ze_10.out, Zp_10.out, Zq_10.out, Zr_10.out, Zxo_10.out, Zyo_10.out⟩) ?_
          simp only [Act.put, List.setIfInBounds_toArray, List.set_cons_zero, List.set_cons_succ]
          refine wpAnyH_read (i := 5) (v := .int .i64 X.o) rfl (by kernel_rfl) (by kernel_rfl) (by kernel_rfl) (fun _ _ _ h => h) (by rfl) (by rintro V ⟨⟨r00, r01, r02, r03, r04⟩, ⟨r10, r11, r12, r13, r14⟩, ⟨r20, r21, r22, r23, r24⟩, ⟨r30, r31, r32, r33, r34⟩, z0, z1⟩; go_simp) (⟨Ze_10.out, Zp_10.out, Zq_10.out, Zr_10.out, Zxo_10.out, Zyo_10.out⟩) ?_
          simp only [Act.put, List.setIfInBounds_toArray, List.set_cons_zero, List.set_cons_succ]
          refine wpAnyH_read (i := 6) (v := .agg #[.int .i64 xA.k, .int .i64 xA.o, .string xA.s, .int .i64 xA.v, (.slice ap mp cp)]) rfl (by kernel_rfl) (by kernel_rfl) (by kernel_rfl) (fun _ _ _ h => h) (by rfl) (by rintro V ⟨⟨r00, r01, r02, r03, r04⟩, ⟨r10, r11, r12, r13, r14⟩, ⟨r20, r21, r22, r23, r24⟩, ⟨r30, r31, r32, r33, r34⟩, z0, z1⟩; simp only [Nat.zero_add] at r11 r12 r13 r14; go_simp) (⟨Ze_10.out, Zp_10.out, Zq_10.out, Zr_10.out, Zxo_10.out, Zyo_10.out⟩) ?_
          simp only [Act.put, List.setIfInBounds_toArray, List.set_cons_zero, List.set_cons_succ]
          refine wpAnyH_read (i := 7) (v := .pointer (some ⟨XD.heap.size + 1, 1, none⟩)) rfl (by kernel_rfl) (by kernel_rfl) (by kernel_rfl) (fun _ _ _ h => h) (by rfl) (fun _ _ => rfl) (⟨Ze_10.out, Zp_10.out, Zq_10.out, Zr_10.out, Zxo_10.out, Zyo_10.out⟩) ?_
          simp only [Act.put, List.setIfInBounds_toArray, List.set_cons_zero, List.set_cons_succ]
          refine wpAnyH_read (i := 8) (v := .int .i64 Y.o) rfl (by kernel_rfl) (by kernel_rfl) (by kernel_rfl) (fun _ _ _ h => h) (by rfl) (by rintro V ⟨⟨r00, r01, r02, r03, r04⟩, ⟨r10, r11, r12, r13, r14⟩, ⟨r20, r21, r22, r23, r24⟩, ⟨r30, r31, r32, r33, r34⟩, z0, z1⟩; go_simp) (⟨Ze_10.out, Zp_10.out, Zq_10.out, Zr_10.out, Zxo_10.out, Zyo_10.out⟩) ?_
          simp only [Act.put, List.setIfInBounds_toArray, List.set_cons_zero, List.set_cons_succ]
          refine wpAnyH_read (i := 9) (v := .agg #[.int .i64 xB.k, .int .i64 xB.o, .string xB.s, .int .i64 xB.v, (.slice aq mq cq)]) rfl (by kernel_rfl) (by kernel_rfl) (by kernel_rfl) (fun _ _ _ h => h) (by rfl) (by rintro V ⟨⟨r00, r01, r02, r03, r04⟩, ⟨r10, r11, r12, r13, r14⟩, ⟨r20, r21, r22, r23, r24⟩, ⟨r30, r31, r32, r33, r34⟩, z0, z1⟩; simp only [Nat.zero_add] at r21 r22 r23 r24; go_simp) (⟨Ze_10.out, Zp_10.out, Zq_10.out, Zr_10.out, Zxo_10.out, Zyo_10.out⟩) ?_
          simp only [Act.put, List.setIfInBounds_toArray, List.set_cons_zero, List.set_cons_succ]
          refine wpAnyH_read (i := 10) (v := .agg #[.int .i64 xC.k, .int .i64 xC.o, .string xC.s, .int .i64 xC.v, (.slice ar mr cr)]) rfl (by kernel_rfl) (by kernel_rfl) (by kernel_rfl) (fun _ _ _ h => h) (by rfl) (by rintro V ⟨⟨r00, r01, r02, r03, r04⟩, ⟨r10, r11, r12, r13, r14⟩, ⟨r20, r21, r22, r23, r24⟩, ⟨r30, r31, r32, r33, r34⟩, z0, z1⟩; simp only [Nat.zero_add] at r31 r32 r33 r34; go_simp) (⟨Ze_10.out, Zp_10.out, Zq_10.out, Zr_10.out, Zxo_10.out, Zyo_10.out⟩) ?_
          simp only [Act.put, List.setIfInBounds_toArray, List.set_cons_zero, List.set_cons_succ]
          refine wpAnyH_next (i := 11) rfl (by kernel_rfl) ?_
          have hC11 := binary_any Y.o xB xC aq mq cq ar mr cr w10 Xb_10.out Xc_10.out
          simp only [exV] at hC11
          have HC11 := Lib.hid hC11
          clear hC11
          go_wp2_with fail
          refine HC11.out.mono ?_
          rintro e w11 ⟨as_, ms, cs, rfl, ks, b11⟩
          have HB11 := Lib.hid (HB10.out.trans (b11.mono HB10.out.size))
          have Xe_11 := Lib.hid (KA.carry Xe_10.out b11)
          have Xa_11 := Lib.hid (KA.carry Xa_10.out b11)
          have Xb_11 := Lib.hid (KA.carry Xb_10.out b11)
          have Xc_11 := Lib.hid (KA.carry Xc_10.out b11)
          have ZV_11 := Lib.hid (LxV.carry ZV_10.out b11)
          have ZT_11 := Lib.hid (TabJ.below ZT_10.out b11)
          have Zx_11 := Lib.hid (OpAt.later Zx_10.out b11)
          have Zy_11 := Lib.hid (OpAt.later Zy_10.out b11)
          have Ze_11 := Lib.hid (AtX.later Ze_10.out b11)
          have Zp_11 := Lib.hid (AtX.later Zp_10.out b11)
          have Zq_11 := Lib.hid (AtX.later Zq_10.out b11)
          have Zr_11 := Lib.hid (AtX.later Zr_10.out b11)
          have Zxo_11 := Lib.hid (cell_lat Zxo_10.out b11)
          have Zyo_11 := Lib.hid (cell_lat Zyo_10.out b11)
          have Xs_11 := Lib.hid (ks)
          clear b11 HC11 ks
          try simp only [exV]
          go_wp2_with fail
          refine ⟨⟨Ze_11.out, Zp_11.out, Zq_11.out, Zr_11.out, Zxo_11.out, Zyo_11.out⟩, ?_⟩
          refine wpAnyH_next (i := 12) rfl (by kernel_rfl) ?_
          have hC12 := binary_any X.o xA (biX Y.o xB xC) ap mp cp as_ ms cs w11 Xa_11.out Xs_11.out
          simp only [exV] at hC12
          have HC12 := Lib.hid hC12
          clear hC12
          go_wp2_with fail
          refine HC12.out.mono ?_
          rintro e w12 ⟨at_, mt, ct, rfl, kt, b12⟩
          have HB12 := Lib.hid (HB11.out.trans (b12.mono HB11.out.size))
          have Xe_12 := Lib.hid (KA.carry Xe_11.out b12)
          have Xa_12 := Lib.hid (KA.carry Xa_11.out b12)
          have Xb_12 := Lib.hid (KA.carry Xb_11.out b12)
          have Xc_12 := Lib.hid (KA.carry Xc_11.out b12)
          have Xs_12 := Lib.hid (KA.carry Xs_11.out b12)
          have ZV_12 := Lib.hid (LxV.carry ZV_11.out b12)
          have ZT_12 := Lib.hid (TabJ.below ZT_11.out b12)
          have Zx_12 := Lib.hid (OpAt.later Zx_11.out b12)
          have Zy_12 := Lib.hid (OpAt.later Zy_11.out b12)
          have Ze_12 := Lib.hid (AtX.later Ze_11.out b12)
          have Zp_12 := Lib.hid (AtX.later Zp_11.out b12)
          have Zq_12 := Lib.hid (AtX.later Zq_11.out b12)
          have Zr_12 := Lib.hid (AtX.later Zr_11.out b12)
          have Zxo_12 := Lib.hid (cell_lat Zxo_11.out b12)
          have Zyo_12 := Lib.hid (cell_lat Zyo_11.out b12)
          have Xt_12 := Lib.hid (kt)
          clear b12 HC12 kt
          try simp only [exV]
          go_wp2_with fail
          refine ⟨⟨Ze_12.out, Zp_12.out, Zq_12.out, Zr_12.out, Zxo_12.out, Zyo_12.out⟩, ?_⟩
          refine wpAnyH_next (i := 13) rfl (by kernel_rfl) ?_
          have hC13 := rEqual_any e (biX X.o xA (biX Y.o xB xC)) (.slice ae me ce) (.slice at_ mt ct) w12 Xe_12.out Xt_12.out HFE.out (by rw [HEE2.out]; exact HFE.out)
          rw [show equE e (biX X.o xA (biX Y.o xB xC)) = true from by rw [HEE2.out]; exact HE2.out] at hC13
          simp only [exV] at hC13
          have HC13 := Lib.hid hC13
          clear hC13
          go_wp2_with fail
          refine HC13.out.mono ?_
          rintro e w13 ⟨rfl, b13⟩
          have HB13 := Lib.hid (HB12.out.trans (b13.mono HB12.out.size))
          have Xe_13 := Lib.hid (KA.carry Xe_12.out b13)
          have Xa_13 := Lib.hid (KA.carry Xa_12.out b13)
          have Xb_13 := Lib.hid (KA.carry Xb_12.out b13)
          have Xc_13 := Lib.hid (KA.carry Xc_12.out b13)
          have Xs_13 := Lib.hid (KA.carry Xs_12.out b13)
          have Xt_13 := Lib.hid (KA.carry Xt_12.out b13)
          have ZV_13 := Lib.hid (LxV.carry ZV_12.out b13)
          have ZT_13 := Lib.hid (TabJ.below ZT_12.out b13)
          have Zx_13 := Lib.hid (OpAt.later Zx_12.out b13)
          have Zy_13 := Lib.hid (OpAt.later Zy_12.out b13)
          have Ze_13 := Lib.hid (AtX.later Ze_12.out b13)
          have Zp_13 := Lib.hid (AtX.later Zp_12.out b13)
          have Zq_13 := Lib.hid (AtX.later Zq_12.out b13)
          have Zr_13 := Lib.hid (AtX.later Zr_12.out b13)
          have Zxo_13 := Lib.hid (cell_lat Zxo_12.out b13)
          have Zyo_13 := Lib.hid (cell_lat Zyo_12.out b13)
          clear b13 HC13
          try simp only [exV]
          go_wp2_with fail
          refine ⟨⟨Ze_13.out, Zp_13.out, Zq_13.out, Zr_13.out, Zxo_13.out, Zyo_13.out⟩, ?_⟩
          refine wpAnyH_read (i := 14) (v := .bool true) rfl (by kernel_rfl) (by kernel_rfl) (by kernel_rfl) (fun _ _ _ h => h) (by rfl) (fun _ _ => rfl) (⟨Ze_13.out, Zp_13.out, Zq_13.out, Zr_13.out, Zxo_13.out, Zyo_13.out⟩) ?_
          simp only [Act.put, List.setIfInBounds_toArray, List.set_cons_zero, List.set_cons_succ]
          refine wpAnyH_read (i := 15) (v := .bool true) rfl (by kernel_rfl) (by kernel_rfl) (by kernel_rfl) (fun _ _ _ h => h) (by rfl) (fun _ _ => rfl) (⟨Ze_13.out, Zp_13.out, Zq_13.out, Zr_13.out, Zxo_13.out, Zyo_13.out⟩) ?_
          simp only [Act.put, List.setIfInBounds_toArray, List.set_cons_zero, List.set_cons_succ]
          refine wpAnyH_next (i := 16) rfl (by kernel_rfl) ?_
          have hC14 := awake_any w13 ZV_13.out ZT_13.out
          have HC14 := Lib.hid hC14
          clear hC14
          go_wp2_with fail
          refine HC14.out.mono ?_
          rintro e w14 ⟨rfl, b14⟩
          have HB14 := Lib.hid (HB13.out.trans (b14.mono HB13.out.size))
          have Xe_14 := Lib.hid (KA.carry Xe_13.out b14)
          have Xa_14 := Lib.hid (KA.carry Xa_13.out b14)
          have Xb_14 := Lib.hid (KA.carry Xb_13.out b14)
          have Xc_14 := Lib.hid (KA.carry Xc_13.out b14)
          have Xs_14 := Lib.hid (KA.carry Xs_13.out b14)
          have Xt_14 := Lib.hid (KA.carry Xt_13.out b14)
          have ZV_14 := Lib.hid (LxV.carry ZV_13.out b14)
          have ZT_14 := Lib.hid (TabJ.below ZT_13.out b14)
          have Zx_14 := Lib.hid (OpAt.later Zx_13.out b14)
          have Zy_14 := Lib.hid (OpAt.later Zy_13.out b14)
          have Ze_14 := Lib.hid (AtX.later Ze_13.out b14)
          have Zp_14 := Lib.hid (AtX.later Zp_13.out b14)
          have Zq_14 := Lib.hid (AtX.later Zq_13.out b14)
          have Zr_14 := Lib.hid (AtX.later Zr_13.out b14)
          have Zxo_14 := Lib.hid (cell_lat Zxo_13.out b14)
          have Zyo_14 := Lib.hid (cell_lat Zyo_13.out b14)
          clear b14 HC14
          try simp only [exV]
          go_wp2_with fail
          refine ⟨⟨Ze_14.out, Zp_14.out, Zq_14.out, Zr_14.out, Zxo_14.out, Zyo_14.out⟩, ?_⟩
          refine wpAnyH_read (i := 17) (v := .bool true) rfl (by kernel_rfl) (by kernel_rfl) (by kernel_rfl) (fun _ _ _ h => h) (by rfl) (fun _ _ => rfl) (⟨Ze_14.out, Zp_14.out, Zq_14.out, Zr_14.out, Zxo_14.out, Zyo_14.out⟩) ?_
          simp only [Act.put, List.setIfInBounds_toArray, List.set_cons_zero, List.set_cons_succ]
          refine wpAnyH_next (i := 18) rfl (by kernel_rfl) ?_
          go_wp2_with fail
          refine ⟨⟨Ze_14.out, Zp_14.out, Zq_14.out, Zr_14.out, Zxo_14.out, Zyo_14.out⟩, ?_⟩
          refine wpAnyH_done (by kernel_rfl) ?_ _
          go_wp2
          go_ret
          exact ⟨rfl, HB14.out⟩
        · have HPQ : Hid (psF (txG X Y) = (biX Y.o (biX X.o xA xB) xC, 0, 0)) := Lib.hid (by rw [HPS.out, wtG, if_neg (fun h => h4 h.2), if_neg h5])
          have HE2 : Hid (equE (biX Y.o (biX X.o xA xB) xC) (biX Y.o (biX X.o xA xB) xC) = true) := Lib.hid (by have := HEE.out; rwa [wtG, if_neg (fun h => h4 h.2), if_neg h5] at this)
          obtain ⟨e, he⟩ : ∃ e, (biX Y.o (biX X.o xA xB) xC) = e := ⟨_, rfl⟩
          have HFE : Hid (fitE e) := Lib.hid (by rw [← he]; simp [fitE, fitL, xA, xB, xC, nmX, biX, ByteArray.size])
          rw [he] at HPQ HE2
          have HEE2 := Lib.hid he
          clear h3 he
          obtain ⟨x0, x1, x2⟩ := Zx_3.out
          simp only [Nat.zero_add] at x1 x2
          obtain ⟨y0, y1, y2⟩ := Zy_3.out
          simp only [Nat.zero_add] at y1 y2
          go_wp2_with fail
          try rw [txG_eq]
          have hC4 := parA (txG X Y) e 0 0 XE hz ZV_3.out ZT_3.out HPQ.out
          have HC4 := Lib.hid hC4
          clear hC4
          refine HC4.out.mono ?_
          rintro e w4 ⟨ae, me, ce, rfl, ke, b4⟩
          have HB4 := Lib.hid (HB3.out.trans (b4.mono HB3.out.size))
          have ZV_4 := Lib.hid (LxV.carry ZV_3.out b4)
          have ZT_4 := Lib.hid (TabJ.below ZT_3.out b4)
          have Zx_4 := Lib.hid (OpAt.later Zx_3.out b4)
          have Zy_4 := Lib.hid (OpAt.later Zy_3.out b4)
          have Xe_4 := Lib.hid (ke)
          clear b4 HC4 ke
          try simp only [exV]
          clear x0 x1 x2 y0 y1 y2
          obtain ⟨W5, hW5⟩ : ∃ W, w4.alloc (.cells #[.int .i64 0, .int .i64 0, .string ⟨#[]⟩, .int .i64 0, .slice none 0 0] TX (0, 0)) = W := ⟨_, rfl⟩
          obtain ⟨g1, b5, g3⟩ := varX w4 e (.slice ae me ce) W5 hW5
          have HG5 := Lib.hid g1
          have HW5 := Lib.hid hW5
          obtain ⟨w5, hw5⟩ : ∃ X, W5.setRow w4.heap.size #[.int .i64 e.k, .int .i64 e.o, .string e.s, .int .i64 e.v, .slice ae me ce] = X := ⟨_, rfl⟩
          rw [hw5] at b5 g3
          have HB5 := Lib.hid (HB4.out.trans (b5.mono HB4.out.size))
          have Xe_5 := Lib.hid (KA.carry Xe_4.out b5)
          have ZV_5 := Lib.hid (LxV.carry ZV_4.out b5)
          have ZT_5 := Lib.hid (TabJ.below ZT_4.out b5)
          have Zx_5 := Lib.hid (OpAt.later Zx_4.out b5)
          have Zy_5 := Lib.hid (OpAt.later Zy_4.out b5)
          have Ze_5 := Lib.hid g3
          have HV5 := Lib.hid hw5
          clear hW5 g1 g3 hw5 b5
          try simp only [exV]
          go_wp2_with (rw [HW5.out]; refine wpList_store_row rfl TX (.tmp 8) (.tmp 41) rfl w4.heap.size #[.int .i64 e.k, .int .i64 e.o, .string e.s, .int .i64 e.v, .slice ae me ce] rfl rfl _ _ HG5.out (by kernel_rfl) rfl (by simp [Value.oneCell']) ?_; rw [HV5.out])
          have hC6 := name_any ⟨#[97]⟩ w5
          have HC6 := Lib.hid hC6
          clear hC6
          refine HC6.out.mono ?_
          rintro e w6 ⟨ap, mp, cp, rfl, kp, b6⟩
          have HB6 := Lib.hid (HB5.out.trans (b6.mono HB5.out.size))
          have Xe_6 := Lib.hid (KA.carry Xe_5.out b6)
          have ZV_6 := Lib.hid (LxV.carry ZV_5.out b6)
          have ZT_6 := Lib.hid (TabJ.below ZT_5.out b6)
          have Zx_6 := Lib.hid (OpAt.later Zx_5.out b6)
          have Zy_6 := Lib.hid (OpAt.later Zy_5.out b6)
          have Ze_6 := Lib.hid (AtX.later Ze_5.out b6)
          have Xa_6 := Lib.hid (kp)
          clear b6 HC6 kp
          have hC7 := name_any ⟨#[98]⟩ w6
          have HC7 := Lib.hid hC7
          clear hC7
          go_wp2_with fail
          refine HC7.out.mono ?_
          rintro e w7 ⟨aq, mq, cq, rfl, kq, b7⟩
          have HB7 := Lib.hid (HB6.out.trans (b7.mono HB6.out.size))
          have Xe_7 := Lib.hid (KA.carry Xe_6.out b7)
          have Xa_7 := Lib.hid (KA.carry Xa_6.out b7)
          have ZV_7 := Lib.hid (LxV.carry ZV_6.out b7)
          have ZT_7 := Lib.hid (TabJ.below ZT_6.out b7)
          have Zx_7 := Lib.hid (OpAt.later Zx_6.out b7)
          have Zy_7 := Lib.hid (OpAt.later Zy_6.out b7)
          have Ze_7 := Lib.hid (AtX.later Ze_6.out b7)
          have Xb_7 := Lib.hid (kq)
          clear b7 HC7 kq
          have hC8 := name_any ⟨#[99]⟩ w7
          have HC8 := Lib.hid hC8
          clear hC8
          go_wp2_with fail
          refine HC8.out.mono ?_
          rintro e w8 ⟨ar, mr, cr, rfl, kr, b8⟩
          have HB8 := Lib.hid (HB7.out.trans (b8.mono HB7.out.size))
          have Xe_8 := Lib.hid (KA.carry Xe_7.out b8)
          have Xa_8 := Lib.hid (KA.carry Xa_7.out b8)
          have Xb_8 := Lib.hid (KA.carry Xb_7.out b8)
          have ZV_8 := Lib.hid (LxV.carry ZV_7.out b8)
          have ZT_8 := Lib.hid (TabJ.below ZT_7.out b8)
          have Zx_8 := Lib.hid (OpAt.later Zx_7.out b8)
          have Zy_8 := Lib.hid (OpAt.later Zy_7.out b8)
          have Ze_8 := Lib.hid (AtX.later Ze_7.out b8)
          have Xc_8 := Lib.hid (kr)
          clear b8 HC8 kr
          try simp only [exV]
          obtain ⟨W9, hW9⟩ : ∃ W, ((w8.alloc (.cells #[.int .i64 0, .int .i64 0, .string ⟨#[]⟩, .int .i64 0, .slice none 0 0] TX)).alloc (.cells #[.int .i64 0, .int .i64 0, .string ⟨#[]⟩, .int .i64 0, .slice none 0 0] TX)).alloc (.cells #[.int .i64 0, .int .i64 0, .string ⟨#[]⟩, .int .i64 0, .slice none 0 0] TX) = W := ⟨_, rfl⟩
          obtain ⟨g1, g2⟩ := threeVars w8 xA xB xC (.slice ap mp cp) (.slice aq mq cq) (.slice ar mr cr) W9 hW9
          obtain ⟨U9, hU9⟩ : ∃ X, W9.setRow w8.heap.size #[.int .i64 xA.k, .int .i64 xA.o, .string xA.s, .int .i64 xA.v, .slice ap mp cp] = X := ⟨_, rfl⟩
          obtain ⟨g3, g4⟩ := g2 _ hU9
          obtain ⟨T9, hT9⟩ : ∃ X, U9.setRow (w8.heap.size + 1) #[.int .i64 xB.k, .int .i64 xB.o, .string xB.s, .int .i64 xB.v, .slice aq mq cq] = X := ⟨_, rfl⟩
          obtain ⟨g5, g6⟩ := g4 _ hT9
          obtain ⟨w9, hw9⟩ : ∃ X, T9.setRow (w8.heap.size + 1 + 1) #[.int .i64 xC.k, .int .i64 xC.o, .string xC.s, .int .i64 xC.v, .slice ar mr cr] = X := ⟨_, rfl⟩
          obtain ⟨b9, g7, g8, g9⟩ := g6 _ hw9
          have HB9 := Lib.hid (HB8.out.trans (b9.mono HB8.out.size))
          have Xe_9 := Lib.hid (KA.carry Xe_8.out b9)
          have Xa_9 := Lib.hid (KA.carry Xa_8.out b9)
          have Xb_9 := Lib.hid (KA.carry Xb_8.out b9)
          have Xc_9 := Lib.hid (KA.carry Xc_8.out b9)
          have ZV_9 := Lib.hid (LxV.carry ZV_8.out b9)
          have ZT_9 := Lib.hid (TabJ.below ZT_8.out b9)
          have Zx_9 := Lib.hid (OpAt.later Zx_8.out b9)
          have Zy_9 := Lib.hid (OpAt.later Zy_8.out b9)
          have Ze_9 := Lib.hid (AtX.later Ze_8.out b9)
          have Zp_9 := Lib.hid g7
          have Zq_9 := Lib.hid g8
          have Zr_9 := Lib.hid g9
          have HG1 := Lib.hid g1
          have HG3 := Lib.hid g3
          have HG5 := Lib.hid g5
          have HW9 := Lib.hid hW9
          have HU9 := Lib.hid hU9
          have HT9 := Lib.hid hT9
          have HX9 := Lib.hid hw9
          clear g1 g2 g3 g4 g5 g6 g7 g8 g9 hW9 hU9 hT9 hw9 b9
          obtain ⟨x0, x1, x2⟩ := Zx_9.out
          simp only [Nat.zero_add] at x1 x2
          obtain ⟨y0, y1, y2⟩ := Zy_9.out
          simp only [Nat.zero_add] at y1 y2
          go_wp2_with (first
            | (rw [HW9.out]; refine wpList_store_row rfl TX (.tmp 11) (.tmp 44) rfl (w8.heap.size) #[.int .i64 xA.k, .int .i64 xA.o, .string xA.s, .int .i64 xA.v, .slice ap mp cp] rfl rfl _ _ HG1.out (by kernel_rfl) rfl (by simp [Value.oneCell']) ?_; rw [HU9.out])
            | (refine wpList_store_row rfl TX (.tmp 12) (.tmp 45) rfl (w8.heap.size + 1) #[.int .i64 xB.k, .int .i64 xB.o, .string xB.s, .int .i64 xB.v, .slice aq mq cq] rfl rfl _ _ HG3.out (by kernel_rfl) rfl (by simp [Value.oneCell']) ?_; rw [HT9.out])
            | (refine wpList_store_row rfl TX (.tmp 13) (.tmp 46) rfl (w8.heap.size + 1 + 1) #[.int .i64 xC.k, .int .i64 xC.o, .string xC.s, .int .i64 xC.v, .slice ar mr cr] rfl rfl _ _ HG5.out (by kernel_rfl) rfl (by simp [Value.oneCell']) ?_; rw [HX9.out]))
          clear x0 x1 x2 y0 y1 y2
          have Zxo_9 := Lib.hid (show w9.cell? ⟨XD.heap.size, 1, none⟩ = some (.int .i64 X.o) from by have := Zx_9.out.2.1; rwa [Nat.zero_add] at this)
          have Zyo_9 := Lib.hid (show w9.cell? ⟨XD.heap.size + 1, 1, none⟩ = some (.int .i64 Y.o) from by have := Zy_9.out.2.1; rwa [Nat.zero_add] at this)
          refine wp_region_held (S := fun w' => AtX w' (w4.heap.size) (0) e (.slice ae me ce) ∧ AtX w' (w8.heap.size) (0) xA (.slice ap mp cp) ∧ AtX w' (w8.heap.size + 1) (0) xB (.slice aq mq cq) ∧ AtX w' (w8.heap.size + 1 + 1) (0) xC (.slice ar mr cr) ∧ w'.cell? ⟨XD.heap.size, 1, none⟩ = some (.int .i64 X.o) ∧ w'.cell? ⟨XD.heap.size + 1, 1, none⟩ = some (.int .i64 Y.o)) (by kernel_rfl) ?_
          change wpAnyH _ _ _ _ _ _ _ _ w9.drew
          obtain ⟨w10, hw10⟩ : ∃ W, w9.drew = W := ⟨_, rfl⟩
          have b10 : Below w9.heap.size w9 w10 := by rw [← hw10]; exact (Below.refl _ _).drew
          have HB10 := Lib.hid (HB9.out.trans (b10.mono HB9.out.size))
          have Xe_10 := Lib.hid (KA.carry Xe_9.out b10)
          have Xa_10 := Lib.hid (KA.carry Xa_9.out b10)
          have Xb_10 := Lib.hid (KA.carry Xb_9.out b10)
          have Xc_10 := Lib.hid (KA.carry Xc_9.out b10)
          have ZV_10 := Lib.hid (LxV.carry ZV_9.out b10)
          have ZT_10 := Lib.hid (TabJ.below ZT_9.out b10)
          have Zx_10 := Lib.hid (OpAt.later Zx_9.out b10)
          have Zy_10 := Lib.hid (OpAt.later Zy_9.out b10)
          have Ze_10 := Lib.hid (AtX.later Ze_9.out b10)
          have Zp_10 := Lib.hid (AtX.later Zp_9.out b10)
          have Zq_10 := Lib.hid (AtX.later Zq_9.out b10)
          have Zr_10 := Lib.hid (AtX.later Zr_9.out b10)
          have Zxo_10 := Lib.hid (cell_lat Zxo_9.out b10)
          have Zyo_10 := Lib.hid (cell_lat Zyo_9.out b10)
          rw [hw10]
          have HDR10 := Lib.hid b10
          clear b10 hw10
          refine wpAnyH_read (i := 0) (v := .int .i64 0) rfl (by kernel_rfl) (by kernel_rfl) (by kernel_rfl) (fun _ _ _ h => h) (by rfl) (fun _ _ => rfl) (⟨Ze_10.out, Zp_10.out, Zq_10.out, Zr_10.out, Zxo_10.out, Zyo_10.out⟩) ?_
          simp only [Act.put, List.setIfInBounds_toArray, List.set_cons_zero, List.set_cons_succ]
          refine wpAnyH_read (i := 1) (v := .bool true) rfl (by kernel_rfl) (by kernel_rfl) (by kernel_rfl) (fun _ _ _ h => h) (by rfl) (fun _ _ => rfl) (⟨Ze_10.out, Zp_10.out, Zq_10.out, Zr_10.out, Zxo_10.out, Zyo_10.out⟩) ?_
          simp only [Act.put, List.setIfInBounds_toArray, List.set_cons_zero, List.set_cons_succ]
          refine wpAnyH_read (i := 2) (v := .bool true) rfl (by kernel_rfl) (by kernel_rfl) (by kernel_rfl) (fun _ _ _ h => h) (by rfl) (fun _ _ => rfl) (⟨Ze_10.out, Zp_10.out, Zq_10.out, Zr_10.out, Zxo_10.out, Zyo_10.out⟩) ?_
          simp only [Act.put, List.setIfInBounds_toArray, List.set_cons_zero, List.set_cons_succ]
          refine wpAnyH_read (i := 3) (v := .agg #[.int .i64 e.k, .int .i64 e.o, .string e.s, .int .i64 e.v, (.slice ae me ce)]) rfl (by kernel_rfl) (by kernel_rfl) (by kernel_rfl) (fun _ _ _ h => h) (by rfl) (by rintro V ⟨⟨r00, r01, r02, r03, r04⟩, ⟨r10, r11, r12, r13, r14⟩, ⟨r20, r21, r22, r23, r24⟩, ⟨r30, r31, r32, r33, r34⟩, z0, z1⟩; simp only [Nat.zero_add] at r01 r02 r03 r04; go_simp) (⟨Ze_10.out, Zp_10.out, Zq_10.out, Zr_10.out, Zxo_10.out, Zyo_10.out⟩) ?_
          simp only [Act.put, List.setIfInBounds_toArray, List.set_cons_zero, List.set_cons_succ]
          refine wpAnyH_read (i := 4) (v := .pointer (some ⟨XD.heap.size + 1, 1, none⟩)) rfl (by kernel_rfl) (by kernel_rfl) (by kernel_rfl) (fun _ _ _ h => h) (by rfl) (fun _ _ => rfl) (⟨Ze_10.out, Zp_10.out, Zq_10.out, Zr_10.out, Zxo_10.out, Zyo_10.out⟩) ?_
          simp only [Act.put, List.setIfInBounds_toArray, List.set_cons_zero, List.set_cons_succ]
          refine wpAnyH_read (i := 5) (v := .int .i64 Y.o) rfl (by kernel_rfl) (by kernel_rfl) (by kernel_rfl) (fun _ _ _ h => h) (by rfl) (by rintro V ⟨⟨r00, r01, r02, r03, r04⟩, ⟨r10, r11, r12, r13, r14⟩, ⟨r20, r21, r22, r23, r24⟩, ⟨r30, r31, r32, r33, r34⟩, z0, z1⟩; go_simp) (⟨Ze_10.out, Zp_10.out, Zq_10.out, Zr_10.out, Zxo_10.out, Zyo_10.out⟩) ?_
          simp only [Act.put, List.setIfInBounds_toArray, List.set_cons_zero, List.set_cons_succ]
          refine wpAnyH_read (i := 6) (v := .pointer (some ⟨XD.heap.size, 1, none⟩)) rfl (by kernel_rfl) (by kernel_rfl) (by kernel_rfl) (fun _ _ _ h => h) (by rfl) (fun _ _ => rfl) (⟨Ze_10.out, Zp_10.out, Zq_10.out, Zr_10.out, Zxo_10.out, Zyo_10.out⟩) ?_
          simp only [Act.put, List.setIfInBounds_toArray, List.set_cons_zero, List.set_cons_succ]
          refine wpAnyH_read (i := 7) (v := .int .i64 X.o) rfl (by kernel_rfl) (by kernel_rfl) (by kernel_rfl) (fun _ _ _ h => h) (by rfl) (by rintro V ⟨⟨r00, r01, r02, r03, r04⟩, ⟨r10, r11, r12, r13, r14⟩, ⟨r20, r21, r22, r23, r24⟩, ⟨r30, r31, r32, r33, r34⟩, z0, z1⟩; go_simp) (⟨Ze_10.out, Zp_10.out, Zq_10.out, Zr_10.out, Zxo_10.out, Zyo_10.out⟩) ?_
          simp only [Act.put, List.setIfInBounds_toArray, List.set_cons_zero, List.set_cons_succ]
          refine wpAnyH_read (i := 8) (v := .agg #[.int .i64 xA.k, .int .i64 xA.o, .string xA.s, .int .i64 xA.v, (.slice ap mp cp)]) rfl (by kernel_rfl) (by kernel_rfl) (by kernel_rfl) (fun _ _ _ h => h) (by rfl) (by rintro V ⟨⟨r00, r01, r02, r03, r04⟩, ⟨r10, r11, r12, r13, r14⟩, ⟨r20, r21, r22, r23, r24⟩, ⟨r30, r31, r32, r33, r34⟩, z0, z1⟩; simp only [Nat.zero_add] at r11 r12 r13 r14; go_simp) (⟨Ze_10.out, Zp_10.out, Zq_10.out, Zr_10.out, Zxo_10.out, Zyo_10.out⟩) ?_
          simp only [Act.put, List.setIfInBounds_toArray, List.set_cons_zero, List.set_cons_succ]
          refine wpAnyH_read (i := 9) (v := .agg #[.int .i64 xB.k, .int .i64 xB.o, .string xB.s, .int .i64 xB.v, (.slice aq mq cq)]) rfl (by kernel_rfl) (by kernel_rfl) (by kernel_rfl) (fun _ _ _ h => h) (by rfl) (by rintro V ⟨⟨r00, r01, r02, r03, r04⟩, ⟨r10, r11, r12, r13, r14⟩, ⟨r20, r21, r22, r23, r24⟩, ⟨r30, r31, r32, r33, r34⟩, z0, z1⟩; simp only [Nat.zero_add] at r21 r22 r23 r24; go_simp) (⟨Ze_10.out, Zp_10.out, Zq_10.out, Zr_10.out, Zxo_10.out, Zyo_10.out⟩) ?_
          simp only [Act.put, List.setIfInBounds_toArray, List.set_cons_zero, List.set_cons_succ]
          refine wpAnyH_read (i := 11) (v := .agg #[.int .i64 xC.k, .int .i64 xC.o, .string xC.s, .int .i64 xC.v, (.slice ar mr cr)]) rfl (by kernel_rfl) (by kernel_rfl) (by kernel_rfl) (fun _ _ _ h => h) (by rfl) (by rintro V ⟨⟨r00, r01, r02, r03, r04⟩, ⟨r10, r11, r12, r13, r14⟩, ⟨r20, r21, r22, r23, r24⟩, ⟨r30, r31, r32, r33, r34⟩, z0, z1⟩; simp only [Nat.zero_add] at r31 r32 r33 r34; go_simp) (⟨Ze_10.out, Zp_10.out, Zq_10.out, Zr_10.out, Zxo_10.out, Zyo_10.out⟩) ?_
          simp only [Act.put, List.setIfInBounds_toArray, List.set_cons_zero, List.set_cons_succ]
          refine wpAnyH_next (i := 10) rfl (by kernel_rfl) ?_
          have hC11 := binary_any X.o xA xB ap mp cp aq mq cq w10 Xa_10.out Xb_10.out
          simp only [exV] at hC11
          have HC11 := Lib.hid hC11
          clear hC11
          go_wp2_with fail
          refine HC11.out.mono ?_
          rintro e w11 ⟨as_, ms, cs, rfl, ks, b11⟩
          have HB11 := Lib.hid (HB10.out.trans (b11.mono HB10.out.size))
          have Xe_11 := Lib.hid (KA.carry Xe_10.out b11)
          have Xa_11 := Lib.hid (KA.carry Xa_10.out b11)
          have Xb_11 := Lib.hid (KA.carry Xb_10.out b11)
          have Xc_11 := Lib.hid (KA.carry Xc_10.out b11)
          have ZV_11 := Lib.hid (LxV.carry ZV_10.out b11)
          have ZT_11 := Lib.hid (TabJ.below ZT_10.out b11)
          have Zx_11 := Lib.hid (OpAt.later Zx_10.out b11)
          have Zy_11 := Lib.hid (OpAt.later Zy_10.out b11)
          have Ze_11 := Lib.hid (AtX.later Ze_10.out b11)
          have Zp_11 := Lib.hid (AtX.later Zp_10.out b11)
          have Zq_11 := Lib.hid (AtX.later Zq_10.out b11)
          have Zr_11 := Lib.hid (AtX.later Zr_10.out b11)
          have Zxo_11 := Lib.hid (cell_lat Zxo_10.out b11)
          have Zyo_11 := Lib.hid (cell_lat Zyo_10.out b11)
          have Xs_11 := Lib.hid (ks)
          clear b11 HC11 ks
          try simp only [exV]
          go_wp2_with fail
          refine ⟨⟨Ze_11.out, Zp_11.out, Zq_11.out, Zr_11.out, Zxo_11.out, Zyo_11.out⟩, ?_⟩
          refine wpAnyH_next (i := 12) rfl (by kernel_rfl) ?_
          have hC12 := binary_any Y.o (biX X.o xA xB) xC as_ ms cs ar mr cr w11 Xs_11.out Xc_11.out
          simp only [exV] at hC12
          have HC12 := Lib.hid hC12
          clear hC12
          go_wp2_with fail
          refine HC12.out.mono ?_
          rintro e w12 ⟨at_, mt, ct, rfl, kt, b12⟩
          have HB12 := Lib.hid (HB11.out.trans (b12.mono HB11.out.size))
          have Xe_12 := Lib.hid (KA.carry Xe_11.out b12)
          have Xa_12 := Lib.hid (KA.carry Xa_11.out b12)
          have Xb_12 := Lib.hid (KA.carry Xb_11.out b12)
          have Xc_12 := Lib.hid (KA.carry Xc_11.out b12)
          have Xs_12 := Lib.hid (KA.carry Xs_11.out b12)
          have ZV_12 := Lib.hid (LxV.carry ZV_11.out b12)
          have ZT_12 := Lib.hid (TabJ.below ZT_11.out b12)
          have Zx_12 := Lib.hid (OpAt.later Zx_11.out b12)
          have Zy_12 := Lib.hid (OpAt.later Zy_11.out b12)
          have Ze_12 := Lib.hid (AtX.later Ze_11.out b12)
          have Zp_12 := Lib.hid (AtX.later Zp_11.out b12)
          have Zq_12 := Lib.hid (AtX.later Zq_11.out b12)
          have Zr_12 := Lib.hid (AtX.later Zr_11.out b12)
          have Zxo_12 := Lib.hid (cell_lat Zxo_11.out b12)
          have Zyo_12 := Lib.hid (cell_lat Zyo_11.out b12)
          have Xt_12 := Lib.hid (kt)
          clear b12 HC12 kt
          try simp only [exV]
          go_wp2_with fail
          refine ⟨⟨Ze_12.out, Zp_12.out, Zq_12.out, Zr_12.out, Zxo_12.out, Zyo_12.out⟩, ?_⟩
          refine wpAnyH_next (i := 13) rfl (by kernel_rfl) ?_
          have hC13 := rEqual_any e (biX Y.o (biX X.o xA xB) xC) (.slice ae me ce) (.slice at_ mt ct) w12 Xe_12.out Xt_12.out HFE.out (by rw [HEE2.out]; exact HFE.out)
          rw [show equE e (biX Y.o (biX X.o xA xB) xC) = true from by rw [HEE2.out]; exact HE2.out] at hC13
          simp only [exV] at hC13
          have HC13 := Lib.hid hC13
          clear hC13
          go_wp2_with fail
          refine HC13.out.mono ?_
          rintro e w13 ⟨rfl, b13⟩
          have HB13 := Lib.hid (HB12.out.trans (b13.mono HB12.out.size))
          have Xe_13 := Lib.hid (KA.carry Xe_12.out b13)
          have Xa_13 := Lib.hid (KA.carry Xa_12.out b13)
          have Xb_13 := Lib.hid (KA.carry Xb_12.out b13)
          have Xc_13 := Lib.hid (KA.carry Xc_12.out b13)
          have Xs_13 := Lib.hid (KA.carry Xs_12.out b13)
          have Xt_13 := Lib.hid (KA.carry Xt_12.out b13)
          have ZV_13 := Lib.hid (LxV.carry ZV_12.out b13)
          have ZT_13 := Lib.hid (TabJ.below ZT_12.out b13)
          have Zx_13 := Lib.hid (OpAt.later Zx_12.out b13)
          have Zy_13 := Lib.hid (OpAt.later Zy_12.out b13)
          have Ze_13 := Lib.hid (AtX.later Ze_12.out b13)
          have Zp_13 := Lib.hid (AtX.later Zp_12.out b13)
          have Zq_13 := Lib.hid (AtX.later Zq_12.out b13)
          have Zr_13 := Lib.hid (AtX.later Zr_12.out b13)
          have Zxo_13 := Lib.hid (cell_lat Zxo_12.out b13)
          have Zyo_13 := Lib.hid (cell_lat Zyo_12.out b13)
          clear b13 HC13
          try simp only [exV]
          go_wp2_with fail
          refine ⟨⟨Ze_13.out, Zp_13.out, Zq_13.out, Zr_13.out, Zxo_13.out, Zyo_13.out⟩, ?_⟩
          refine wpAnyH_read (i := 14) (v := .bool true) rfl (by kernel_rfl) (by kernel_rfl) (by kernel_rfl) (fun _ _ _ h => h) (by rfl) (fun _ _ => rfl) (⟨Ze_13.out, Zp_13.out, Zq_13.out, Zr_13.out, Zxo_13.out, Zyo_13.out⟩) ?_
          simp only [Act.put, List.setIfInBounds_toArray, List.set_cons_zero, List.set_cons_succ]
          refine wpAnyH_read (i := 15) (v := .bool true) rfl (by kernel_rfl) (by kernel_rfl) (by kernel_rfl) (fun _ _ _ h => h) (by rfl) (fun _ _ => rfl) (⟨Ze_13.out, Zp_13.out, Zq_13.out, Zr_13.out, Zxo_13.out, Zyo_13.out⟩) ?_
          simp only [Act.put, List.setIfInBounds_toArray, List.set_cons_zero, List.set_cons_succ]
          refine wpAnyH_next (i := 16) rfl (by kernel_rfl) ?_
          have hC14 := awake_any w13 ZV_13.out ZT_13.out
          have HC14 := Lib.hid hC14
          clear hC14
          go_wp2_with fail
          refine HC14.out.mono ?_
          rintro e w14 ⟨rfl, b14⟩
          have HB14 := Lib.hid (HB13.out.trans (b14.mono HB13.out.size))
          have Xe_14 := Lib.hid (KA.carry Xe_13.out b14)
          have Xa_14 := Lib.hid (KA.carry Xa_13.out b14)
          have Xb_14 := Lib.hid (KA.carry Xb_13.out b14)
          have Xc_14 := Lib.hid (KA.carry Xc_13.out b14)
          have Xs_14 := Lib.hid (KA.carry Xs_13.out b14)
          have Xt_14 := Lib.hid (KA.carry Xt_13.out b14)
          have ZV_14 := Lib.hid (LxV.carry ZV_13.out b14)
          have ZT_14 := Lib.hid (TabJ.below ZT_13.out b14)
          have Zx_14 := Lib.hid (OpAt.later Zx_13.out b14)
          have Zy_14 := Lib.hid (OpAt.later Zy_13.out b14)
          have Ze_14 := Lib.hid (AtX.later Ze_13.out b14)
          have Zp_14 := Lib.hid (AtX.later Zp_13.out b14)
          have Zq_14 := Lib.hid (AtX.later Zq_13.out b14)
          have Zr_14 := Lib.hid (AtX.later Zr_13.out b14)
          have Zxo_14 := Lib.hid (cell_lat Zxo_13.out b14)
          have Zyo_14 := Lib.hid (cell_lat Zyo_13.out b14)
          clear b14 HC14
          try simp only [exV]
          go_wp2_with fail
          refine ⟨⟨Ze_14.out, Zp_14.out, Zq_14.out, Zr_14.out, Zxo_14.out, Zyo_14.out⟩, ?_⟩
          refine wpAnyH_read (i := 17) (v := .bool true) rfl (by kernel_rfl) (by kernel_rfl) (by kernel_rfl) (fun _ _ _ h => h) (by rfl) (fun _ _ => rfl) (⟨Ze_14.out, Zp_14.out, Zq_14.out, Zr_14.out, Zxo_14.out, Zyo_14.out⟩) ?_
          simp only [Act.put, List.setIfInBounds_toArray, List.set_cons_zero, List.set_cons_succ]
          refine wpAnyH_next (i := 18) rfl (by kernel_rfl) ?_
          go_wp2_with fail
          refine ⟨⟨Ze_14.out, Zp_14.out, Zq_14.out, Zr_14.out, Zxo_14.out, Zyo_14.out⟩, ?_⟩
          refine wpAnyH_done (by kernel_rfl) ?_ _
          go_wp2
          go_ret
          exact ⟨rfl, HB14.out⟩
    · obtain ⟨p1, p2⟩ := ine h3
      have HEE := Lib.hid (HEQ.out (fun h => h3 h.1))
      by_cases h5 : X.p < Y.p
      · have HPQ : Hid (psF (txG X Y) = (biX X.o xA (biX Y.o xB xC), 0, 0)) := Lib.hid (by rw [HPS.out, wtG, if_neg (fun h => h3 h.1), if_pos h5])
        have HE2 : Hid (equE (biX X.o xA (biX Y.o xB xC)) (biX X.o xA (biX Y.o xB xC)) = true) := Lib.hid (by have := HEE.out; rwa [wtG, if_neg (fun h => h3 h.1), if_pos h5] at this)
        obtain ⟨e, he⟩ : ∃ e, (biX X.o xA (biX Y.o xB xC)) = e := ⟨_, rfl⟩
        have HFE : Hid (fitE e) := Lib.hid (by rw [← he]; simp [fitE, fitL, xA, xB, xC, nmX, biX, ByteArray.size])
        rw [he] at HPQ HE2
        have HEE2 := Lib.hid he
        clear h3 he
        obtain ⟨x0, x1, x2⟩ := Zx_3.out
        simp only [Nat.zero_add] at x1 x2
        obtain ⟨y0, y1, y2⟩ := Zy_3.out
        simp only [Nat.zero_add] at y1 y2
        go_wp2_with fail
        try rw [txG_eq]
        have hC4 := parA (txG X Y) e 0 0 XE hz ZV_3.out ZT_3.out HPQ.out
        have HC4 := Lib.hid hC4
        clear hC4
        refine HC4.out.mono ?_
        rintro e w4 ⟨ae, me, ce, rfl, ke, b4⟩
        have HB4 := Lib.hid (HB3.out.trans (b4.mono HB3.out.size))
        have ZV_4 := Lib.hid (LxV.carry ZV_3.out b4)
        have ZT_4 := Lib.hid (TabJ.below ZT_3.out b4)
        have Zx_4 := Lib.hid (OpAt.later Zx_3.out b4)
        have Zy_4 := Lib.hid (OpAt.later Zy_3.out b4)
        have Xe_4 := Lib.hid (ke)
        clear b4 HC4 ke
        try simp only [exV]
        clear x0 x1 x2 y0 y1 y2
        obtain ⟨W5, hW5⟩ : ∃ W, w4.alloc (.cells #[.int .i64 0, .int .i64 0, .string ⟨#[]⟩, .int .i64 0, .slice none 0 0] TX (0, 0)) = W := ⟨_, rfl⟩
        obtain ⟨g1, b5, g3⟩ := varX w4 e (.slice ae me ce) W5 hW5
        have HG5 := Lib.hid g1
        have HW5 := Lib.hid hW5
        obtain ⟨w5, hw5⟩ : ∃ X, W5.setRow w4.heap.size #[.int .i64 e.k, .int .i64 e.o, .string e.s, .int .i64 e.v, .slice ae me ce] = X := ⟨_, rfl⟩
        rw [hw5] at b5 g3
        have HB5 := Lib.hid (HB4.out.trans (b5.mono HB4.out.size))
        have Xe_5 := Lib.hid (KA.carry Xe_4.out b5)
        have ZV_5 := Lib.hid (LxV.carry ZV_4.out b5)
        have ZT_5 := Lib.hid (TabJ.below ZT_4.out b5)
        have Zx_5 := Lib.hid (OpAt.later Zx_4.out b5)
        have Zy_5 := Lib.hid (OpAt.later Zy_4.out b5)
        have Ze_5 := Lib.hid g3
        have HV5 := Lib.hid hw5
        clear hW5 g1 g3 hw5 b5
        try simp only [exV]
        go_wp2_with (rw [HW5.out]; refine wpList_store_row rfl TX (.tmp 8) (.tmp 41) rfl w4.heap.size #[.int .i64 e.k, .int .i64 e.o, .string e.s, .int .i64 e.v, .slice ae me ce] rfl rfl _ _ HG5.out (by kernel_rfl) rfl (by simp [Value.oneCell']) ?_; rw [HV5.out])
        have hC6 := name_any ⟨#[97]⟩ w5
        have HC6 := Lib.hid hC6
        clear hC6
        refine HC6.out.mono ?_
        rintro e w6 ⟨ap, mp, cp, rfl, kp, b6⟩
        have HB6 := Lib.hid (HB5.out.trans (b6.mono HB5.out.size))
        have Xe_6 := Lib.hid (KA.carry Xe_5.out b6)
        have ZV_6 := Lib.hid (LxV.carry ZV_5.out b6)
        have ZT_6 := Lib.hid (TabJ.below ZT_5.out b6)
        have Zx_6 := Lib.hid (OpAt.later Zx_5.out b6)
        have Zy_6 := Lib.hid (OpAt.later Zy_5.out b6)
        have Ze_6 := Lib.hid (AtX.later Ze_5.out b6)
        have Xa_6 := Lib.hid (kp)
        clear b6 HC6 kp
        have hC7 := name_any ⟨#[98]⟩ w6
        have HC7 := Lib.hid hC7
        clear hC7
        go_wp2_with fail
        refine HC7.out.mono ?_
        rintro e w7 ⟨aq, mq, cq, rfl, kq, b7⟩
        have HB7 := Lib.hid (HB6.out.trans (b7.mono HB6.out.size))
        have Xe_7 := Lib.hid (KA.carry Xe_6.out b7)
        have Xa_7 := Lib.hid (KA.carry Xa_6.out b7)
        have ZV_7 := Lib.hid (LxV.carry ZV_6.out b7)
        have ZT_7 := Lib.hid (TabJ.below ZT_6.out b7)
        have Zx_7 := Lib.hid (OpAt.later Zx_6.out b7)
        have Zy_7 := Lib.hid (OpAt.later Zy_6.out b7)
        have Ze_7 := Lib.hid (AtX.later Ze_6.out b7)
        have Xb_7 := Lib.hid (kq)
        clear b7 HC7 kq
        have hC8 := name_any ⟨#[99]⟩ w7
        have HC8 := Lib.hid hC8
        clear hC8
        go_wp2_with fail
        refine HC8.out.mono ?_
        rintro e w8 ⟨ar, mr, cr, rfl, kr, b8⟩
        have HB8 := Lib.hid (HB7.out.trans (b8.mono HB7.out.size))
        have Xe_8 := Lib.hid (KA.carry Xe_7.out b8)
        have Xa_8 := Lib.hid (KA.carry Xa_7.out b8)
        have Xb_8 := Lib.hid (KA.carry Xb_7.out b8)
        have ZV_8 := Lib.hid (LxV.carry ZV_7.out b8)
        have ZT_8 := Lib.hid (TabJ.below ZT_7.out b8)
        have Zx_8 := Lib.hid (OpAt.later Zx_7.out b8)
        have Zy_8 := Lib.hid (OpAt.later Zy_7.out b8)
        have Ze_8 := Lib.hid (AtX.later Ze_7.out b8)
        have Xc_8 := Lib.hid (kr)
        clear b8 HC8 kr
        try simp only [exV]
        obtain ⟨W9, hW9⟩ : ∃ W, ((w8.alloc (.cells #[.int .i64 0, .int .i64 0, .string ⟨#[]⟩, .int .i64 0, .slice none 0 0] TX)).alloc (.cells #[.int .i64 0, .int .i64 0, .string ⟨#[]⟩, .int .i64 0, .slice none 0 0] TX)).alloc (.cells #[.int .i64 0, .int .i64 0, .string ⟨#[]⟩, .int .i64 0, .slice none 0 0] TX) = W := ⟨_, rfl⟩
        obtain ⟨g1, g2⟩ := threeVars w8 xA xB xC (.slice ap mp cp) (.slice aq mq cq) (.slice ar mr cr) W9 hW9
        obtain ⟨U9, hU9⟩ : ∃ X, W9.setRow w8.heap.size #[.int .i64 xA.k, .int .i64 xA.o, .string xA.s, .int .i64 xA.v, .slice ap mp cp] = X := ⟨_, rfl⟩
        obtain ⟨g3, g4⟩ := g2 _ hU9
        obtain ⟨T9, hT9⟩ : ∃ X, U9.setRow (w8.heap.size + 1) #[.int .i64 xB.k, .int .i64 xB.o, .string xB.s, .int .i64 xB.v, .slice aq mq cq] = X := ⟨_, rfl⟩
        obtain ⟨g5, g6⟩ := g4 _ hT9
        obtain ⟨w9, hw9⟩ : ∃ X, T9.setRow (w8.heap.size + 1 + 1) #[.int .i64 xC.k, .int .i64 xC.o, .string xC.s, .int .i64 xC.v, .slice ar mr cr] = X := ⟨_, rfl⟩
        obtain ⟨b9, g7, g8, g9⟩ := g6 _ hw9
        have HB9 := Lib.hid (HB8.out.trans (b9.mono HB8.out.size))
        have Xe_9 := Lib.hid (KA.carry Xe_8.out b9)
        have Xa_9 := Lib.hid (KA.carry Xa_8.out b9)
        have Xb_9 := Lib.hid (KA.carry Xb_8.out b9)
        have Xc_9 := Lib.hid (KA.carry Xc_8.out b9)
        have ZV_9 := Lib.hid (LxV.carry ZV_8.out b9)
        have ZT_9 := Lib.hid (TabJ.below ZT_8.out b9)
        have Zx_9 := Lib.hid (OpAt.later Zx_8.out b9)
        have Zy_9 := Lib.hid (OpAt.later Zy_8.out b9)
        have Ze_9 := Lib.hid (AtX.later Ze_8.out b9)
        have Zp_9 := Lib.hid g7
        have Zq_9 := Lib.hid g8
        have Zr_9 := Lib.hid g9
        have HG1 := Lib.hid g1
        have HG3 := Lib.hid g3
        have HG5 := Lib.hid g5
        have HW9 := Lib.hid hW9
        have HU9 := Lib.hid hU9
        have HT9 := Lib.hid hT9
        have HX9 := Lib.hid hw9
        clear g1 g2 g3 g4 g5 g6 g7 g8 g9 hW9 hU9 hT9 hw9 b9
        obtain ⟨x0, x1, x2⟩ := Zx_9.out
        simp only [Nat.zero_add] at x1 x2
        obtain ⟨y0, y1, y2⟩ := Zy_9.out
        simp only [Nat.zero_add] at y1 y2
        go_wp2_with (first
          | (rw [HW9.out]; refine wpList_store_row rfl TX (.tmp 11) (.tmp 44) rfl (w8.heap.size) #[.int .i64 xA.k, .int .i64 xA.o, .string xA.s, .int .i64 xA.v, .slice ap mp cp] rfl rfl _ _ HG1.out (by kernel_rfl) rfl (by simp [Value.oneCell']) ?_; rw [HU9.out])
          | (refine wpList_store_row rfl TX (.tmp 12) (.tmp 45) rfl (w8.heap.size + 1) #[.int .i64 xB.k, .int .i64 xB.o, .string xB.s, .int .i64 xB.v, .slice aq mq cq] rfl rfl _ _ HG3.out (by kernel_rfl) rfl (by simp [Value.oneCell']) ?_; rw [HT9.out])
          | (refine wpList_store_row rfl TX (.tmp 13) (.tmp 46) rfl (w8.heap.size + 1 + 1) #[.int .i64 xC.k, .int .i64 xC.o, .string xC.s, .int .i64 xC.v, .slice ar mr cr] rfl rfl _ _ HG5.out (by kernel_rfl) rfl (by simp [Value.oneCell']) ?_; rw [HX9.out]))
        clear x0 x1 x2 y0 y1 y2
        have Zxo_9 := Lib.hid (show w9.cell? ⟨XD.heap.size, 1, none⟩ = some (.int .i64 X.o) from by have := Zx_9.out.2.1; rwa [Nat.zero_add] at this)
        have Zyo_9 := Lib.hid (show w9.cell? ⟨XD.heap.size + 1, 1, none⟩ = some (.int .i64 Y.o) from by have := Zy_9.out.2.1; rwa [Nat.zero_add] at this)
        refine wp_region_held (S := fun w' => AtX w' (w4.heap.size) (0) e (.slice ae me ce) ∧ AtX w' (w8.heap.size) (0) xA (.slice ap mp cp) ∧ AtX w' (w8.heap.size + 1) (0) xB (.slice aq mq cq) ∧ AtX w' (w8.heap.size + 1 + 1) (0) xC (.slice ar mr cr) ∧ w'.cell? ⟨XD.heap.size, 1, none⟩ = some (.int .i64 X.o) ∧ w'.cell? ⟨XD.heap.size + 1, 1, none⟩ = some (.int .i64 Y.o)) (by kernel_rfl) ?_
        change wpAnyH _ _ _ _ _ _ _ _ w9.drew
        obtain ⟨w10, hw10⟩ : ∃ W, w9.drew = W := ⟨_, rfl⟩
        have b10 : Below w9.heap.size w9 w10 := by rw [← hw10]; exact (Below.refl _ _).drew
        have HB10 := Lib.hid (HB9.out.trans (b10.mono HB9.out.size))
        have Xe_10 := Lib.hid (KA.carry Xe_9.out b10)
        have Xa_10 := Lib.hid (KA.carry Xa_9.out b10)
        have Xb_10 := Lib.hid (KA.carry Xb_9.out b10)
        have Xc_10 := Lib.hid (KA.carry Xc_9.out b10)
        have ZV_10 := Lib.hid (LxV.carry ZV_9.out b10)
        have ZT_10 := Lib.hid (TabJ.below ZT_9.out b10)
        have Zx_10 := Lib.hid (OpAt.later Zx_9.out b10)
        have Zy_10 := Lib.hid (OpAt.later Zy_9.out b10)
        have Ze_10 := Lib.hid (AtX.later Ze_9.out b10)
        have Zp_10 := Lib.hid (AtX.later Zp_9.out b10)
        have Zq_10 := Lib.hid (AtX.later Zq_9.out b10)
        have Zr_10 := Lib.hid (AtX.later Zr_9.out b10)
        have Zxo_10 := Lib.hid (cell_lat Zxo_9.out b10)
        have Zyo_10 := Lib.hid (cell_lat Zyo_9.out b10)
        rw [hw10]
        have HDR10 := Lib.hid b10
        clear b10 hw10
        refine wpAnyH_read (i := 0) (v := .int .i64 0) rfl (by kernel_rfl) (by kernel_rfl) (by kernel_rfl) (fun _ _ _ h => h) (by rfl) (fun _ _ => rfl) (⟨Ze_10.out, Zp_10.out, Zq_10.out, Zr_10.out, Zxo_10.out, Zyo_10.out⟩) ?_
        simp only [Act.put, List.setIfInBounds_toArray, List.set_cons_zero, List.set_cons_succ]
        refine wpAnyH_read (i := 1) (v := .bool true) rfl (by kernel_rfl) (by kernel_rfl) (by kernel_rfl) (fun _ _ _ h => h) (by rfl) (fun _ _ => rfl) (⟨Ze_10.out, Zp_10.out, Zq_10.out, Zr_10.out, Zxo_10.out, Zyo_10.out⟩) ?_
        simp only [Act.put, List.setIfInBounds_toArray, List.set_cons_zero, List.set_cons_succ]
        refine wpAnyH_read (i := 2) (v := .bool true) rfl (by kernel_rfl) (by kernel_rfl) (by kernel_rfl) (fun _ _ _ h => h) (by rfl) (fun _ _ => rfl) (⟨Ze_10.out, Zp_10.out, Zq_10.out, Zr_10.out, Zxo_10.out, Zyo_10.out⟩) ?_
        simp only [Act.put, List.setIfInBounds_toArray, List.set_cons_zero, List.set_cons_succ]
        refine wpAnyH_read (i := 3) (v := .agg #[.int .i64 e.k, .int .i64 e.o, .string e.s, .int .i64 e.v, (.slice ae me ce)]) rfl (by kernel_rfl) (by kernel_rfl) (by kernel_rfl) (fun _ _ _ h => h) (by rfl) (by rintro V ⟨⟨r00, r01, r02, r03, r04⟩, ⟨r10, r11, r12, r13, r14⟩, ⟨r20, r21, r22, r23, r24⟩, ⟨r30, r31, r32, r33, r34⟩, z0, z1⟩; simp only [Nat.zero_add] at r01 r02 r03 r04; go_simp) (⟨Ze_10.out, Zp_10.out, Zq_10.out, Zr_10.out, Zxo_10.out, Zyo_10.out⟩) ?_
        simp only [Act.put, List.setIfInBounds_toArray, List.set_cons_zero, List.set_cons_succ]
        refine wpAnyH_read (i := 4) (v := .pointer (some ⟨XD.heap.size, 1, none⟩)) rfl (by kernel_rfl) (by kernel_rfl) (by kernel_rfl) (fun _ _ _ h => h) (by rfl) (fun _ _ => rfl) (⟨Ze_10.out, Zp_10.out, Zq_10.out, Zr_10.out, Zxo_10.out, Zyo_10.out⟩) ?_
        simp only [Act.put, List.setIfInBounds_toArray, List.set_cons_zero, List.set_cons_succ]
        refine wpAnyH_read (i := 5) (v := .int .i64 X.o) rfl (by kernel_rfl) (by kernel_rfl) (by kernel_rfl) (fun _ _ _ h => h) (by rfl) (by rintro V ⟨⟨r00, r01, r02, r03, r04⟩, ⟨r10, r11, r12, r13, r14⟩, ⟨r20, r21, r22, r23, r24⟩, ⟨r30, r31, r32, r33, r34⟩, z0, z1⟩; go_simp) (⟨Ze_10.out, Zp_10.out, Zq_10.out, Zr_10.out, Zxo_10.out, Zyo_10.out⟩) ?_
        simp only [Act.put, List.setIfInBounds_toArray, List.set_cons_zero, List.set_cons_succ]
        refine wpAnyH_read (i := 6) (v := .agg #[.int .i64 xA.k, .int .i64 xA.o, .string xA.s, .int .i64 xA.v, (.slice ap mp cp)]) rfl (by kernel_rfl) (by kernel_rfl) (by kernel_rfl) (fun _ _ _ h => h) (by rfl) (by rintro V ⟨⟨r00, r01, r02, r03, r04⟩, ⟨r10, r11, r12, r13, r14⟩, ⟨r20, r21, r22, r23, r24⟩, ⟨r30, r31, r32, r33, r34⟩, z0, z1⟩; simp only [Nat.zero_add] at r11 r12 r13 r14; go_simp) (⟨Ze_10.out, Zp_10.out, Zq_10.out, Zr_10.out, Zxo_10.out, Zyo_10.out⟩) ?_
        simp only [Act.put, List.setIfInBounds_toArray, List.set_cons_zero, List.set_cons_succ]
        refine wpAnyH_read (i := 7) (v := .pointer (some ⟨XD.heap.size + 1, 1, none⟩)) rfl (by kernel_rfl) (by kernel_rfl) (by kernel_rfl) (fun _ _ _ h => h) (by rfl) (fun _ _ => rfl) (⟨Ze_10.out, Zp_10.out, Zq_10.out, Zr_10.out, Zxo_10.out, Zyo_10.out⟩) ?_
        simp only [Act.put, List.setIfInBounds_toArray, List.set_cons_zero, List.set_cons_succ]
        refine wpAnyH_read (i := 8) (v := .int .i64 Y.o) rfl (by kernel_rfl) (by kernel_rfl) (by kernel_rfl) (fun _ _ _ h => h) (by rfl) (by rintro V ⟨⟨r00, r01, r02, r03, r04⟩, ⟨r10, r11, r12, r13, r14⟩, ⟨r20, r21, r22, r23, r24⟩, ⟨r30, r31, r32, r33, r34⟩, z0, z1⟩; go_simp) (⟨Ze_10.out, Zp_10.out, Zq_10.out, Zr_10.out, Zxo_10.out, Zyo_10.out⟩) ?_
        simp only [Act.put, List.setIfInBounds_toArray, List.set_cons_zero, List.set_cons_succ]
        refine wpAnyH_read (i := 9) (v := .agg #[.int .i64 xB.k, .int .i64 xB.o, .string xB.s, .int .i64 xB.v, (.slice aq mq cq)]) rfl (by kernel_rfl) (by kernel_rfl) (by kernel_rfl) (fun _ _ _ h => h) (by rfl) (by rintro V ⟨⟨r00, r01, r02, r03, r04⟩, ⟨r10, r11, r12, r13, r14⟩, ⟨r20, r21, r22, r23, r24⟩, ⟨r30, r31, r32, r33, r34⟩, z0, z1⟩; simp only [Nat.zero_add] at r21 r22 r23 r24; go_simp) (⟨Ze_10.out, Zp_10.out, Zq_10.out, Zr_10.out, Zxo_10.out, Zyo_10.out⟩) ?_
        simp only [Act.put, List.setIfInBounds_toArray, List.set_cons_zero, List.set_cons_succ]
        refine wpAnyH_read (i := 10) (v := .agg #[.int .i64 xC.k, .int .i64 xC.o, .string xC.s, .int .i64 xC.v, (.slice ar mr cr)]) rfl (by kernel_rfl) (by kernel_rfl) (by kernel_rfl) (fun _ _ _ h => h) (by rfl) (by rintro V ⟨⟨r00, r01, r02, r03, r04⟩, ⟨r10, r11, r12, r13, r14⟩, ⟨r20, r21, r22, r23, r24⟩, ⟨r30, r31, r32, r33, r34⟩, z0, z1⟩; simp only [Nat.zero_add] at r31 r32 r33 r34; go_simp) (⟨Ze_10.out, Zp_10.out, Zq_10.out, Zr_10.out, Zxo_10.out, Zyo_10.out⟩) ?_
        simp only [Act.put, List.setIfInBounds_toArray, List.set_cons_zero, List.set_cons_succ]
        refine wpAnyH_next (i := 11) rfl (by kernel_rfl) ?_
        have hC11 := binary_any Y.o xB xC aq mq cq ar mr cr w10 Xb_10.out Xc_10.out
        simp only [exV] at hC11
        have HC11 := Lib.hid hC11
        clear hC11
        go_wp2_with fail
        refine HC11.out.mono ?_
        rintro e w11 ⟨as_, ms, cs, rfl, ks, b11⟩
        have HB11 := Lib.hid (HB10.out.trans (b11.mono HB10.out.size))
        have Xe_11 := Lib.hid (KA.carry Xe_10.out b11)
        have Xa_11 := Lib.hid (KA.carry Xa_10.out b11)
        have Xb_11 := Lib.hid (KA.carry Xb_10.out b11)
        have Xc_11 := Lib.hid (KA.carry Xc_10.out b11)
        have ZV_11 := Lib.hid (LxV.carry ZV_10.out b11)
        have ZT_11 := Lib.hid (TabJ.below ZT_10.out b11)
        have Zx_11 := Lib.hid (OpAt.later Zx_10.out b11)
        have Zy_11 := Lib.hid (OpAt.later Zy_10.out b11)
        have Ze_11 := Lib.hid (AtX.later Ze_10.out b11)
        have Zp_11 := Lib.hid (AtX.later Zp_10.out b11)
        have Zq_11 := Lib.hid (AtX.later Zq_10.out b11)
        have Zr_11 := Lib.hid (AtX.later Zr_10.out b11)
        have Zxo_11 := Lib.hid (cell_lat Zxo_10.out b11)
        have Zyo_11 := Lib.hid (cell_lat Zyo_10.out b11)
        have Xs_11 := Lib.hid (ks)
        clear b11 HC11 ks
        try simp only [exV]
        go_wp2_with fail
        refine ⟨⟨Ze_11.out, Zp_11.out, Zq_11.out, Zr_11.out, Zxo_11.out, Zyo_11.out⟩, ?_⟩
        refine wpAnyH_next (i := 12) rfl (by kernel_rfl) ?_
        have hC12 := binary_any X.o xA (biX Y.o xB xC) ap mp cp as_ ms cs w11 Xa_11.out Xs_11.out
        simp only [exV] at hC12
        have HC12 := Lib.hid hC12
        clear hC12
        go_wp2_with fail
        refine HC12.out.mono ?_
        rintro e w12 ⟨at_, mt, ct, rfl, kt, b12⟩
        have HB12 := Lib.hid (HB11.out.trans (b12.mono HB11.out.size))
        have Xe_12 := Lib.hid (KA.carry Xe_11.out b12)
        have Xa_12 := Lib.hid (KA.carry Xa_11.out b12)
        have Xb_12 := Lib.hid (KA.carry Xb_11.out b12)
        have Xc_12 := Lib.hid (KA.carry Xc_11.out b12)
        have Xs_12 := Lib.hid (KA.carry Xs_11.out b12)
        have ZV_12 := Lib.hid (LxV.carry ZV_11.out b12)
        have ZT_12 := Lib.hid (TabJ.below ZT_11.out b12)
        have Zx_12 := Lib.hid (OpAt.later Zx_11.out b12)
        have Zy_12 := Lib.hid (OpAt.later Zy_11.out b12)
        have Ze_12 := Lib.hid (AtX.later Ze_11.out b12)
        have Zp_12 := Lib.hid (AtX.later Zp_11.out b12)
        have Zq_12 := Lib.hid (AtX.later Zq_11.out b12)
        have Zr_12 := Lib.hid (AtX.later Zr_11.out b12)
        have Zxo_12 := Lib.hid (cell_lat Zxo_11.out b12)
        have Zyo_12 := Lib.hid (cell_lat Zyo_11.out b12)
        have Xt_12 := Lib.hid (kt)
        clear b12 HC12 kt
        try simp only [exV]
        go_wp2_with fail
        refine ⟨⟨Ze_12.out, Zp_12.out, Zq_12.out, Zr_12.out, Zxo_12.out, Zyo_12.out⟩, ?_⟩
        refine wpAnyH_next (i := 13) rfl (by kernel_rfl) ?_
        have hC13 := rEqual_any e (biX X.o xA (biX Y.o xB xC)) (.slice ae me ce) (.slice at_ mt ct) w12 Xe_12.out Xt_12.out HFE.out (by rw [HEE2.out]; exact HFE.out)
        rw [show equE e (biX X.o xA (biX Y.o xB xC)) = true from by rw [HEE2.out]; exact HE2.out] at hC13
        simp only [exV] at hC13
        have HC13 := Lib.hid hC13
        clear hC13
        go_wp2_with fail
        refine HC13.out.mono ?_
        rintro e w13 ⟨rfl, b13⟩
        have HB13 := Lib.hid (HB12.out.trans (b13.mono HB12.out.size))
        have Xe_13 := Lib.hid (KA.carry Xe_12.out b13)
        have Xa_13 := Lib.hid (KA.carry Xa_12.out b13)
        have Xb_13 := Lib.hid (KA.carry Xb_12.out b13)
        have Xc_13 := Lib.hid (KA.carry Xc_12.out b13)
        have Xs_13 := Lib.hid (KA.carry Xs_12.out b13)
        have Xt_13 := Lib.hid (KA.carry Xt_12.out b13)
        have ZV_13 := Lib.hid (LxV.carry ZV_12.out b13)
        have ZT_13 := Lib.hid (TabJ.below ZT_12.out b13)
        have Zx_13 := Lib.hid (OpAt.later Zx_12.out b13)
        have Zy_13 := Lib.hid (OpAt.later Zy_12.out b13)
        have Ze_13 := Lib.hid (AtX.later Ze_12.out b13)
        have Zp_13 := Lib.hid (AtX.later Zp_12.out b13)
        have Zq_13 := Lib.hid (AtX.later Zq_12.out b13)
        have Zr_13 := Lib.hid (AtX.later Zr_12.out b13)
        have Zxo_13 := Lib.hid (cell_lat Zxo_12.out b13)
        have Zyo_13 := Lib.hid (cell_lat Zyo_12.out b13)
        clear b13 HC13
        try simp only [exV]
        go_wp2_with fail
        refine ⟨⟨Ze_13.out, Zp_13.out, Zq_13.out, Zr_13.out, Zxo_13.out, Zyo_13.out⟩, ?_⟩
        refine wpAnyH_read (i := 14) (v := .bool true) rfl (by kernel_rfl) (by kernel_rfl) (by kernel_rfl) (fun _ _ _ h => h) (by rfl) (fun _ _ => rfl) (⟨Ze_13.out, Zp_13.out, Zq_13.out, Zr_13.out, Zxo_13.out, Zyo_13.out⟩) ?_
        simp only [Act.put, List.setIfInBounds_toArray, List.set_cons_zero, List.set_cons_succ]
        refine wpAnyH_read (i := 15) (v := .bool true) rfl (by kernel_rfl) (by kernel_rfl) (by kernel_rfl) (fun _ _ _ h => h) (by rfl) (fun _ _ => rfl) (⟨Ze_13.out, Zp_13.out, Zq_13.out, Zr_13.out, Zxo_13.out, Zyo_13.out⟩) ?_
        simp only [Act.put, List.setIfInBounds_toArray, List.set_cons_zero, List.set_cons_succ]
        refine wpAnyH_next (i := 16) rfl (by kernel_rfl) ?_
        have hC14 := awake_any w13 ZV_13.out ZT_13.out
        have HC14 := Lib.hid hC14
        clear hC14
        go_wp2_with fail
        refine HC14.out.mono ?_
        rintro e w14 ⟨rfl, b14⟩
        have HB14 := Lib.hid (HB13.out.trans (b14.mono HB13.out.size))
        have Xe_14 := Lib.hid (KA.carry Xe_13.out b14)
        have Xa_14 := Lib.hid (KA.carry Xa_13.out b14)
        have Xb_14 := Lib.hid (KA.carry Xb_13.out b14)
        have Xc_14 := Lib.hid (KA.carry Xc_13.out b14)
        have Xs_14 := Lib.hid (KA.carry Xs_13.out b14)
        have Xt_14 := Lib.hid (KA.carry Xt_13.out b14)
        have ZV_14 := Lib.hid (LxV.carry ZV_13.out b14)
        have ZT_14 := Lib.hid (TabJ.below ZT_13.out b14)
        have Zx_14 := Lib.hid (OpAt.later Zx_13.out b14)
        have Zy_14 := Lib.hid (OpAt.later Zy_13.out b14)
        have Ze_14 := Lib.hid (AtX.later Ze_13.out b14)
        have Zp_14 := Lib.hid (AtX.later Zp_13.out b14)
        have Zq_14 := Lib.hid (AtX.later Zq_13.out b14)
        have Zr_14 := Lib.hid (AtX.later Zr_13.out b14)
        have Zxo_14 := Lib.hid (cell_lat Zxo_13.out b14)
        have Zyo_14 := Lib.hid (cell_lat Zyo_13.out b14)
        clear b14 HC14
        try simp only [exV]
        go_wp2_with fail
        refine ⟨⟨Ze_14.out, Zp_14.out, Zq_14.out, Zr_14.out, Zxo_14.out, Zyo_14.out⟩, ?_⟩
        refine wpAnyH_read (i := 17) (v := .bool true) rfl (by kernel_rfl) (by kernel_rfl) (by kernel_rfl) (fun _ _ _ h => h) (by rfl) (fun _ _ => rfl) (⟨Ze_14.out, Zp_14.out, Zq_14.out, Zr_14.out, Zxo_14.out, Zyo_14.out⟩) ?_
        simp only [Act.put, List.setIfInBounds_toArray, List.set_cons_zero, List.set_cons_succ]
        refine wpAnyH_next (i := 18) rfl (by kernel_rfl) ?_
        go_wp2_with fail
        refine ⟨⟨Ze_14.out, Zp_14.out, Zq_14.out, Zr_14.out, Zxo_14.out, Zyo_14.out⟩, ?_⟩
        refine wpAnyH_done (by kernel_rfl) ?_ _
        go_wp2
        go_ret
        exact ⟨rfl, HB14.out⟩
      · have HPQ : Hid (psF (txG X Y) = (biX Y.o (biX X.o xA xB) xC, 0, 0)) := Lib.hid (by rw [HPS.out, wtG, if_neg (fun h => h3 h.1), if_neg h5])
        have HE2 : Hid (equE (biX Y.o (biX X.o xA xB) xC) (biX Y.o (biX X.o xA xB) xC) = true) := Lib.hid (by have := HEE.out; rwa [wtG, if_neg (fun h => h3 h.1), if_neg h5] at this)
        obtain ⟨e, he⟩ : ∃ e, (biX Y.o (biX X.o xA xB) xC) = e := ⟨_, rfl⟩
        have HFE : Hid (fitE e) := Lib.hid (by rw [← he]; simp [fitE, fitL, xA, xB, xC, nmX, biX, ByteArray.size])
        rw [he] at HPQ HE2
        have HEE2 := Lib.hid he
        clear h3 he
        obtain ⟨x0, x1, x2⟩ := Zx_3.out
        simp only [Nat.zero_add] at x1 x2
        obtain ⟨y0, y1, y2⟩ := Zy_3.out
        simp only [Nat.zero_add] at y1 y2
        go_wp2_with fail
        try rw [txG_eq]
        have hC4 := parA (txG X Y) e 0 0 XE hz ZV_3.out ZT_3.out HPQ.out
        have HC4 := Lib.hid hC4
        clear hC4
        refine HC4.out.mono ?_
        rintro e w4 ⟨ae, me, ce, rfl, ke, b4⟩
        have HB4 := Lib.hid (HB3.out.trans (b4.mono HB3.out.size))
        have ZV_4 := Lib.hid (LxV.carry ZV_3.out b4)
        have ZT_4 := Lib.hid (TabJ.below ZT_3.out b4)
        have Zx_4 := Lib.hid (OpAt.later Zx_3.out b4)
        have Zy_4 := Lib.hid (OpAt.later Zy_3.out b4)
        have Xe_4 := Lib.hid (ke)
        clear b4 HC4 ke
        try simp only [exV]
        clear x0 x1 x2 y0 y1 y2
        obtain ⟨W5, hW5⟩ : ∃ W, w4.alloc (.cells #[.int .i64 0, .int .i64 0, .string ⟨#[]⟩, .int .i64 0, .slice none 0 0] TX (0, 0)) = W := ⟨_, rfl⟩
        obtain ⟨g1, b5, g3⟩ := varX w4 e (.slice ae me ce) W5 hW5
        have HG5 := Lib.hid g1
        have HW5 := Lib.hid hW5
        obtain ⟨w5, hw5⟩ : ∃ X, W5.setRow w4.heap.size #[.int .i64 e.k, .int .i64 e.o, .string e.s, .int .i64 e.v, .slice ae me ce] = X := ⟨_, rfl⟩
        rw [hw5] at b5 g3
        have HB5 := Lib.hid (HB4.out.trans (b5.mono HB4.out.size))
        have Xe_5 := Lib.hid (KA.carry Xe_4.out b5)
        have ZV_5 := Lib.hid (LxV.carry ZV_4.out b5)
        have ZT_5 := Lib.hid (TabJ.below ZT_4.out b5)
        have Zx_5 := Lib.hid (OpAt.later Zx_4.out b5)
        have Zy_5 := Lib.hid (OpAt.later Zy_4.out b5)
        have Ze_5 := Lib.hid g3
        have HV5 := Lib.hid hw5
        clear hW5 g1 g3 hw5 b5
        try simp only [exV]
        go_wp2_with (rw [HW5.out]; refine wpList_store_row rfl TX (.tmp 8) (.tmp 41) rfl w4.heap.size #[.int .i64 e.k, .int .i64 e.o, .string e.s, .int .i64 e.v, .slice ae me ce] rfl rfl _ _ HG5.out (by kernel_rfl) rfl (by simp [Value.oneCell']) ?_; rw [HV5.out])
        have hC6 := name_any ⟨#[97]⟩ w5
        have HC6 := Lib.hid hC6
        clear hC6
        refine HC6.out.mono ?_
        rintro e w6 ⟨ap, mp, cp, rfl, kp, b6⟩
        have HB6 := Lib.hid (HB5.out.trans (b6.mono HB5.out.size))
        have Xe_6 := Lib.hid (KA.carry Xe_5.out b6)
        have ZV_6 := Lib.hid (LxV.carry ZV_5.out b6)
        have ZT_6 := Lib.hid (TabJ.below ZT_5.out b6)
        have Zx_6 := Lib.hid (OpAt.later Zx_5.out b6)
        have Zy_6 := Lib.hid (OpAt.later Zy_5.out b6)
        have Ze_6 := Lib.hid (AtX.later Ze_5.out b6)
        have Xa_6 := Lib.hid (kp)
        clear b6 HC6 kp
        have hC7 := name_any ⟨#[98]⟩ w6
        have HC7 := Lib.hid hC7
        clear hC7
        go_wp2_with fail
        refine HC7.out.mono ?_
        rintro e w7 ⟨aq, mq, cq, rfl, kq, b7⟩
        have HB7 := Lib.hid (HB6.out.trans (b7.mono HB6.out.size))
        have Xe_7 := Lib.hid (KA.carry Xe_6.out b7)
        have Xa_7 := Lib.hid (KA.carry Xa_6.out b7)
        have ZV_7 := Lib.hid (LxV.carry ZV_6.out b7)
        have ZT_7 := Lib.hid (TabJ.below ZT_6.out b7)
        have Zx_7 := Lib.hid (OpAt.later Zx_6.out b7)
        have Zy_7 := Lib.hid (OpAt.later Zy_6.out b7)
        have Ze_7 := Lib.hid (AtX.later Ze_6.out b7)
        have Xb_7 := Lib.hid (kq)
        clear b7 HC7 kq
        have hC8 := name_any ⟨#[99]⟩ w7
        have HC8 := Lib.hid hC8
        clear hC8
        go_wp2_with fail
        refine HC8.out.mono ?_
        rintro e w8 ⟨ar, mr, cr, rfl, kr, b8⟩
        have HB8 := Lib.hid (HB7.out.trans (b8.mono HB7.out.size))
        have Xe_8 := Lib.hid (KA.carry Xe_7.out b8)
        have Xa_8 := Lib.hid (KA.carry Xa_7.out b8)
        have Xb_8 := Lib.hid (KA.carry Xb_7.out b8)
        have ZV_8 := Lib.hid (LxV.carry ZV_7.out b8)
        have ZT_8 := Lib.hid (TabJ.below ZT_7.out b8)
        have Zx_8 := Lib.hid (OpAt.later Zx_7.out b8)
        have Zy_8 := Lib.hid (OpAt.later Zy_7.out b8)
        have Ze_8 := Lib.hid (AtX.later Ze_7.out b8)
        have Xc_8 := Lib.hid (kr)
        clear b8 HC8 kr
        try simp only [exV]
        obtain ⟨W9, hW9⟩ : ∃ W, ((w8.alloc (.cells #[.int .i64 0, .int .i64 0, .string ⟨#[]⟩, .int .i64 0, .slice none 0 0] TX)).alloc (.cells #[.int .i64 0, .int .i64 0, .string ⟨#[]⟩, .int .i64 0, .slice none 0 0] TX)).alloc (.cells #[.int .i64 0, .int .i64 0, .string ⟨#[]⟩, .int .i64 0, .slice none 0 0] TX) = W := ⟨_, rfl⟩
        obtain ⟨g1, g2⟩ := threeVars w8 xA xB xC (.slice ap mp cp) (.slice aq mq cq) (.slice ar mr cr) W9 hW9
        obtain ⟨U9, hU9⟩ : ∃ X, W9.setRow w8.heap.size #[.int .i64 xA.k, .int .i64 xA.o, .string xA.s, .int .i64 xA.v, .slice ap mp cp] = X := ⟨_, rfl⟩
        obtain ⟨g3, g4⟩ := g2 _ hU9
        obtain ⟨T9, hT9⟩ : ∃ X, U9.setRow (w8.heap.size + 1) #[.int .i64 xB.k, .int .i64 xB.o, .string xB.s, .int .i64 xB.v, .slice aq mq cq] = X := ⟨_, rfl⟩
        obtain ⟨g5, g6⟩ := g4 _ hT9
        obtain ⟨w9, hw9⟩ : ∃ X, T9.setRow (w8.heap.size + 1 + 1) #[.int .i64 xC.k, .int .i64 xC.o, .string xC.s, .int .i64 xC.v, .slice ar mr cr] = X := ⟨_, rfl⟩
        obtain ⟨b9, g7, g8, g9⟩ := g6 _ hw9
        have HB9 := Lib.hid (HB8.out.trans (b9.mono HB8.out.size))
        have Xe_9 := Lib.hid (KA.carry Xe_8.out b9)
        have Xa_9 := Lib.hid (KA.carry Xa_8.out b9)
        have Xb_9 := Lib.hid (KA.carry Xb_8.out b9)
        have Xc_9 := Lib.hid (KA.carry Xc_8.out b9)
        have ZV_9 := Lib.hid (LxV.carry ZV_8.out b9)
        have ZT_9 := Lib.hid (TabJ.below ZT_8.out b9)
        have Zx_9 := Lib.hid (OpAt.later Zx_8.out b9)
        have Zy_9 := Lib.hid (OpAt.later Zy_8.out b9)
        have Ze_9 := Lib.hid (AtX.later Ze_8.out b9)
        have Zp_9 := Lib.hid g7
        have Zq_9 := Lib.hid g8
        have Zr_9 := Lib.hid g9
        have HG1 := Lib.hid g1
        have HG3 := Lib.hid g3
        have HG5 := Lib.hid g5
        have HW9 := Lib.hid hW9
        have HU9 := Lib.hid hU9
        have HT9 := Lib.hid hT9
        have HX9 := Lib.hid hw9
        clear g1 g2 g3 g4 g5 g6 g7 g8 g9 hW9 hU9 hT9 hw9 b9
        obtain ⟨x0, x1, x2⟩ := Zx_9.out
        simp only [Nat.zero_add] at x1 x2
        obtain ⟨y0, y1, y2⟩ := Zy_9.out
        simp only [Nat.zero_add] at y1 y2
        go_wp2_with (first
          | (rw [HW9.out]; refine wpList_store_row rfl TX (.tmp 11) (.tmp 44) rfl (w8.heap.size) #[.int .i64 xA.k, .int .i64 xA.o, .string xA.s, .int .i64 xA.v, .slice ap mp cp] rfl rfl _ _ HG1.out (by kernel_rfl) rfl (by simp [Value.oneCell']) ?_; rw [HU9.out])
          | (refine wpList_store_row rfl TX (.tmp 12) (.tmp 45) rfl (w8.heap.size + 1) #[.int .i64 xB.k, .int .i64 xB.o, .string xB.s, .int .i64 xB.v, .slice aq mq cq] rfl rfl _ _ HG3.out (by kernel_rfl) rfl (by simp [Value.oneCell']) ?_; rw [HT9.out])
          | (refine wpList_store_row rfl TX (.tmp 13) (.tmp 46) rfl (w8.heap.size + 1 + 1) #[.int .i64 xC.k, .int .i64 xC.o, .string xC.s, .int .i64 xC.v, .slice ar mr cr] rfl rfl _ _ HG5.out (by kernel_rfl) rfl (by simp [Value.oneCell']) ?_; rw [HX9.out]))
        clear x0 x1 x2 y0 y1 y2
        have Zxo_9 := Lib.hid (show w9.cell? ⟨XD.heap.size, 1, none⟩ = some (.int .i64 X.o) from by have := Zx_9.out.2.1; rwa [Nat.zero_add] at this)
        have Zyo_9 := Lib.hid (show w9.cell? ⟨XD.heap.size + 1, 1, none⟩ = some (.int .i64 Y.o) from by have := Zy_9.out.2.1; rwa [Nat.zero_add] at this)
        refine wp_region_held (S := fun w' => AtX w' (w4.heap.size) (0) e (.slice ae me ce) ∧ AtX w' (w8.heap.size) (0) xA (.slice ap mp cp) ∧ AtX w' (w8.heap.size + 1) (0) xB (.slice aq mq cq) ∧ AtX w' (w8.heap.size + 1 + 1) (0) xC (.slice ar mr cr) ∧ w'.cell? ⟨XD.heap.size, 1, none⟩ = some (.int .i64 X.o) ∧ w'.cell? ⟨XD.heap.size + 1, 1, none⟩ = some (.int .i64 Y.o)) (by kernel_rfl) ?_
        change wpAnyH _ _ _ _ _ _ _ _ w9.drew
        obtain ⟨w10, hw10⟩ : ∃ W, w9.drew = W := ⟨_, rfl⟩
        have b10 : Below w9.heap.size w9 w10 := by rw [← hw10]; exact (Below.refl _ _).drew
        have HB10 := Lib.hid (HB9.out.trans (b10.mono HB9.out.size))
        have Xe_10 := Lib.hid (KA.carry Xe_9.out b10)
        have Xa_10 := Lib.hid (KA.carry Xa_9.out b10)
        have Xb_10 := Lib.hid (KA.carry Xb_9.out b10)
        have Xc_10 := Lib.hid (KA.carry Xc_9.out b10)
        have ZV_10 := Lib.hid (LxV.carry ZV_9.out b10)
        have ZT_10 := Lib.hid (TabJ.below ZT_9.out b10)
        have Zx_10 := Lib.hid (OpAt.later Zx_9.out b10)
        have Zy_10 := Lib.hid (OpAt.later Zy_9.out b10)
        have Ze_10 := Lib.hid (AtX.later Ze_9.out b10)
        have Zp_10 := Lib.hid (AtX.later Zp_9.out b10)
        have Zq_10 := Lib.hid (AtX.later Zq_9.out b10)
        have Zr_10 := Lib.hid (AtX.later Zr_9.out b10)
        have Zxo_10 := Lib.hid (cell_lat Zxo_9.out b10)
        have Zyo_10 := Lib.hid (cell_lat Zyo_9.out b10)
        rw [hw10]
        have HDR10 := Lib.hid b10
        clear b10 hw10
        refine wpAnyH_read (i := 0) (v := .int .i64 0) rfl (by kernel_rfl) (by kernel_rfl) (by kernel_rfl) (fun _ _ _ h => h) (by rfl) (fun _ _ => rfl) (⟨Ze_10.out, Zp_10.out, Zq_10.out, Zr_10.out, Zxo_10.out, Zyo_10.out⟩) ?_
        simp only [Act.put, List.setIfInBounds_toArray, List.set_cons_zero, List.set_cons_succ]
        refine wpAnyH_read (i := 1) (v := .bool true) rfl (by kernel_rfl) (by kernel_rfl) (by kernel_rfl) (fun _ _ _ h => h) (by rfl) (fun _ _ => rfl) (⟨Ze_10.out, Zp_10.out, Zq_10.out, Zr_10.out, Zxo_10.out, Zyo_10.out⟩) ?_
        simp only [Act.put, List.setIfInBounds_toArray, List.set_cons_zero, List.set_cons_succ]
        refine wpAnyH_read (i := 2) (v := .bool true) rfl (by kernel_rfl) (by kernel_rfl) (by kernel_rfl) (fun _ _ _ h => h) (by rfl) (fun _ _ => rfl) (⟨Ze_10.out, Zp_10.out, Zq_10.out, Zr_10.out, Zxo_10.out, Zyo_10.out⟩) ?_
        simp only [Act.put, List.setIfInBounds_toArray, List.set_cons_zero, List.set_cons_succ]
        refine wpAnyH_read (i := 3) (v := .agg #[.int .i64 e.k, .int .i64 e.o, .string e.s, .int .i64 e.v, (.slice ae me ce)]) rfl (by kernel_rfl) (by kernel_rfl) (by kernel_rfl) (fun _ _ _ h => h) (by rfl) (by rintro V ⟨⟨r00, r01, r02, r03, r04⟩, ⟨r10, r11, r12, r13, r14⟩, ⟨r20, r21, r22, r23, r24⟩, ⟨r30, r31, r32, r33, r34⟩, z0, z1⟩; simp only [Nat.zero_add] at r01 r02 r03 r04; go_simp) (⟨Ze_10.out, Zp_10.out, Zq_10.out, Zr_10.out, Zxo_10.out, Zyo_10.out⟩) ?_
        simp only [Act.put, List.setIfInBounds_toArray, List.set_cons_zero, List.set_cons_succ]
        refine wpAnyH_read (i := 4) (v := .pointer (some ⟨XD.heap.size + 1, 1, none⟩)) rfl (by kernel_rfl) (by kernel_rfl) (by kernel_rfl) (fun _ _ _ h => h) (by rfl) (fun _ _ => rfl) (⟨Ze_10.out, Zp_10.out, Zq_10.out, Zr_10.out, Zxo_10.out, Zyo_10.out⟩) ?_
        simp only [Act.put, List.setIfInBounds_toArray, List.set_cons_zero, List.set_cons_succ]
        refine wpAnyH_read (i := 5) (v := .int .i64 Y.o) rfl (by kernel_rfl) (by kernel_rfl) (by kernel_rfl) (fun _ _ _ h => h) (by rfl) (by rintro V ⟨⟨r00, r01, r02, r03, r04⟩, ⟨r10, r11, r12, r13, r14⟩, ⟨r20, r21, r22, r23, r24⟩, ⟨r30, r31, r32, r33, r34⟩, z0, z1⟩; go_simp) (⟨Ze_10.out, Zp_10.out, Zq_10.out, Zr_10.out, Zxo_10.out, Zyo_10.out⟩) ?_
        simp only [Act.put, List.setIfInBounds_toArray, List.set_cons_zero, List.set_cons_succ]
        refine wpAnyH_read (i := 6) (v := .pointer (some ⟨XD.heap.size, 1, none⟩)) rfl (by kernel_rfl) (by kernel_rfl) (by kernel_rfl) (fun _ _ _ h => h) (by rfl) (fun _ _ => rfl) (⟨Ze_10.out, Zp_10.out, Zq_10.out, Zr_10.out, Zxo_10.out, Zyo_10.out⟩) ?_
        simp only [Act.put, List.setIfInBounds_toArray, List.set_cons_zero, List.set_cons_succ]
        refine wpAnyH_read (i := 7) (v := .int .i64 X.o) rfl (by kernel_rfl) (by kernel_rfl) (by kernel_rfl) (fun _ _ _ h => h) (by rfl) (by rintro V ⟨⟨r00, r01, r02, r03, r04⟩, ⟨r10, r11, r12, r13, r14⟩, ⟨r20, r21, r22, r23, r24⟩, ⟨r30, r31, r32, r33, r34⟩, z0, z1⟩; go_simp) (⟨Ze_10.out, Zp_10.out, Zq_10.out, Zr_10.out, Zxo_10.out, Zyo_10.out⟩) ?_
        simp only [Act.put, List.setIfInBounds_toArray, List.set_cons_zero, List.set_cons_succ]
        refine wpAnyH_read (i := 8) (v := .agg #[.int .i64 xA.k, .int .i64 xA.o, .string xA.s, .int .i64 xA.v, (.slice ap mp cp)]) rfl (by kernel_rfl) (by kernel_rfl) (by kernel_rfl) (fun _ _ _ h => h) (by rfl) (by rintro V ⟨⟨r00, r01, r02, r03, r04⟩, ⟨r10, r11, r12, r13, r14⟩, ⟨r20, r21, r22, r23, r24⟩, ⟨r30, r31, r32, r33, r34⟩, z0, z1⟩; simp only [Nat.zero_add] at r11 r12 r13 r14; go_simp) (⟨Ze_10.out, Zp_10.out, Zq_10.out, Zr_10.out, Zxo_10.out, Zyo_10.out⟩) ?_
        simp only [Act.put, List.setIfInBounds_toArray, List.set_cons_zero, List.set_cons_succ]
        refine wpAnyH_read (i := 9) (v := .agg #[.int .i64 xB.k, .int .i64 xB.o, .string xB.s, .int .i64 xB.v, (.slice aq mq cq)]) rfl (by kernel_rfl) (by kernel_rfl) (by kernel_rfl) (fun _ _ _ h => h) (by rfl) (by rintro V ⟨⟨r00, r01, r02, r03, r04⟩, ⟨r10, r11, r12, r13, r14⟩, ⟨r20, r21, r22, r23, r24⟩, ⟨r30, r31, r32, r33, r34⟩, z0, z1⟩; simp only [Nat.zero_add] at r21 r22 r23 r24; go_simp) (⟨Ze_10.out, Zp_10.out, Zq_10.out, Zr_10.out, Zxo_10.out, Zyo_10.out⟩) ?_
        simp only [Act.put, List.setIfInBounds_toArray, List.set_cons_zero, List.set_cons_succ]
        refine wpAnyH_read (i := 11) (v := .agg #[.int .i64 xC.k, .int .i64 xC.o, .string xC.s, .int .i64 xC.v, (.slice ar mr cr)]) rfl (by kernel_rfl) (by kernel_rfl) (by kernel_rfl) (fun _ _ _ h => h) (by rfl) (by rintro V ⟨⟨r00, r01, r02, r03, r04⟩, ⟨r10, r11, r12, r13, r14⟩, ⟨r20, r21, r22, r23, r24⟩, ⟨r30, r31, r32, r33, r34⟩, z0, z1⟩; simp only [Nat.zero_add] at r31 r32 r33 r34; go_simp) (⟨Ze_10.out, Zp_10.out, Zq_10.out, Zr_10.out, Zxo_10.out, Zyo_10.out⟩) ?_
        simp only [Act.put, List.setIfInBounds_toArray, List.set_cons_zero, List.set_cons_succ]
        refine wpAnyH_next (i := 10) rfl (by kernel_rfl) ?_
        have hC11 := binary_any X.o xA xB ap mp cp aq mq cq w10 Xa_10.out Xb_10.out
        simp only [exV] at hC11
        have HC11 := Lib.hid hC11
        clear hC11
        go_wp2_with fail
        refine HC11.out.mono ?_
        rintro e w11 ⟨as_, ms, cs, rfl, ks, b11⟩
        have HB11 := Lib.hid (HB10.out.trans (b11.mono HB10.out.size))
        have Xe_11 := Lib.hid (KA.carry Xe_10.out b11)
        have Xa_11 := Lib.hid (KA.carry Xa_10.out b11)
        have Xb_11 := Lib.hid (KA.carry Xb_10.out b11)
        have Xc_11 := Lib.hid (KA.carry Xc_10.out b11)
        have ZV_11 := Lib.hid (LxV.carry ZV_10.out b11)
        have ZT_11 := Lib.hid (TabJ.below ZT_10.out b11)
        have Zx_11 := Lib.hid (OpAt.later Zx_10.out b11)
        have Zy_11 := Lib.hid (OpAt.later Zy_10.out b11)
        have Ze_11 := Lib.hid (AtX.later Ze_10.out b11)
        have Zp_11 := Lib.hid (AtX.later Zp_10.out b11)
        have Zq_11 := Lib.hid (AtX.later Zq_10.out b11)
        have Zr_11 := Lib.hid (AtX.later Zr_10.out b11)
        have Zxo_11 := Lib.hid (cell_lat Zxo_10.out b11)
        have Zyo_11 := Lib.hid (cell_lat Zyo_10.out b11)
        have Xs_11 := Lib.hid (ks)
        clear b11 HC11 ks
        try simp only [exV]
        go_wp2_with fail
        refine ⟨⟨Ze_11.out, Zp_11.out, Zq_11.out, Zr_11.out, Zxo_11.out, Zyo_11.out⟩, ?_⟩
        refine wpAnyH_next (i := 12) rfl (by kernel_rfl) ?_
        have hC12 := binary_any Y.o (biX X.o xA xB) xC as_ ms cs ar mr cr w11 Xs_11.out Xc_11.out
        simp only [exV] at hC12
        have HC12 := Lib.hid hC12
        clear hC12
        go_wp2_with fail
        refine HC12.out.mono ?_
        rintro e w12 ⟨at_, mt, ct, rfl, kt, b12⟩
        have HB12 := Lib.hid (HB11.out.trans (b12.mono HB11.out.size))
        have Xe_12 := Lib.hid (KA.carry Xe_11.out b12)
        have Xa_12 := Lib.hid (KA.carry Xa_11.out b12)
        have Xb_12 := Lib.hid (KA.carry Xb_11.out b12)
        have Xc_12 := Lib.hid (KA.carry Xc_11.out b12)
        have Xs_12 := Lib.hid (KA.carry Xs_11.out b12)
        have ZV_12 := Lib.hid (LxV.carry ZV_11.out b12)
        have ZT_12 := Lib.hid (TabJ.below ZT_11.out b12)
        have Zx_12 := Lib.hid (OpAt.later Zx_11.out b12)
        have Zy_12 := Lib.hid (OpAt.later Zy_11.out b12)
        have Ze_12 := Lib.hid (AtX.later Ze_11.out b12)
        have Zp_12 := Lib.hid (AtX.later Zp_11.out b12)
        have Zq_12 := Lib.hid (AtX.later Zq_11.out b12)
        have Zr_12 := Lib.hid (AtX.later Zr_11.out b12)
        have Zxo_12 := Lib.hid (cell_lat Zxo_11.out b12)
        have Zyo_12 := Lib.hid (cell_lat Zyo_11.out b12)
        have Xt_12 := Lib.hid (kt)
        clear b12 HC12 kt
        try simp only [exV]
        go_wp2_with fail
        refine ⟨⟨Ze_12.out, Zp_12.out, Zq_12.out, Zr_12.out, Zxo_12.out, Zyo_12.out⟩, ?_⟩
        refine wpAnyH_next (i := 13) rfl (by kernel_rfl) ?_
        have hC13 := rEqual_any e (biX Y.o (biX X.o xA xB) xC) (.slice ae me ce) (.slice at_ mt ct) w12 Xe_12.out Xt_12.out HFE.out (by rw [HEE2.out]; exact HFE.out)
        rw [show equE e (biX Y.o (biX X.o xA xB) xC) = true from by rw [HEE2.out]; exact HE2.out] at hC13
        simp only [exV] at hC13
        have HC13 := Lib.hid hC13
        clear hC13
        go_wp2_with fail
        refine HC13.out.mono ?_
        rintro e w13 ⟨rfl, b13⟩
        have HB13 := Lib.hid (HB12.out.trans (b13.mono HB12.out.size))
        have Xe_13 := Lib.hid (KA.carry Xe_12.out b13)
        have Xa_13 := Lib.hid (KA.carry Xa_12.out b13)
        have Xb_13 := Lib.hid (KA.carry Xb_12.out b13)
        have Xc_13 := Lib.hid (KA.carry Xc_12.out b13)
        have Xs_13 := Lib.hid (KA.carry Xs_12.out b13)
        have Xt_13 := Lib.hid (KA.carry Xt_12.out b13)
        have ZV_13 := Lib.hid (LxV.carry ZV_12.out b13)
        have ZT_13 := Lib.hid (TabJ.below ZT_12.out b13)
        have Zx_13 := Lib.hid (OpAt.later Zx_12.out b13)
        have Zy_13 := Lib.hid (OpAt.later Zy_12.out b13)
        have Ze_13 := Lib.hid (AtX.later Ze_12.out b13)
        have Zp_13 := Lib.hid (AtX.later Zp_12.out b13)
        have Zq_13 := Lib.hid (AtX.later Zq_12.out b13)
        have Zr_13 := Lib.hid (AtX.later Zr_12.out b13)
        have Zxo_13 := Lib.hid (cell_lat Zxo_12.out b13)
        have Zyo_13 := Lib.hid (cell_lat Zyo_12.out b13)
        clear b13 HC13
        try simp only [exV]
        go_wp2_with fail
        refine ⟨⟨Ze_13.out, Zp_13.out, Zq_13.out, Zr_13.out, Zxo_13.out, Zyo_13.out⟩, ?_⟩
        refine wpAnyH_read (i := 14) (v := .bool true) rfl (by kernel_rfl) (by kernel_rfl) (by kernel_rfl) (fun _ _ _ h => h) (by rfl) (fun _ _ => rfl) (⟨Ze_13.out, Zp_13.out, Zq_13.out, Zr_13.out, Zxo_13.out, Zyo_13.out⟩) ?_
        simp only [Act.put, List.setIfInBounds_toArray, List.set_cons_zero, List.set_cons_succ]
        refine wpAnyH_read (i := 15) (v := .bool true) rfl (by kernel_rfl) (by kernel_rfl) (by kernel_rfl) (fun _ _ _ h => h) (by rfl) (fun _ _ => rfl) (⟨Ze_13.out, Zp_13.out, Zq_13.out, Zr_13.out, Zxo_13.out, Zyo_13.out⟩) ?_
        simp only [Act.put, List.setIfInBounds_toArray, List.set_cons_zero, List.set_cons_succ]
        refine wpAnyH_next (i := 16) rfl (by kernel_rfl) ?_
        have hC14 := awake_any w13 ZV_13.out ZT_13.out
        have HC14 := Lib.hid hC14
        clear hC14
        go_wp2_with fail
        refine HC14.out.mono ?_
        rintro e w14 ⟨rfl, b14⟩
        have HB14 := Lib.hid (HB13.out.trans (b14.mono HB13.out.size))
        have Xe_14 := Lib.hid (KA.carry Xe_13.out b14)
        have Xa_14 := Lib.hid (KA.carry Xa_13.out b14)
        have Xb_14 := Lib.hid (KA.carry Xb_13.out b14)
        have Xc_14 := Lib.hid (KA.carry Xc_13.out b14)
        have Xs_14 := Lib.hid (KA.carry Xs_13.out b14)
        have Xt_14 := Lib.hid (KA.carry Xt_13.out b14)
        have ZV_14 := Lib.hid (LxV.carry ZV_13.out b14)
        have ZT_14 := Lib.hid (TabJ.below ZT_13.out b14)
        have Zx_14 := Lib.hid (OpAt.later Zx_13.out b14)
        have Zy_14 := Lib.hid (OpAt.later Zy_13.out b14)
        have Ze_14 := Lib.hid (AtX.later Ze_13.out b14)
        have Zp_14 := Lib.hid (AtX.later Zp_13.out b14)
        have Zq_14 := Lib.hid (AtX.later Zq_13.out b14)
        have Zr_14 := Lib.hid (AtX.later Zr_13.out b14)
        have Zxo_14 := Lib.hid (cell_lat Zxo_13.out b14)
        have Zyo_14 := Lib.hid (cell_lat Zyo_13.out b14)
        clear b14 HC14
        try simp only [exV]
        go_wp2_with fail
        refine ⟨⟨Ze_14.out, Zp_14.out, Zq_14.out, Zr_14.out, Zxo_14.out, Zyo_14.out⟩, ?_⟩
        refine wpAnyH_read (i := 17) (v := .bool true) rfl (by kernel_rfl) (by kernel_rfl) (by kernel_rfl) (fun _ _ _ h => h) (by rfl) (fun _ _ => rfl) (⟨Ze_14.out, Zp_14.out, Zq_14.out, Zr_14.out, Zxo_14.out, Zyo_14.out⟩) ?_
        simp only [Act.put, List.setIfInBounds_toArray, List.set_cons_zero, List.set_cons_succ]
        refine wpAnyH_next (i := 18) rfl (by kernel_rfl) ?_
        go_wp2_with fail
        refine ⟨⟨Ze_14.out, Zp_14.out, Zq_14.out, Zr_14.out, Zxo_14.out, Zyo_14.out⟩, ?_⟩
        refine wpAnyH_done (by kernel_rfl) ?_ _
        go_wp2
        go_ret
        exact ⟨rfl, HB14.out⟩
  ·
    obtain ⟨XA, hXA⟩ : ∃ V, XD.alloc (.cells #[.string ⟨#[]⟩, .int .i64 0, .int .i64 0] TOg) = V := ⟨_, rfl⟩
    have bXA : Below XD.heap.size XD XA := by rw [← hXA]; exact below_allocW XD _
    have sXA : XA.heap.size = XD.heap.size + 1 := by rw [← hXA]; simp
    have HSA := Lib.hid (show OpAt XA w.heap.size (m * 3) X ∧ OpAt XA w.heap.size (n * 3) Y from ⟨HS.out.1.later bXA, HS.out.2.later bXA⟩)
    obtain ⟨XB, hXB⟩ : ∃ V, XA.alloc (.cells #[.string ⟨#[]⟩, .int .i64 0, .int .i64 0] TOg) = V := ⟨_, rfl⟩
    have bXB : Below XA.heap.size XA XB := by rw [← hXB]; exact below_allocW XA _
    have HSB := Lib.hid (show OpAt XB w.heap.size (m * 3) X ∧ OpAt XB w.heap.size (n * 3) Y from ⟨HSA.out.1.later bXB, HSA.out.2.later bXB⟩)
    obtain ⟨t6, t7⟩ := twoOps XD X Y XB (XD.heap.size + 1) (XD.heap.size) (.inr ⟨rfl, rfl⟩) (by rw [hXA, hXB])
    obtain ⟨XC, hXC⟩ : ∃ V, XB.setRow (XD.heap.size + 1) #[.string X.s, .int .i64 X.o, .int .i64 X.p] = V := ⟨_, rfl⟩
    obtain ⟨bXC, t8, t9⟩ := t7 XC hXC
    obtain ⟨XE, hXE⟩ : ∃ V, XC.setRow (XD.heap.size) #[.string Y.s, .int .i64 Y.o, .int .i64 Y.p] = V := ⟨_, rfl⟩
    obtain ⟨bXE, t10, t11⟩ := t9 XE hXE
    have HSC := Lib.hid (show OpAt XC w.heap.size (m * 3) X ∧ OpAt XC w.heap.size (n * 3) Y from ⟨HS.out.1.later bXC, HS.out.2.later bXC⟩)
    have HSE := Lib.hid (show OpAt XE w.heap.size (m * 3) X ∧ OpAt XE w.heap.size (n * 3) Y from ⟨HS.out.1.later bXE, HS.out.2.later bXE⟩)
    have H6 := Lib.hid t6
    have H7 := Lib.hid t8
    have Zx_3 := Lib.hid t10
    have Zy_3 := Lib.hid t11
    have HB3 := Lib.hid (HB2.out.trans (bXE.mono HB2.out.size))
    have ZV_3 := Lib.hid (LxV.carry ZV_2.out bXE)
    have ZT_3 := Lib.hid (TabJ.below ZT_2.out bXE)
    have HXA := Lib.hid hXA
    have HXB := Lib.hid hXB
    have HXC := Lib.hid hXC
    have HXE := Lib.hid hXE
    have HSZ := Lib.hid sXA
    clear t6 t7 t8 t9 t10 t11 bXA bXB bXC bXE hXA hXB hXC hXE sXA
    go_wp2_with fail
    try rw [HXA.out]
    refine ⟨HSA.out, ?_⟩
    refine wpAnyH_next (i := 16) rfl (by kernel_rfl) ?_
    go_wp2_with fail
    try rw [HXB.out]
    try rw [HSZ.out]
    refine ⟨HSB.out, ?_⟩
    refine wpAnyH_next (i := 18) rfl (by kernel_rfl) ?_
    go_wp2_with (refine wpList_store_row rfl TOg (.tmp 6) (.tmp 22) rfl (XD.heap.size + 1) #[.string X.s, .int .i64 X.o, .int .i64 X.p] rfl rfl _ _ H6.out (by kernel_rfl) rfl (by simp [Value.oneCell']) ?_)
    rw [HXC.out]
    simp only [nextQ]
    refine ⟨HSC.out, ?_⟩
    refine wpAnyH_next (i := 19) rfl (by kernel_rfl) ?_
    go_wp2_with (refine wpList_store_row rfl TOg (.tmp 7) (.tmp 30) rfl (XD.heap.size) #[.string Y.s, .int .i64 Y.o, .int .i64 Y.p] rfl rfl _ _ H7.out (by kernel_rfl) rfl (by simp [Value.oneCell']) ?_)
    rw [HXE.out]
    simp only [nextQ]
    refine ⟨HSE.out, ?_⟩
    refine wpAnyH_done (by kernel_rfl) ?_ _
    have n0 : ¬ 9223372036854775807 < (⟨#[97]⟩ : ByteArray).size + X.s.size := by show ¬ 9223372036854775807 < 1 + X.s.size; omega
    have n1 : ¬ 9223372036854775807 < (⟨#[97]⟩ ++ X.s : ByteArray).size + (⟨#[98]⟩ : ByteArray).size := by rw [ByteArray.size_append]; show ¬ 9223372036854775807 < 1 + X.s.size + 1; omega
    have n2 : ¬ 9223372036854775807 < (⟨#[97]⟩ ++ X.s ++ ⟨#[98]⟩ : ByteArray).size + Y.s.size := by rw [ByteArray.size_append, ByteArray.size_append]; show ¬ 9223372036854775807 < 1 + X.s.size + 1 + Y.s.size; omega
    have n3 : ¬ 9223372036854775807 < (⟨#[97]⟩ ++ X.s ++ ⟨#[98]⟩ ++ Y.s : ByteArray).size + (⟨#[99]⟩ : ByteArray).size := by rw [ByteArray.size_append, ByteArray.size_append, ByteArray.size_append]; show ¬ 9223372036854775807 < 1 + X.s.size + 1 + Y.s.size + 1; omega
    have hz : (txG X Y).size ≤ 9223372036854775807 := by rw [← txG_eq, ByteArray.size_append, ByteArray.size_append, ByteArray.size_append, ByteArray.size_append]; show 1 + X.s.size + 1 + Y.s.size + 1 ≤ _; omega
    by_cases h3 : X.p = 3
    · obtain ⟨p1, p2⟩ := ieq h3
      by_cases h4 : Y.p = 3
      · obtain ⟨p3, p4⟩ := ieq h4
        obtain ⟨I, hI⟩ : ∃ I : Nat, 2 + X.s.size = I := ⟨_, rfl⟩
        have HPQ : Hid (psF (txG X Y) = (zeroX, I, 3)) := Lib.hid (by rw [HPS.out, wtG, if_pos ⟨h3, h4⟩, hI])
        obtain ⟨p5, p6⟩ := ieq (show (I : Int) = 2 + (X.s.size : Int) by omega)
        clear h3 h4 hI
        obtain ⟨x0, x1, x2⟩ := Zx_3.out
        simp only [Nat.zero_add] at x1 x2
        obtain ⟨y0, y1, y2⟩ := Zy_3.out
        simp only [Nat.zero_add] at y1 y2
        go_wp2_with fail
        try rw [txG_eq]
        have hC4 := parA (txG X Y) zeroX I 3 XE hz ZV_3.out ZT_3.out HPQ.out
        have HC4 := Lib.hid hC4
        clear hC4
        refine HC4.out.mono ?_
        rintro e w4 ⟨ae, me, ce, rfl, ke, b4⟩
        have HB4 := Lib.hid (HB3.out.trans (b4.mono HB3.out.size))
        have ZV_4 := Lib.hid (LxV.carry ZV_3.out b4)
        have ZT_4 := Lib.hid (TabJ.below ZT_3.out b4)
        have Zx_4 := Lib.hid (OpAt.later Zx_3.out b4)
        have Zy_4 := Lib.hid (OpAt.later Zy_3.out b4)
        have Xe_4 := Lib.hid (ke)
        clear b4 HC4 ke
        try simp only [exV]
        clear x0 x1 x2 y0 y1 y2
        obtain ⟨W5, hW5⟩ : ∃ W, w4.alloc (.cells #[.int .i64 0, .int .i64 0, .string ⟨#[]⟩, .int .i64 0, .slice none 0 0] TX (0, 0)) = W := ⟨_, rfl⟩
        obtain ⟨g1, b5, g3⟩ := varX w4 zeroX (.slice ae me ce) W5 hW5
        have HG5 := Lib.hid g1
        have HW5 := Lib.hid hW5
        obtain ⟨w5, hw5⟩ : ∃ X, W5.setRow w4.heap.size #[.int .i64 zeroX.k, .int .i64 zeroX.o, .string zeroX.s, .int .i64 zeroX.v, .slice ae me ce] = X := ⟨_, rfl⟩
        rw [hw5] at b5 g3
        have HB5 := Lib.hid (HB4.out.trans (b5.mono HB4.out.size))
        have Xe_5 := Lib.hid (KA.carry Xe_4.out b5)
        have ZV_5 := Lib.hid (LxV.carry ZV_4.out b5)
        have ZT_5 := Lib.hid (TabJ.below ZT_4.out b5)
        have Zx_5 := Lib.hid (OpAt.later Zx_4.out b5)
        have Zy_5 := Lib.hid (OpAt.later Zy_4.out b5)
        have Ze_5 := Lib.hid g3
        have HV5 := Lib.hid hw5
        clear hW5 g1 g3 hw5 b5
        try simp only [exV]
        go_wp2_with (rw [HW5.out]; refine wpList_store_row rfl TX (.tmp 8) (.tmp 41) rfl w4.heap.size #[.int .i64 zeroX.k, .int .i64 zeroX.o, .string zeroX.s, .int .i64 zeroX.v, .slice ae me ce] rfl rfl _ _ HG5.out (by kernel_rfl) rfl (by simp [Value.oneCell']) ?_; rw [HV5.out])
        have hC6 := name_any ⟨#[97]⟩ w5
        have HC6 := Lib.hid hC6
        clear hC6
        refine HC6.out.mono ?_
        rintro e w6 ⟨ap, mp, cp, rfl, kp, b6⟩
        have HB6 := Lib.hid (HB5.out.trans (b6.mono HB5.out.size))
        have Xe_6 := Lib.hid (KA.carry Xe_5.out b6)
        have ZV_6 := Lib.hid (LxV.carry ZV_5.out b6)
        have ZT_6 := Lib.hid (TabJ.below ZT_5.out b6)
        have Zx_6 := Lib.hid (OpAt.later Zx_5.out b6)
        have Zy_6 := Lib.hid (OpAt.later Zy_5.out b6)
        have Ze_6 := Lib.hid (AtX.later Ze_5.out b6)
        have Xa_6 := Lib.hid (kp)
        clear b6 HC6 kp
        have hC7 := name_any ⟨#[98]⟩ w6
        have HC7 := Lib.hid hC7
        clear hC7
        go_wp2_with fail
        refine HC7.out.mono ?_
        rintro e w7 ⟨aq, mq, cq, rfl, kq, b7⟩
        have HB7 := Lib.hid (HB6.out.trans (b7.mono HB6.out.size))
        have Xe_7 := Lib.hid (KA.carry Xe_6.out b7)
        have Xa_7 := Lib.hid (KA.carry Xa_6.out b7)
        have ZV_7 := Lib.hid (LxV.carry ZV_6.out b7)
        have ZT_7 := Lib.hid (TabJ.below ZT_6.out b7)
        have Zx_7 := Lib.hid (OpAt.later Zx_6.out b7)
        have Zy_7 := Lib.hid (OpAt.later Zy_6.out b7)
        have Ze_7 := Lib.hid (AtX.later Ze_6.out b7)
        have Xb_7 := Lib.hid (kq)
        clear b7 HC7 kq
        have hC8 := name_any ⟨#[99]⟩ w7
        have HC8 := Lib.hid hC8
        clear hC8
        go_wp2_with fail
        refine HC8.out.mono ?_
        rintro e w8 ⟨ar, mr, cr, rfl, kr, b8⟩
        have HB8 := Lib.hid (HB7.out.trans (b8.mono HB7.out.size))
        have Xe_8 := Lib.hid (KA.carry Xe_7.out b8)
        have Xa_8 := Lib.hid (KA.carry Xa_7.out b8)
        have Xb_8 := Lib.hid (KA.carry Xb_7.out b8)
        have ZV_8 := Lib.hid (LxV.carry ZV_7.out b8)
        have ZT_8 := Lib.hid (TabJ.below ZT_7.out b8)
        have Zx_8 := Lib.hid (OpAt.later Zx_7.out b8)
        have Zy_8 := Lib.hid (OpAt.later Zy_7.out b8)
        have Ze_8 := Lib.hid (AtX.later Ze_7.out b8)
        have Xc_8 := Lib.hid (kr)
        clear b8 HC8 kr
        try simp only [exV]
        obtain ⟨W9, hW9⟩ : ∃ W, ((w8.alloc (.cells #[.int .i64 0, .int .i64 0, .string ⟨#[]⟩, .int .i64 0, .slice none 0 0] TX)).alloc (.cells #[.int .i64 0, .int .i64 0, .string ⟨#[]⟩, .int .i64 0, .slice none 0 0] TX)).alloc (.cells #[.int .i64 0, .int .i64 0, .string ⟨#[]⟩, .int .i64 0, .slice none 0 0] TX) = W := ⟨_, rfl⟩
        obtain ⟨g1, g2⟩ := threeVars w8 xA xB xC (.slice ap mp cp) (.slice aq mq cq) (.slice ar mr cr) W9 hW9
        obtain ⟨U9, hU9⟩ : ∃ X, W9.setRow w8.heap.size #[.int .i64 xA.k, .int .i64 xA.o, .string xA.s, .int .i64 xA.v, .slice ap mp cp] = X := ⟨_, rfl⟩
        obtain ⟨g3, g4⟩ := g2 _ hU9
        obtain ⟨T9, hT9⟩ : ∃ X, U9.setRow (w8.heap.size + 1) #[.int .i64 xB.k, .int .i64 xB.o, .string xB.s, .int .i64 xB.v, .slice aq mq cq] = X := ⟨_, rfl⟩
        obtain ⟨g5, g6⟩ := g4 _ hT9
        obtain ⟨w9, hw9⟩ : ∃ X, T9.setRow (w8.heap.size + 1 + 1) #[.int .i64 xC.k, .int .i64 xC.o, .string xC.s, .int .i64 xC.v, .slice ar mr cr] = X := ⟨_, rfl⟩
        obtain ⟨b9, g7, g8, g9⟩ := g6 _ hw9
        have HB9 := Lib.hid (HB8.out.trans (b9.mono HB8.out.size))
        have Xe_9 := Lib.hid (KA.carry Xe_8.out b9)
        have Xa_9 := Lib.hid (KA.carry Xa_8.out b9)
        have Xb_9 := Lib.hid (KA.carry Xb_8.out b9)
        have Xc_9 := Lib.hid (KA.carry Xc_8.out b9)
        have ZV_9 := Lib.hid (LxV.carry ZV_8.out b9)
        have ZT_9 := Lib.hid (TabJ.below ZT_8.out b9)
        have Zx_9 := Lib.hid (OpAt.later Zx_8.out b9)
        have Zy_9 := Lib.hid (OpAt.later Zy_8.out b9)
        have Ze_9 := Lib.hid (AtX.later Ze_8.out b9)
        have Zp_9 := Lib.hid g7
        have Zq_9 := Lib.hid g8
        have Zr_9 := Lib.hid g9
        have HG1 := Lib.hid g1
        have HG3 := Lib.hid g3
        have HG5 := Lib.hid g5
        have HW9 := Lib.hid hW9
        have HU9 := Lib.hid hU9
        have HT9 := Lib.hid hT9
        have HX9 := Lib.hid hw9
        clear g1 g2 g3 g4 g5 g6 g7 g8 g9 hW9 hU9 hT9 hw9 b9
        obtain ⟨x0, x1, x2⟩ := Zx_9.out
        simp only [Nat.zero_add] at x1 x2
        obtain ⟨y0, y1, y2⟩ := Zy_9.out
        simp only [Nat.zero_add] at y1 y2
        go_wp2_with (first
          | (rw [HW9.out]; refine wpList_store_row rfl TX (.tmp 11) (.tmp 44) rfl (w8.heap.size) #[.int .i64 xA.k, .int .i64 xA.o, .string xA.s, .int .i64 xA.v, .slice ap mp cp] rfl rfl _ _ HG1.out (by kernel_rfl) rfl (by simp [Value.oneCell']) ?_; rw [HU9.out])
          | (refine wpList_store_row rfl TX (.tmp 12) (.tmp 45) rfl (w8.heap.size + 1) #[.int .i64 xB.k, .int .i64 xB.o, .string xB.s, .int .i64 xB.v, .slice aq mq cq] rfl rfl _ _ HG3.out (by kernel_rfl) rfl (by simp [Value.oneCell']) ?_; rw [HT9.out])
          | (refine wpList_store_row rfl TX (.tmp 13) (.tmp 46) rfl (w8.heap.size + 1 + 1) #[.int .i64 xC.k, .int .i64 xC.o, .string xC.s, .int .i64 xC.v, .slice ar mr cr] rfl rfl _ _ HG5.out (by kernel_rfl) rfl (by simp [Value.oneCell']) ?_; rw [HX9.out]))
        clear x0 x1 x2 y0 y1 y2
        have hC10 := awake_any w9 ZV_9.out ZT_9.out
        have HC10 := Lib.hid hC10
        clear hC10
        skip
        refine HC10.out.mono ?_
        rintro e w10 ⟨rfl, b10⟩
        have HB10 := Lib.hid (HB9.out.trans (b10.mono HB9.out.size))
        have Xe_10 := Lib.hid (KA.carry Xe_9.out b10)
        have Xa_10 := Lib.hid (KA.carry Xa_9.out b10)
        have Xb_10 := Lib.hid (KA.carry Xb_9.out b10)
        have Xc_10 := Lib.hid (KA.carry Xc_9.out b10)
        have ZV_10 := Lib.hid (LxV.carry ZV_9.out b10)
        have ZT_10 := Lib.hid (TabJ.below ZT_9.out b10)
        have Zx_10 := Lib.hid (OpAt.later Zx_9.out b10)
        have Zy_10 := Lib.hid (OpAt.later Zy_9.out b10)
        have Ze_10 := Lib.hid (AtX.later Ze_9.out b10)
        have Zp_10 := Lib.hid (AtX.later Zp_9.out b10)
        have Zq_10 := Lib.hid (AtX.later Zq_9.out b10)
        have Zr_10 := Lib.hid (AtX.later Zr_9.out b10)
        clear b10 HC10
        go_wp2
        go_ret
        exact ⟨rfl, HB10.out⟩
      · obtain ⟨p3, p4⟩ := ine h4
        have HEE := Lib.hid (HEQ.out (fun h => h4 h.2))
        by_cases h5 : X.p < Y.p
        · have HPQ : Hid (psF (txG X Y) = (biX X.o xA (biX Y.o xB xC), 0, 0)) := Lib.hid (by rw [HPS.out, wtG, if_neg (fun h => h4 h.2), if_pos h5])
          have HE2 : Hid (equE (biX X.o xA (biX Y.o xB xC)) (biX X.o xA (biX Y.o xB xC)) = true) := Lib.hid (by have := HEE.out; rwa [wtG, if_neg (fun h => h4 h.2), if_pos h5] at this)
          obtain ⟨e, he⟩ : ∃ e, (biX X.o xA (biX Y.o xB xC)) = e := ⟨_, rfl⟩
          have HFE : Hid (fitE e) := Lib.hid (by rw [← he]; simp [fitE, fitL, xA, xB, xC, nmX, biX, ByteArray.size])
          rw [he] at HPQ HE2
          have HEE2 := Lib.hid he
          clear h3 he
          obtain ⟨x0, x1, x2⟩ := Zx_3.out
          simp only [Nat.zero_add] at x1 x2
          obtain ⟨y0, y1, y2⟩ := Zy_3.out
          simp only [Nat.zero_add] at y1 y2
          go_wp2_with fail
          try rw [txG_eq]
          have hC4 := parA (txG X Y) e 0 0 XE hz ZV_3.out ZT_3.out HPQ.out
          have HC4 := Lib.hid hC4
          clear hC4
          refine HC4.out.mono ?_
          rintro e w4 ⟨ae, me, ce, rfl, ke, b4⟩
          have HB4 := Lib.hid (HB3.out.trans (b4.mono HB3.out.size))
          have ZV_4 := Lib.hid (LxV.carry ZV_3.out b4)
          have ZT_4 := Lib.hid (TabJ.below ZT_3.out b4)
          have Zx_4 := Lib.hid (OpAt.later Zx_3.out b4)
          have Zy_4 := Lib.hid (OpAt.later Zy_3.out b4)
          have Xe_4 := Lib.hid (ke)
          clear b4 HC4 ke
          try simp only [exV]
          clear x0 x1 x2 y0 y1 y2
          obtain ⟨W5, hW5⟩ : ∃ W, w4.alloc (.cells #[.int .i64 0, .int .i64 0, .string ⟨#[]⟩, .int .i64 0, .slice none 0 0] TX (0, 0)) = W := ⟨_, rfl⟩
          obtain ⟨g1, b5, g3⟩ := varX w4 e (.slice ae me ce) W5 hW5
          have HG5 := Lib.hid g1
          have HW5 := Lib.hid hW5
          obtain ⟨w5, hw5⟩ : ∃ X, W5.setRow w4.heap.size #[.int .i64 e.k, .int .i64 e.o, .string e.s, .int .i64 e.v, .slice ae me ce] = X := ⟨_, rfl⟩
          rw [hw5] at b5 g3
          have HB5 := Lib.hid (HB4.out.trans (b5.mono HB4.out.size))
          have Xe_5 := Lib.hid (KA.carry Xe_4.out b5)
          have ZV_5 := Lib.hid (LxV.carry ZV_4.out b5)
          have ZT_5 := Lib.hid (TabJ.below ZT_4.out b5)
          have Zx_5 := Lib.hid (OpAt.later Zx_4.out b5)
          have Zy_5 := Lib.hid (OpAt.later Zy_4.out b5)
          have Ze_5 := Lib.hid g3
          have HV5 := Lib.hid hw5
          clear hW5 g1 g3 hw5 b5
          try simp only [exV]
          go_wp2_with (rw [HW5.out]; refine wpList_store_row rfl TX (.tmp 8) (.tmp 41) rfl w4.heap.size #[.int .i64 e.k, .int .i64 e.o, .string e.s, .int .i64 e.v, .slice ae me ce] rfl rfl _ _ HG5.out (by kernel_rfl) rfl (by simp [Value.oneCell']) ?_; rw [HV5.out])
          have hC6 := name_any ⟨#[97]⟩ w5
          have HC6 := Lib.hid hC6
          clear hC6
          refine HC6.out.mono ?_
          rintro e w6 ⟨ap, mp, cp, rfl, kp, b6⟩
          have HB6 := Lib.hid (HB5.out.trans (b6.mono HB5.out.size))
          have Xe_6 := Lib.hid (KA.carry Xe_5.out b6)
          have ZV_6 := Lib.hid (LxV.carry ZV_5.out b6)
          have ZT_6 := Lib.hid (TabJ.below ZT_5.out b6)
          have Zx_6 := Lib.hid (OpAt.later Zx_5.out b6)
          have Zy_6 := Lib.hid (OpAt.later Zy_5.out b6)
          have Ze_6 := Lib.hid (AtX.later Ze_5.out b6)
          have Xa_6 := Lib.hid (kp)
          clear b6 HC6 kp
          have hC7 := name_any ⟨#[98]⟩ w6
          have HC7 := Lib.hid hC7
          clear hC7
          go_wp2_with fail
          refine HC7.out.mono ?_
          rintro e w7 ⟨aq, mq, cq, rfl, kq, b7⟩
          have HB7 := Lib.hid (HB6.out.trans (b7.mono HB6.out.size))
          have Xe_7 := Lib.hid (KA.carry Xe_6.out b7)
          have Xa_7 := Lib.hid (KA.carry Xa_6.out b7)
          have ZV_7 := Lib.hid (LxV.carry ZV_6.out b7)
          have ZT_7 := Lib.hid (TabJ.below ZT_6.out b7)
          have Zx_7 := Lib.hid (OpAt.later Zx_6.out b7)
          have Zy_7 := Lib.hid (OpAt.later Zy_6.out b7)
          have Ze_7 := Lib.hid (AtX.later Ze_6.out b7)
          have Xb_7 := Lib.hid (kq)
          clear b7 HC7 kq
          have hC8 := name_any ⟨#[99]⟩ w7
          have HC8 := Lib.hid hC8
          clear hC8
          go_wp2_with fail
          refine HC8.out.mono ?_
          rintro e w8 ⟨ar, mr, cr, rfl, kr, b8⟩
          have HB8 := Lib.hid (HB7.out.trans (b8.mono HB7.out.size))
          have Xe_8 := Lib.hid (KA.carry Xe_7.out b8)
          have Xa_8 := Lib.hid (KA.carry Xa_7.out b8)
          have Xb_8 := Lib.hid (KA.carry Xb_7.out b8)
          have ZV_8 := Lib.hid (LxV.carry ZV_7.out b8)
          have ZT_8 := Lib.hid (TabJ.below ZT_7.out b8)
          have Zx_8 := Lib.hid (OpAt.later Zx_7.out b8)
          have Zy_8 := Lib.hid (OpAt.later Zy_7.out b8)
          have Ze_8 := Lib.hid (AtX.later Ze_7.out b8)
          have Xc_8 := Lib.hid (kr)
          clear b8 HC8 kr
          try simp only [exV]
          obtain ⟨W9, hW9⟩ : ∃ W, ((w8.alloc (.cells #[.int .i64 0, .int .i64 0, .string ⟨#[]⟩, .int .i64 0, .slice none 0 0] TX)).alloc (.cells #[.int .i64 0, .int .i64 0, .string ⟨#[]⟩, .int .i64 0, .slice none 0 0] TX)).alloc (.cells #[.int .i64 0, .int .i64 0, .string ⟨#[]⟩, .int .i64 0, .slice none 0 0] TX) = W := ⟨_, rfl⟩
          obtain ⟨g1, g2⟩ := threeVars w8 xA xB xC (.slice ap mp cp) (.slice aq mq cq) (.slice ar mr cr) W9 hW9
          obtain ⟨U9, hU9⟩ : ∃ X, W9.setRow w8.heap.size #[.int .i64 xA.k, .int .i64 xA.o, .string xA.s, .int .i64 xA.v, .slice ap mp cp] = X := ⟨_, rfl⟩
          obtain ⟨g3, g4⟩ := g2 _ hU9
          obtain ⟨T9, hT9⟩ : ∃ X, U9.setRow (w8.heap.size + 1) #[.int .i64 xB.k, .int .i64 xB.o, .string xB.s, .int .i64 xB.v, .slice aq mq cq] = X := ⟨_, rfl⟩
          obtain ⟨g5, g6⟩ := g4 _ hT9
          obtain ⟨w9, hw9⟩ : ∃ X, T9.setRow (w8.heap.size + 1 + 1) #[.int .i64 xC.k, .int .i64 xC.o, .string xC.s, .int .i64 xC.v, .slice ar mr cr] = X := ⟨_, rfl⟩
          obtain ⟨b9, g7, g8, g9⟩ := g6 _ hw9
          have HB9 := Lib.hid (HB8.out.trans (b9.mono HB8.out.size))
          have Xe_9 := Lib.hid (KA.carry Xe_8.out b9)
          have Xa_9 := Lib.hid (KA.carry Xa_8.out b9)
          have Xb_9 := Lib.hid (KA.carry Xb_8.out b9)
          have Xc_9 := Lib.hid (KA.carry Xc_8.out b9)
          have ZV_9 := Lib.hid (LxV.carry ZV_8.out b9)
          have ZT_9 := Lib.hid (TabJ.below ZT_8.out b9)
          have Zx_9 := Lib.hid (OpAt.later Zx_8.out b9)
          have Zy_9 := Lib.hid (OpAt.later Zy_8.out b9)
          have Ze_9 := Lib.hid (AtX.later Ze_8.out b9)
          have Zp_9 := Lib.hid g7
          have Zq_9 := Lib.hid g8
          have Zr_9 := Lib.hid g9
          have HG1 := Lib.hid g1
          have HG3 := Lib.hid g3
          have HG5 := Lib.hid g5
          have HW9 := Lib.hid hW9
          have HU9 := Lib.hid hU9
          have HT9 := Lib.hid hT9
          have HX9 := Lib.hid hw9
          clear g1 g2 g3 g4 g5 g6 g7 g8 g9 hW9 hU9 hT9 hw9 b9
          obtain ⟨x0, x1, x2⟩ := Zx_9.out
          simp only [Nat.zero_add] at x1 x2
          obtain ⟨y0, y1, y2⟩ := Zy_9.out
          simp only [Nat.zero_add] at y1 y2
          go_wp2_with (first
            | (rw [HW9.out]; refine wpList_store_row rfl TX (.tmp 11) (.tmp 44) rfl (w8.heap.size) #[.int .i64 xA.k, .int .i64 xA.o, .string xA.s, .int .i64 xA.v, .slice ap mp cp] rfl rfl _ _ HG1.out (by kernel_rfl) rfl (by simp [Value.oneCell']) ?_; rw [HU9.out])
            | (refine wpList_store_row rfl TX (.tmp 12) (.tmp 45) rfl (w8.heap.size + 1) #[.int .i64 xB.k, .int .i64 xB.o, .string xB.s, .int .i64 xB.v, .slice aq mq cq] rfl rfl _ _ HG3.out (by kernel_rfl) rfl (by simp [Value.oneCell']) ?_; rw [HT9.out])
            | (refine wpList_store_row rfl TX (.tmp 13) (.tmp 46) rfl (w8.heap.size + 1 + 1) #[.int .i64 xC.k, .int .i64 xC.o, .string xC.s, .int .i64 xC.v, .slice ar mr cr] rfl rfl _ _ HG5.out (by kernel_rfl) rfl (by simp [Value.oneCell']) ?_; rw [HX9.out]))
          clear x0 x1 x2 y0 y1 y2
          have Zxo_9 := Lib.hid (show w9.cell? ⟨XD.heap.size + 1, 1, none⟩ = some (.int .i64 X.o) from by have := Zx_9.out.2.1; rwa [Nat.zero_add] at this)
          have Zyo_9 := Lib.hid (show w9.cell? ⟨XD.heap.size, 1, none⟩ = some (.int .i64 Y.o) from by have := Zy_9.out.2.1; rwa [Nat.zero_add] at this)
          refine wp_region_held (S := fun w' => AtX w' (w4.heap.size) (0) e (.slice ae me ce) ∧ AtX w' (w8.heap.size) (0) xA (.slice ap mp cp) ∧ AtX w' (w8.heap.size + 1) (0) xB (.slice aq mq cq) ∧ AtX w' (w8.heap.size + 1 + 1) (0) xC (.slice ar mr cr) ∧ w'.cell? ⟨XD.heap.size + 1, 1, none⟩ = some (.int .i64 X.o) ∧ w'.cell? ⟨XD.heap.size, 1, none⟩ = some (.int .i64 Y.o)) (by kernel_rfl) ?_
          change wpAnyH _ _ _ _ _ _ _ _ w9.drew
          obtain ⟨w10, hw10⟩ : ∃ W, w9.drew = W := ⟨_, rfl⟩
          have b10 : Below w9.heap.size w9 w10 := by rw [← hw10]; exact (Below.refl _ _).drew
          have HB10 := Lib.hid (HB9.out.trans (b10.mono HB9.out.size))
          have Xe_10 := Lib.hid (KA.carry Xe_9.out b10)
          have Xa_10 := Lib.hid (KA.carry Xa_9.out b10)
          have Xb_10 := Lib.hid (KA.carry Xb_9.out b10)
          have Xc_10 := Lib.hid (KA.carry Xc_9.out b10)
          have ZV_10 := Lib.hid (LxV.carry ZV_9.out b10)
          have ZT_10 := Lib.hid (TabJ.below ZT_9.out b10)
          have Zx_10 := Lib.hid (OpAt.later Zx_9.out b10)
          have Zy_10 := Lib.hid (OpAt.later Zy_9.out b10)
          have Ze_10 := Lib.hid (AtX.later Ze_9.out b10)
          have Zp_10 := Lib.hid (AtX.later Zp_9.out b10)
          have Zq_10 := Lib.hid (AtX.later Zq_9.out b10)
          have Zr_10 := Lib.hid (AtX.later Zr_9.out b10)
          have Zxo_10 := Lib.hid (cell_lat Zxo_9.out b10)
          have Zyo_10 := Lib.hid (cell_lat Zyo_9.out b10)
          rw [hw10]
          have HDR10 := Lib.hid b10
          clear b10 hw10
          refine wpAnyH_read (i := 0) (v := .int .i64 0) rfl (by kernel_rfl) (by kernel_rfl) (by kernel_rfl) (fun _ _ _ h => h) (by rfl) (fun _ _ => rfl) (⟨Ze_10.out, Zp_10.out, Zq_10.out, Zr_10.out, Zxo_10.out, Zyo_10.out⟩) ?_
          simp only [Act.put, List.setIfInBounds_toArray, List.set_cons_zero, List.set_cons_succ]
          refine wpAnyH_read (i := 1) (v := .bool true) rfl (by kernel_rfl) (by kernel_rfl) (by kernel_rfl) (fun _ _ _ h => h) (by rfl) (fun _ _ => rfl) (⟨Ze_10.out, Zp_10.out, Zq_10.out, Zr_10.out, Zxo_10.out, Zyo_10.out⟩) ?_
          simp only [Act.put, List.setIfInBounds_toArray, List.set_cons_zero, List.set_cons_succ]
          refine wpAnyH_read (i := 2) (v := .bool true) rfl (by kernel_rfl) (by kernel_rfl) (by kernel_rfl) (fun _ _ _ h => h) (by rfl) (fun _ _ => rfl) (⟨Ze_10.out, Zp_10.out, Zq_10.out, Zr_10.out, Zxo_10.out, Zyo_10.out⟩) ?_
          simp only [Act.put, List.setIfInBounds_toArray, List.set_cons_zero, List.set_cons_succ]
          refine wpAnyH_read (i := 3) (v := .agg #[.int .i64 e.k, .int .i64 e.o, .string e.s, .int .i64 e.v, (.slice ae me ce)]) rfl (by kernel_rfl) (by kernel_rfl) (by kernel_rfl) (fun _ _ _ h => h) (by rfl) (by rintro V ⟨⟨r00, r01, r02, r03, r04⟩, ⟨r10, r11, r12, r13, r14⟩, ⟨r20, r21, r22, r23, r24⟩, ⟨r30, r31, r32, r33, r34⟩, z0, z1⟩; simp only [Nat.zero_add] at r01 r02 r03 r04; go_simp) (⟨Ze_10.out, Zp_10.out, Zq_10.out, Zr_10.out, Zxo_10.out, Zyo_10.out⟩) ?_
          simp only [Act.put, List.setIfInBounds_toArray, List.set_cons_zero, List.set_cons_succ]
          refine wpAnyH_read (i := 4) (v := .pointer (some ⟨XD.heap.size + 1, 1, none⟩)) rfl (by kernel_rfl) (by kernel_rfl) (by kernel_rfl) (fun _ _ _ h => h) (by rfl) (fun _ _ => rfl) (⟨Ze_10.out, Zp_10.out, Zq_10.out, Zr_10.out, Zxo_10.out, Zyo_10.out⟩) ?_
          simp only [Act.put, List.setIfInBounds_toArray, List.set_cons_zero, List.set_cons_succ]
          refine wpAnyH_read (i := 5) (v := .int .i64 X.o) rfl (by kernel_rfl) (by kernel_rfl) (by kernel_rfl) (fun _ _ _ h => h) (by rfl) (by rintro V ⟨⟨r00, r01, r02, r03, r04⟩, ⟨r10, r11, r12, r13, r14⟩, ⟨r20, r21, r22, r23, r24⟩, ⟨r30, r31, r32, r33, r34⟩, z0, z1⟩; go_simp) (⟨Ze_10.out, Zp_10.out, Zq_10.out, Zr_10.out, Zxo_10.out, Zyo_10.out⟩) ?_
          simp only [Act.put, List.setIfInBounds_toArray, List.set_cons_zero, List.set_cons_succ]
          refine wpAnyH_read (i := 6) (v := .agg #[.int .i64 xA.k, .int .i64 xA.o, .string xA.s, .int .i64 xA.v, (.slice ap mp cp)]) rfl (by kernel_rfl) (by kernel_rfl) (by kernel_rfl) (fun _ _ _ h => h) (by rfl) (by rintro V ⟨⟨r00, r01, r02, r03, r04⟩, ⟨r10, r11, r12, r13, r14⟩, ⟨r20, r21, r22, r23, r24⟩, ⟨r30, r31, r32, r33, r34⟩, z0, z1⟩; simp only [Nat.zero_add] at r11 r12 r13 r14; go_simp) (⟨Ze_10.out, Zp_10.out, Zq_10.out, Zr_10.out, Zxo_10.out, Zyo_10.out⟩) ?_
          simp only [Act.put, List.setIfInBounds_toArray, List.set_cons_zero, List.set_cons_succ]
          refine wpAnyH_read (i := 7) (v := .pointer (some ⟨XD.heap.size, 1, none⟩)) rfl (by kernel_rfl) (by kernel_rfl) (by kernel_rfl) (fun _ _ _ h => h) (by rfl) (fun _ _ => rfl) (⟨Ze_10.out, Zp_10.out, Zq_10.out, Zr_10.out, Zxo_10.out, Zyo_10.out⟩) ?_
          simp only [Act.put, List.setIfInBounds_toArray, List.set_cons_zero, List.set_cons_succ]
          refine wpAnyH_read (i := 8) (v := .int .i64 Y.o) rfl (by kernel_rfl) (by kernel_rfl) (by kernel_rfl) (fun _ _ _ h => h) (by rfl) (by rintro V ⟨⟨r00, r01, r02, r03, r04⟩, ⟨r10, r11, r12, r13, r14⟩, ⟨r20, r21, r22, r23, r24⟩, ⟨r30, r31, r32, r33, r34⟩, z0, z1⟩; go_simp) (⟨Ze_10.out, Zp_10.out, Zq_10.out, Zr_10.out, Zxo_10.out, Zyo_10.out⟩) ?_
          simp only [Act.put, List.setIfInBounds_toArray, List.set_cons_zero, List.set_cons_succ]
          refine wpAnyH_read (i := 9) (v := .agg #[.int .i64 xB.k, .int .i64 xB.o, .string xB.s, .int .i64 xB.v, (.slice aq mq cq)]) rfl (by kernel_rfl) (by kernel_rfl) (by kernel_rfl) (fun _ _ _ h => h) (by rfl) (by rintro V ⟨⟨r00, r01, r02, r03, r04⟩, ⟨r10, r11, r12, r13, r14⟩, ⟨r20, r21, r22, r23, r24⟩, ⟨r30, r31, r32, r33, r34⟩, z0, z1⟩; simp only [Nat.zero_add] at r21 r22 r23 r24; go_simp) (⟨Ze_10.out, Zp_10.out, Zq_10.out, Zr_10.out, Zxo_10.out, Zyo_10.out⟩) ?_
          simp only [Act.put, List.setIfInBounds_toArray, List.set_cons_zero, List.set_cons_succ]
          refine wpAnyH_read (i := 10) (v := .agg #[.int .i64 xC.k, .int .i64 xC.o, .string xC.s, .int .i64 xC.v, (.slice ar mr cr)]) rfl (by kernel_rfl) (by kernel_rfl) (by kernel_rfl) (fun _ _ _ h => h) (by rfl) (by rintro V ⟨⟨r00, r01, r02, r03, r04⟩, ⟨r10, r11, r12, r13, r14⟩, ⟨r20, r21, r22, r23, r24⟩, ⟨r30, r31, r32, r33, r34⟩, z0, z1⟩; simp only [Nat.zero_add] at r31 r32 r33 r34; go_simp) (⟨Ze_10.out, Zp_10.out, Zq_10.out, Zr_10.out, Zxo_10.out, Zyo_10.out⟩) ?_
          simp only [Act.put, List.setIfInBounds_toArray, List.set_cons_zero, List.set_cons_succ]
          refine wpAnyH_next (i := 11) rfl (by kernel_rfl) ?_
          have hC11 := binary_any Y.o xB xC aq mq cq ar mr cr w10 Xb_10.out Xc_10.out
          simp only [exV] at hC11
          have HC11 := Lib.hid hC11
          clear hC11
          go_wp2_with fail
          refine HC11.out.mono ?_
          rintro e w11 ⟨as_, ms, cs, rfl, ks, b11⟩
          have HB11 := Lib.hid (HB10.out.trans (b11.mono HB10.out.size))
          have Xe_11 := Lib.hid (KA.carry Xe_10.out b11)
          have Xa_11 := Lib.hid (KA.carry Xa_10.out b11)
          have Xb_11 := Lib.hid (KA.carry Xb_10.out b11)
          have Xc_11 := Lib.hid (KA.carry Xc_10.out b11)
          have ZV_11 := Lib.hid (LxV.carry ZV_10.out b11)
          have ZT_11 := Lib.hid (TabJ.below ZT_10.out b11)
          have Zx_11 := Lib.hid (OpAt.later Zx_10.out b11)
          have Zy_11 := Lib.hid (OpAt.later Zy_10.out b11)
          have Ze_11 := Lib.hid (AtX.later Ze_10.out b11)
          have Zp_11 := Lib.hid (AtX.later Zp_10.out b11)
          have Zq_11 := Lib.hid (AtX.later Zq_10.out b11)
          have Zr_11 := Lib.hid (AtX.later Zr_10.out b11)
          have Zxo_11 := Lib.hid (cell_lat Zxo_10.out b11)
          have Zyo_11 := Lib.hid (cell_lat Zyo_10.out b11)
          have Xs_11 := Lib.hid (ks)
          clear b11 HC11 ks
          try simp only [exV]
          go_wp2_with fail
          refine ⟨⟨Ze_11.out, Zp_11.out, Zq_11.out, Zr_11.out, Zxo_11.out, Zyo_11.out⟩, ?_⟩
          refine wpAnyH_next (i := 12) rfl (by kernel_rfl) ?_
          have hC12 := binary_any X.o xA (biX Y.o xB xC) ap mp cp as_ ms cs w11 Xa_11.out Xs_11.out
          simp only [exV] at hC12
          have HC12 := Lib.hid hC12
          clear hC12
          go_wp2_with fail
          refine HC12.out.mono ?_
          rintro e w12 ⟨at_, mt, ct, rfl, kt, b12⟩
          have HB12 := Lib.hid (HB11.out.trans (b12.mono HB11.out.size))
          have Xe_12 := Lib.hid (KA.carry Xe_11.out b12)
          have Xa_12 := Lib.hid (KA.carry Xa_11.out b12)
          have Xb_12 := Lib.hid (KA.carry Xb_11.out b12)
          have Xc_12 := Lib.hid (KA.carry Xc_11.out b12)
          have Xs_12 := Lib.hid (KA.carry Xs_11.out b12)
          have ZV_12 := Lib.hid (LxV.carry ZV_11.out b12)
          have ZT_12 := Lib.hid (TabJ.below ZT_11.out b12)
          have Zx_12 := Lib.hid (OpAt.later Zx_11.out b12)
          have Zy_12 := Lib.hid (OpAt.later Zy_11.out b12)
          have Ze_12 := Lib.hid (AtX.later Ze_11.out b12)
          have Zp_12 := Lib.hid (AtX.later Zp_11.out b12)
          have Zq_12 := Lib.hid (AtX.later Zq_11.out b12)
          have Zr_12 := Lib.hid (AtX.later Zr_11.out b12)
          have Zxo_12 := Lib.hid (cell_lat Zxo_11.out b12)
          have Zyo_12 := Lib.hid (cell_lat Zyo_11.out b12)
          have Xt_12 := Lib.hid (kt)
          clear b12 HC12 kt
          try simp only [exV]
          go_wp2_with fail
          refine ⟨⟨Ze_12.out, Zp_12.out, Zq_12.out, Zr_12.out, Zxo_12.out, Zyo_12.out⟩, ?_⟩
          refine wpAnyH_next (i := 13) rfl (by kernel_rfl) ?_
          have hC13 := rEqual_any e (biX X.o xA (biX Y.o xB xC)) (.slice ae me ce) (.slice at_ mt ct) w12 Xe_12.out Xt_12.out HFE.out (by rw [HEE2.out]; exact HFE.out)
          rw [show equE e (biX X.o xA (biX Y.o xB xC)) = true from by rw [HEE2.out]; exact HE2.out] at hC13
          simp only [exV] at hC13
          have HC13 := Lib.hid hC13
          clear hC13
          go_wp2_with fail
          refine HC13.out.mono ?_
          rintro e w13 ⟨rfl, b13⟩
          have HB13 := Lib.hid (HB12.out.trans (b13.mono HB12.out.size))
          have Xe_13 := Lib.hid (KA.carry Xe_12.out b13)
          have Xa_13 := Lib.hid (KA.carry Xa_12.out b13)
          have Xb_13 := Lib.hid (KA.carry Xb_12.out b13)
          have Xc_13 := Lib.hid (KA.carry Xc_12.out b13)
          have Xs_13 := Lib.hid (KA.carry Xs_12.out b13)
          have Xt_13 := Lib.hid (KA.carry Xt_12.out b13)
          have ZV_13 := Lib.hid (LxV.carry ZV_12.out b13)
          have ZT_13 := Lib.hid (TabJ.below ZT_12.out b13)
          have Zx_13 := Lib.hid (OpAt.later Zx_12.out b13)
          have Zy_13 := Lib.hid (OpAt.later Zy_12.out b13)
          have Ze_13 := Lib.hid (AtX.later Ze_12.out b13)
          have Zp_13 := Lib.hid (AtX.later Zp_12.out b13)
          have Zq_13 := Lib.hid (AtX.later Zq_12.out b13)
          have Zr_13 := Lib.hid (AtX.later Zr_12.out b13)
          have Zxo_13 := Lib.hid (cell_lat Zxo_12.out b13)
          have Zyo_13 := Lib.hid (cell_lat Zyo_12.out b13)
          clear b13 HC13
          try simp only [exV]
          go_wp2_with fail
          refine ⟨⟨Ze_13.out, Zp_13.out, Zq_13.out, Zr_13.out, Zxo_13.out, Zyo_13.out⟩, ?_⟩
          refine wpAnyH_read (i := 14) (v := .bool true) rfl (by kernel_rfl) (by kernel_rfl) (by kernel_rfl) (fun _ _ _ h => h) (by rfl) (fun _ _ => rfl) (⟨Ze_13.out, Zp_13.out, Zq_13.out, Zr_13.out, Zxo_13.out, Zyo_13.out⟩) ?_
          simp only [Act.put, List.setIfInBounds_toArray, List.set_cons_zero, List.set_cons_succ]
          refine wpAnyH_read (i := 15) (v := .bool true) rfl (by kernel_rfl) (by kernel_rfl) (by kernel_rfl) (fun _ _ _ h => h) (by rfl) (fun _ _ => rfl) (⟨Ze_13.out, Zp_13.out, Zq_13.out, Zr_13.out, Zxo_13.out, Zyo_13.out⟩) ?_
          simp only [Act.put, List.setIfInBounds_toArray, List.set_cons_zero, List.set_cons_succ]
          refine wpAnyH_next (i := 16) rfl (by kernel_rfl) ?_
          have hC14 := awake_any w13 ZV_13.out ZT_13.out
          have HC14 := Lib.hid hC14
          clear hC14
          go_wp2_with fail
          refine HC14.out.mono ?_
          rintro e w14 ⟨rfl, b14⟩
          have HB14 := Lib.hid (HB13.out.trans (b14.mono HB13.out.size))
          have Xe_14 := Lib.hid (KA.carry Xe_13.out b14)
          have Xa_14 := Lib.hid (KA.carry Xa_13.out b14)
          have Xb_14 := Lib.hid (KA.carry Xb_13.out b14)
          have Xc_14 := Lib.hid (KA.carry Xc_13.out b14)
          have Xs_14 := Lib.hid (KA.carry Xs_13.out b14)
          have Xt_14 := Lib.hid (KA.carry Xt_13.out b14)
          have ZV_14 := Lib.hid (LxV.carry ZV_13.out b14)
          have ZT_14 := Lib.hid (TabJ.below ZT_13.out b14)
          have Zx_14 := Lib.hid (OpAt.later Zx_13.out b14)
          have Zy_14 := Lib.hid (OpAt.later Zy_13.out b14)
          have Ze_14 := Lib.hid (AtX.later Ze_13.out b14)
          have Zp_14 := Lib.hid (AtX.later Zp_13.out b14)
          have Zq_14 := Lib.hid (AtX.later Zq_13.out b14)
          have Zr_14 := Lib.hid (AtX.later Zr_13.out b14)
          have Zxo_14 := Lib.hid (cell_lat Zxo_13.out b14)
          have Zyo_14 := Lib.hid (cell_lat Zyo_13.out b14)
          clear b14 HC14
          try simp only [exV]
          go_wp2_with fail
          refine ⟨⟨Ze_14.out, Zp_14.out, Zq_14.out, Zr_14.out, Zxo_14.out, Zyo_14.out⟩, ?_⟩
          refine wpAnyH_read (i := 17) (v := .bool true) rfl (by kernel_rfl) (by kernel_rfl) (by kernel_rfl) (fun _ _ _ h => h) (by rfl) (fun _ _ => rfl) (⟨Ze_14.out, Zp_14.out, Zq_14.out, Zr_14.out, Zxo_14.out, Zyo_14.out⟩) ?_
          simp only [Act.put, List.setIfInBounds_toArray, List.set_cons_zero, List.set_cons_succ]
          refine wpAnyH_next (i := 18) rfl (by kernel_rfl) ?_
          go_wp2_with fail
          refine ⟨⟨Ze_14.out, Zp_14.out, Zq_14.out, Zr_14.out, Zxo_14.out, Zyo_14.out⟩, ?_⟩
          refine wpAnyH_done (by kernel_rfl) ?_ _
          go_wp2
          go_ret
          exact ⟨rfl, HB14.out⟩
        · have HPQ : Hid (psF (txG X Y) = (biX Y.o (biX X.o xA xB) xC, 0, 0)) := Lib.hid (by rw [HPS.out, wtG, if_neg (fun h => h4 h.2), if_neg h5])
          have HE2 : Hid (equE (biX Y.o (biX X.o xA xB) xC) (biX Y.o (biX X.o xA xB) xC) = true) := Lib.hid (by have := HEE.out; rwa [wtG, if_neg (fun h => h4 h.2), if_neg h5] at this)
          obtain ⟨e, he⟩ : ∃ e, (biX Y.o (biX X.o xA xB) xC) = e := ⟨_, rfl⟩
          have HFE : Hid (fitE e) := Lib.hid (by rw [← he]; simp [fitE, fitL, xA, xB, xC, nmX, biX, ByteArray.size])
          rw [he] at HPQ HE2
          have HEE2 := Lib.hid he
          clear h3 he
          obtain ⟨x0, x1, x2⟩ := Zx_3.out
          simp only [Nat.zero_add] at x1 x2
          obtain ⟨y0, y1, y2⟩ := Zy_3.out
          simp only [Nat.zero_add] at y1 y2
          go_wp2_with fail
          try rw [txG_eq]
          have hC4 := parA (txG X Y) e 0 0 XE hz ZV_3.out ZT_3.out HPQ.out
          have HC4 := Lib.hid hC4
          clear hC4
          refine HC4.out.mono ?_
          rintro e w4 ⟨ae, me, ce, rfl, ke, b4⟩
          have HB4 := Lib.hid (HB3.out.trans (b4.mono HB3.out.size))
          have ZV_4 := Lib.hid (LxV.carry ZV_3.out b4)
          have ZT_4 := Lib.hid (TabJ.below ZT_3.out b4)
          have Zx_4 := Lib.hid (OpAt.later Zx_3.out b4)
          have Zy_4 := Lib.hid (OpAt.later Zy_3.out b4)
          have Xe_4 := Lib.hid (ke)
          clear b4 HC4 ke
          try simp only [exV]
          clear x0 x1 x2 y0 y1 y2
          obtain ⟨W5, hW5⟩ : ∃ W, w4.alloc (.cells #[.int .i64 0, .int .i64 0, .string ⟨#[]⟩, .int .i64 0, .slice none 0 0] TX (0, 0)) = W := ⟨_, rfl⟩
          obtain ⟨g1, b5, g3⟩ := varX w4 e (.slice ae me ce) W5 hW5
          have HG5 := Lib.hid g1
          have HW5 := Lib.hid hW5
          obtain ⟨w5, hw5⟩ : ∃ X, W5.setRow w4.heap.size #[.int .i64 e.k, .int .i64 e.o, .string e.s, .int .i64 e.v, .slice ae me ce] = X := ⟨_, rfl⟩
          rw [hw5] at b5 g3
          have HB5 := Lib.hid (HB4.out.trans (b5.mono HB4.out.size))
          have Xe_5 := Lib.hid (KA.carry Xe_4.out b5)
          have ZV_5 := Lib.hid (LxV.carry ZV_4.out b5)
          have ZT_5 := Lib.hid (TabJ.below ZT_4.out b5)
          have Zx_5 := Lib.hid (OpAt.later Zx_4.out b5)
          have Zy_5 := Lib.hid (OpAt.later Zy_4.out b5)
          have Ze_5 := Lib.hid g3
          have HV5 := Lib.hid hw5
          clear hW5 g1 g3 hw5 b5
          try simp only [exV]
          go_wp2_with (rw [HW5.out]; refine wpList_store_row rfl TX (.tmp 8) (.tmp 41) rfl w4.heap.size #[.int .i64 e.k, .int .i64 e.o, .string e.s, .int .i64 e.v, .slice ae me ce] rfl rfl _ _ HG5.out (by kernel_rfl) rfl (by simp [Value.oneCell']) ?_; rw [HV5.out])
          have hC6 := name_any ⟨#[97]⟩ w5
          have HC6 := Lib.hid hC6
          clear hC6
          refine HC6.out.mono ?_
          rintro e w6 ⟨ap, mp, cp, rfl, kp, b6⟩
          have HB6 := Lib.hid (HB5.out.trans (b6.mono HB5.out.size))
          have Xe_6 := Lib.hid (KA.carry Xe_5.out b6)
          have ZV_6 := Lib.hid (LxV.carry ZV_5.out b6)
          have ZT_6 := Lib.hid (TabJ.below ZT_5.out b6)
          have Zx_6 := Lib.hid (OpAt.later Zx_5.out b6)
          have Zy_6 := Lib.hid (OpAt.later Zy_5.out b6)
          have Ze_6 := Lib.hid (AtX.later Ze_5.out b6)
          have Xa_6 := Lib.hid (kp)
          clear b6 HC6 kp
          have hC7 := name_any ⟨#[98]⟩ w6
          have HC7 := Lib.hid hC7
          clear hC7
          go_wp2_with fail
          refine HC7.out.mono ?_
          rintro e w7 ⟨aq, mq, cq, rfl, kq, b7⟩
          have HB7 := Lib.hid (HB6.out.trans (b7.mono HB6.out.size))
          have Xe_7 := Lib.hid (KA.carry Xe_6.out b7)
          have Xa_7 := Lib.hid (KA.carry Xa_6.out b7)
          have ZV_7 := Lib.hid (LxV.carry ZV_6.out b7)
          have ZT_7 := Lib.hid (TabJ.below ZT_6.out b7)
          have Zx_7 := Lib.hid (OpAt.later Zx_6.out b7)
          have Zy_7 := Lib.hid (OpAt.later Zy_6.out b7)
          have Ze_7 := Lib.hid (AtX.later Ze_6.out b7)
          have Xb_7 := Lib.hid (kq)
          clear b7 HC7 kq
          have hC8 := name_any ⟨#[99]⟩ w7
          have HC8 := Lib.hid hC8
          clear hC8
          go_wp2_with fail
          refine HC8.out.mono ?_
          rintro e w8 ⟨ar, mr, cr, rfl, kr, b8⟩
          have HB8 := Lib.hid (HB7.out.trans (b8.mono HB7.out.size))
          have Xe_8 := Lib.hid (KA.carry Xe_7.out b8)
          have Xa_8 := Lib.hid (KA.carry Xa_7.out b8)
          have Xb_8 := Lib.hid (KA.carry Xb_7.out b8)
          have ZV_8 := Lib.hid (LxV.carry ZV_7.out b8)
          have ZT_8 := Lib.hid (TabJ.below ZT_7.out b8)
          have Zx_8 := Lib.hid (OpAt.later Zx_7.out b8)
          have Zy_8 := Lib.hid (OpAt.later Zy_7.out b8)
          have Ze_8 := Lib.hid (AtX.later Ze_7.out b8)
          have Xc_8 := Lib.hid (kr)
          clear b8 HC8 kr
          try simp only [exV]
          obtain ⟨W9, hW9⟩ : ∃ W, ((w8.alloc (.cells #[.int .i64 0, .int .i64 0, .string ⟨#[]⟩, .int .i64 0, .slice none 0 0] TX)).alloc (.cells #[.int .i64 0, .int .i64 0, .string ⟨#[]⟩, .int .i64 0, .slice none 0 0] TX)).alloc (.cells #[.int .i64 0, .int .i64 0, .string ⟨#[]⟩, .int .i64 0, .slice none 0 0] TX) = W := ⟨_, rfl⟩
          obtain ⟨g1, g2⟩ := threeVars w8 xA xB xC (.slice ap mp cp) (.slice aq mq cq) (.slice ar mr cr) W9 hW9
          obtain ⟨U9, hU9⟩ : ∃ X, W9.setRow w8.heap.size #[.int .i64 xA.k, .int .i64 xA.o, .string xA.s, .int .i64 xA.v, .slice ap mp cp] = X := ⟨_, rfl⟩
          obtain ⟨g3, g4⟩ := g2 _ hU9
          obtain ⟨T9, hT9⟩ : ∃ X, U9.setRow (w8.heap.size + 1) #[.int .i64 xB.k, .int .i64 xB.o, .string xB.s, .int .i64 xB.v, .slice aq mq cq] = X := ⟨_, rfl⟩
          obtain ⟨g5, g6⟩ := g4 _ hT9
          obtain ⟨w9, hw9⟩ : ∃ X, T9.setRow (w8.heap.size + 1 + 1) #[.int .i64 xC.k, .int .i64 xC.o, .string xC.s, .int .i64 xC.v, .slice ar mr cr] = X := ⟨_, rfl⟩
          obtain ⟨b9, g7, g8, g9⟩ := g6 _ hw9
          have HB9 := Lib.hid (HB8.out.trans (b9.mono HB8.out.size))
          have Xe_9 := Lib.hid (KA.carry Xe_8.out b9)
          have Xa_9 := Lib.hid (KA.carry Xa_8.out b9)
          have Xb_9 := Lib.hid (KA.carry Xb_8.out b9)
          have Xc_9 := Lib.hid (KA.carry Xc_8.out b9)
          have ZV_9 := Lib.hid (LxV.carry ZV_8.out b9)
          have ZT_9 := Lib.hid (TabJ.below ZT_8.out b9)
          have Zx_9 := Lib.hid (OpAt.later Zx_8.out b9)
          have Zy_9 := Lib.hid (OpAt.later Zy_8.out b9)
          have Ze_9 := Lib.hid (AtX.later Ze_8.out b9)
          have Zp_9 := Lib.hid g7
          have Zq_9 := Lib.hid g8
          have Zr_9 := Lib.hid g9
          have HG1 := Lib.hid g1
          have HG3 := Lib.hid g3
          have HG5 := Lib.hid g5
          have HW9 := Lib.hid hW9
          have HU9 := Lib.hid hU9
          have HT9 := Lib.hid hT9
          have HX9 := Lib.hid hw9
          clear g1 g2 g3 g4 g5 g6 g7 g8 g9 hW9 hU9 hT9 hw9 b9
          obtain ⟨x0, x1, x2⟩ := Zx_9.out
          simp only [Nat.zero_add] at x1 x2
          obtain ⟨y0, y1, y2⟩ := Zy_9.out
          simp only [Nat.zero_add] at y1 y2
          go_wp2_with (first
            | (rw [HW9.out]; refine wpList_store_row rfl TX (.tmp 11) (.tmp 44) rfl (w8.heap.size) #[.int .i64 xA.k, .int .i64 xA.o, .string xA.s, .int .i64 xA.v, .slice ap mp cp] rfl rfl _ _ HG1.out (by kernel_rfl) rfl (by simp [Value.oneCell']) ?_; rw [HU9.out])
            | (refine wpList_store_row rfl TX (.tmp 12) (.tmp 45) rfl (w8.heap.size + 1) #[.int .i64 xB.k, .int .i64 xB.o, .string xB.s, .int .i64 xB.v, .slice aq mq cq] rfl rfl _ _ HG3.out (by kernel_rfl) rfl (by simp [Value.oneCell']) ?_; rw [HT9.out])
            | (refine wpList_store_row rfl TX (.tmp 13) (.tmp 46) rfl (w8.heap.size + 1 + 1) #[.int .i64 xC.k, .int .i64 xC.o, .string xC.s, .int .i64 xC.v, .slice ar mr cr] rfl rfl _ _ HG5.out (by kernel_rfl) rfl (by simp [Value.oneCell']) ?_; rw [HX9.out]))
          clear x0 x1 x2 y0 y1 y2
          have Zxo_9 := Lib.hid (show w9.cell? ⟨XD.heap.size + 1, 1, none⟩ = some (.int .i64 X.o) from by have := Zx_9.out.2.1; rwa [Nat.zero_add] at this)
          have Zyo_9 := Lib.hid (show w9.cell? ⟨XD.heap.size, 1, none⟩ = some (.int .i64 Y.o) from by have := Zy_9.out.2.1; rwa [Nat.zero_add] at this)
          refine wp_region_held (S := fun w' => AtX w' (w4.heap.size) (0) e (.slice ae me ce) ∧ AtX w' (w8.heap.size) (0) xA (.slice ap mp cp) ∧ AtX w' (w8.heap.size + 1) (0) xB (.slice aq mq cq) ∧ AtX w' (w8.heap.size + 1 + 1) (0) xC (.slice ar mr cr) ∧ w'.cell? ⟨XD.heap.size + 1, 1, none⟩ = some (.int .i64 X.o) ∧ w'.cell? ⟨XD.heap.size, 1, none⟩ = some (.int .i64 Y.o)) (by kernel_rfl) ?_
          change wpAnyH _ _ _ _ _ _ _ _ w9.drew
          obtain ⟨w10, hw10⟩ : ∃ W, w9.drew = W := ⟨_, rfl⟩
          have b10 : Below w9.heap.size w9 w10 := by rw [← hw10]; exact (Below.refl _ _).drew
          have HB10 := Lib.hid (HB9.out.trans (b10.mono HB9.out.size))
          have Xe_10 := Lib.hid (KA.carry Xe_9.out b10)
          have Xa_10 := Lib.hid (KA.carry Xa_9.out b10)
          have Xb_10 := Lib.hid (KA.carry Xb_9.out b10)
          have Xc_10 := Lib.hid (KA.carry Xc_9.out b10)
          have ZV_10 := Lib.hid (LxV.carry ZV_9.out b10)
          have ZT_10 := Lib.hid (TabJ.below ZT_9.out b10)
          have Zx_10 := Lib.hid (OpAt.later Zx_9.out b10)
          have Zy_10 := Lib.hid (OpAt.later Zy_9.out b10)
          have Ze_10 := Lib.hid (AtX.later Ze_9.out b10)
          have Zp_10 := Lib.hid (AtX.later Zp_9.out b10)
          have Zq_10 := Lib.hid (AtX.later Zq_9.out b10)
          have Zr_10 := Lib.hid (AtX.later Zr_9.out b10)
          have Zxo_10 := Lib.hid (cell_lat Zxo_9.out b10)
          have Zyo_10 := Lib.hid (cell_lat Zyo_9.out b10)
          rw [hw10]
          have HDR10 := Lib.hid b10
          clear b10 hw10
          refine wpAnyH_read (i := 0) (v := .int .i64 0) rfl (by kernel_rfl) (by kernel_rfl) (by kernel_rfl) (fun _ _ _ h => h) (by rfl) (fun _ _ => rfl) (⟨Ze_10.out, Zp_10.out, Zq_10.out, Zr_10.out, Zxo_10.out, Zyo_10.out⟩) ?_
          simp only [Act.put, List.setIfInBounds_toArray, List.set_cons_zero, List.set_cons_succ]
          refine wpAnyH_read (i := 1) (v := .bool true) rfl (by kernel_rfl) (by kernel_rfl) (by kernel_rfl) (fun _ _ _ h => h) (by rfl) (fun _ _ => rfl) (⟨Ze_10.out, Zp_10.out, Zq_10.out, Zr_10.out, Zxo_10.out, Zyo_10.out⟩) ?_
          simp only [Act.put, List.setIfInBounds_toArray, List.set_cons_zero, List.set_cons_succ]
          refine wpAnyH_read (i := 2) (v := .bool true) rfl (by kernel_rfl) (by kernel_rfl) (by kernel_rfl) (fun _ _ _ h => h) (by rfl) (fun _ _ => rfl) (⟨Ze_10.out, Zp_10.out, Zq_10.out, Zr_10.out, Zxo_10.out, Zyo_10.out⟩) ?_
          simp only [Act.put, List.setIfInBounds_toArray, List.set_cons_zero, List.set_cons_succ]
          refine wpAnyH_read (i := 3) (v := .agg #[.int .i64 e.k, .int .i64 e.o, .string e.s, .int .i64 e.v, (.slice ae me ce)]) rfl (by kernel_rfl) (by kernel_rfl) (by kernel_rfl) (fun _ _ _ h => h) (by rfl) (by rintro V ⟨⟨r00, r01, r02, r03, r04⟩, ⟨r10, r11, r12, r13, r14⟩, ⟨r20, r21, r22, r23, r24⟩, ⟨r30, r31, r32, r33, r34⟩, z0, z1⟩; simp only [Nat.zero_add] at r01 r02 r03 r04; go_simp) (⟨Ze_10.out, Zp_10.out, Zq_10.out, Zr_10.out, Zxo_10.out, Zyo_10.out⟩) ?_
          simp only [Act.put, List.setIfInBounds_toArray, List.set_cons_zero, List.set_cons_succ]
          refine wpAnyH_read (i := 4) (v := .pointer (some ⟨XD.heap.size, 1, none⟩)) rfl (by kernel_rfl) (by kernel_rfl) (by kernel_rfl) (fun _ _ _ h => h) (by rfl) (fun _ _ => rfl) (⟨Ze_10.out, Zp_10.out, Zq_10.out, Zr_10.out, Zxo_10.out, Zyo_10.out⟩) ?_
          simp only [Act.put, List.setIfInBounds_toArray, List.set_cons_zero, List.set_cons_succ]
          refine wpAnyH_read (i := 5) (v := .int .i64 Y.o) rfl (by kernel_rfl) (by kernel_rfl) (by kernel_rfl) (fun _ _ _ h => h) (by rfl) (by rintro V ⟨⟨r00, r01, r02, r03, r04⟩, ⟨r10, r11, r12, r13, r14⟩, ⟨r20, r21, r22, r23, r24⟩, ⟨r30, r31, r32, r33, r34⟩, z0, z1⟩; go_simp) (⟨Ze_10.out, Zp_10.out, Zq_10.out, Zr_10.out, Zxo_10.out, Zyo_10.out⟩) ?_
          simp only [Act.put, List.setIfInBounds_toArray, List.set_cons_zero, List.set_cons_succ]
          refine wpAnyH_read (i := 6) (v := .pointer (some ⟨XD.heap.size + 1, 1, none⟩)) rfl (by kernel_rfl) (by kernel_rfl) (by kernel_rfl) (fun _ _ _ h => h) (by rfl) (fun _ _ => rfl) (⟨Ze_10.out, Zp_10.out, Zq_10.out, Zr_10.out, Zxo_10.out, Zyo_10.out⟩) ?_
          simp only [Act.put, List.setIfInBounds_toArray, List.set_cons_zero, List.set_cons_succ]
          refine wpAnyH_read (i := 7) (v := .int .i64 X.o) rfl (by kernel_rfl) (by kernel_rfl) (by kernel_rfl) (fun _ _ _ h => h) (by rfl) (by rintro V ⟨⟨r00, r01, r02, r03, r04⟩, ⟨r10, r11, r12, r13, r14⟩, ⟨r20, r21, r22, r23, r24⟩, ⟨r30, r31, r32, r33, r34⟩, z0, z1⟩; go_simp) (⟨Ze_10.out, Zp_10.out, Zq_10.out, Zr_10.out, Zxo_10.out, Zyo_10.out⟩) ?_
          simp only [Act.put, List.setIfInBounds_toArray, List.set_cons_zero, List.set_cons_succ]
          refine wpAnyH_read (i := 8) (v := .agg #[.int .i64 xA.k, .int .i64 xA.o, .string xA.s, .int .i64 xA.v, (.slice ap mp cp)]) rfl (by kernel_rfl) (by kernel_rfl) (by kernel_rfl) (fun _ _ _ h => h) (by rfl) (by rintro V ⟨⟨r00, r01, r02, r03, r04⟩, ⟨r10, r11, r12, r13, r14⟩, ⟨r20, r21, r22, r23, r24⟩, ⟨r30, r31, r32, r33, r34⟩, z0, z1⟩; simp only [Nat.zero_add] at r11 r12 r13 r14; go_simp) (⟨Ze_10.out, Zp_10.out, Zq_10.out, Zr_10.out, Zxo_10.out, Zyo_10.out⟩) ?_
          simp only [Act.put, List.setIfInBounds_toArray, List.set_cons_zero, List.set_cons_succ]
          refine wpAnyH_read (i := 9) (v := .agg #[.int .i64 xB.k, .int .i64 xB.o, .string xB.s, .int .i64 xB.v, (.slice aq mq cq)]) rfl (by kernel_rfl) (by kernel_rfl) (by kernel_rfl) (fun _ _ _ h => h) (by rfl) (by rintro V ⟨⟨r00, r01, r02, r03, r04⟩, ⟨r10, r11, r12, r13, r14⟩, ⟨r20, r21, r22, r23, r24⟩, ⟨r30, r31, r32, r33, r34⟩, z0, z1⟩; simp only [Nat.zero_add] at r21 r22 r23 r24; go_simp) (⟨Ze_10.out, Zp_10.out, Zq_10.out, Zr_10.out, Zxo_10.out, Zyo_10.out⟩) ?_
          simp only [Act.put, List.setIfInBounds_toArray, List.set_cons_zero, List.set_cons_succ]
          refine wpAnyH_read (i := 11) (v := .agg #[.int .i64 xC.k, .int .i64 xC.o, .string xC.s, .int .i64 xC.v, (.slice ar mr cr)]) rfl (by kernel_rfl) (by kernel_rfl) (by kernel_rfl) (fun _ _ _ h => h) (by rfl) (by rintro V ⟨⟨r00, r01, r02, r03, r04⟩, ⟨r10, r11, r12, r13, r14⟩, ⟨r20, r21, r22, r23, r24⟩, ⟨r30, r31, r32, r33, r34⟩, z0, z1⟩; simp only [Nat.zero_add] at r31 r32 r33 r34; go_simp) (⟨Ze_10.out, Zp_10.out, Zq_10.out, Zr_10.out, Zxo_10.out, Zyo_10.out⟩) ?_
          simp only [Act.put, List.setIfInBounds_toArray, List.set_cons_zero, List.set_cons_succ]
          refine wpAnyH_next (i := 10) rfl (by kernel_rfl) ?_
          have hC11 := binary_any X.o xA xB ap mp cp aq mq cq w10 Xa_10.out Xb_10.out
          simp only [exV] at hC11
          have HC11 := Lib.hid hC11
          clear hC11
          go_wp2_with fail
          refine HC11.out.mono ?_
          rintro e w11 ⟨as_, ms, cs, rfl, ks, b11⟩
          have HB11 := Lib.hid (HB10.out.trans (b11.mono HB10.out.size))
          have Xe_11 := Lib.hid (KA.carry Xe_10.out b11)
          have Xa_11 := Lib.hid (KA.carry Xa_10.out b11)
          have Xb_11 := Lib.hid (KA.carry Xb_10.out b11)
          have Xc_11 := Lib.hid (KA.carry Xc_10.out b11)
          have ZV_11 := Lib.hid (LxV.carry ZV_10.out b11)
          have ZT_11 := Lib.hid (TabJ.below ZT_10.out b11)
          have Zx_11 := Lib.hid (OpAt.later Zx_10.out b11)
          have Zy_11 := Lib.hid (OpAt.later Zy_10.out b11)
          have Ze_11 := Lib.hid (AtX.later Ze_10.out b11)
          have Zp_11 := Lib.hid (AtX.later Zp_10.out b11)
          have Zq_11 := Lib.hid (AtX.later Zq_10.out b11)
          have Zr_11 := Lib.hid (AtX.later Zr_10.out b11)
          have Zxo_11 := Lib.hid (cell_lat Zxo_10.out b11)
          have Zyo_11 := Lib.hid (cell_lat Zyo_10.out b11)
          have Xs_11 := Lib.hid (ks)
          clear b11 HC11 ks
          try simp only [exV]
          go_wp2_with fail
          refine ⟨⟨Ze_11.out, Zp_11.out, Zq_11.out, Zr_11.out, Zxo_11.out, Zyo_11.out⟩, ?_⟩
          refine wpAnyH_next (i := 12) rfl (by kernel_rfl) ?_
          have hC12 := binary_any Y.o (biX X.o xA xB) xC as_ ms cs ar mr cr w11 Xs_11.out Xc_11.out
          simp only [exV] at hC12
          have HC12 := Lib.hid hC12
          clear hC12
          go_wp2_with fail
          refine HC12.out.mono ?_
          rintro e w12 ⟨at_, mt, ct, rfl, kt, b12⟩
          have HB12 := Lib.hid (HB11.out.trans (b12.mono HB11.out.size))
          have Xe_12 := Lib.hid (KA.carry Xe_11.out b12)
          have Xa_12 := Lib.hid (KA.carry Xa_11.out b12)
          have Xb_12 := Lib.hid (KA.carry Xb_11.out b12)
          have Xc_12 := Lib.hid (KA.carry Xc_11.out b12)
          have Xs_12 := Lib.hid (KA.carry Xs_11.out b12)
          have ZV_12 := Lib.hid (LxV.carry ZV_11.out b12)
          have ZT_12 := Lib.hid (TabJ.below ZT_11.out b12)
          have Zx_12 := Lib.hid (OpAt.later Zx_11.out b12)
          have Zy_12 := Lib.hid (OpAt.later Zy_11.out b12)
          have Ze_12 := Lib.hid (AtX.later Ze_11.out b12)
          have Zp_12 := Lib.hid (AtX.later Zp_11.out b12)
          have Zq_12 := Lib.hid (AtX.later Zq_11.out b12)
          have Zr_12 := Lib.hid (AtX.later Zr_11.out b12)
          have Zxo_12 := Lib.hid (cell_lat Zxo_11.out b12)
          have Zyo_12 := Lib.hid (cell_lat Zyo_11.out b12)
          have Xt_12 := Lib.hid (kt)
          clear b12 HC12 kt
          try simp only [exV]
          go_wp2_with fail
          refine ⟨⟨Ze_12.out, Zp_12.out, Zq_12.out, Zr_12.out, Zxo_12.out, Zyo_12.out⟩, ?_⟩
          refine wpAnyH_next (i := 13) rfl (by kernel_rfl) ?_
          have hC13 := rEqual_any e (biX Y.o (biX X.o xA xB) xC) (.slice ae me ce) (.slice at_ mt ct) w12 Xe_12.out Xt_12.out HFE.out (by rw [HEE2.out]; exact HFE.out)
          rw [show equE e (biX Y.o (biX X.o xA xB) xC) = true from by rw [HEE2.out]; exact HE2.out] at hC13
          simp only [exV] at hC13
          have HC13 := Lib.hid hC13
          clear hC13
          go_wp2_with fail
          refine HC13.out.mono ?_
          rintro e w13 ⟨rfl, b13⟩
          have HB13 := Lib.hid (HB12.out.trans (b13.mono HB12.out.size))
          have Xe_13 := Lib.hid (KA.carry Xe_12.out b13)
          have Xa_13 := Lib.hid (KA.carry Xa_12.out b13)
          have Xb_13 := Lib.hid (KA.carry Xb_12.out b13)
          have Xc_13 := Lib.hid (KA.carry Xc_12.out b13)
          have Xs_13 := Lib.hid (KA.carry Xs_12.out b13)
          have Xt_13 := Lib.hid (KA.carry Xt_12.out b13)
          have ZV_13 := Lib.hid (LxV.carry ZV_12.out b13)
          have ZT_13 := Lib.hid (TabJ.below ZT_12.out b13)
          have Zx_13 := Lib.hid (OpAt.later Zx_12.out b13)
          have Zy_13 := Lib.hid (OpAt.later Zy_12.out b13)
          have Ze_13 := Lib.hid (AtX.later Ze_12.out b13)
          have Zp_13 := Lib.hid (AtX.later Zp_12.out b13)
          have Zq_13 := Lib.hid (AtX.later Zq_12.out b13)
          have Zr_13 := Lib.hid (AtX.later Zr_12.out b13)
          have Zxo_13 := Lib.hid (cell_lat Zxo_12.out b13)
          have Zyo_13 := Lib.hid (cell_lat Zyo_12.out b13)
          clear b13 HC13
          try simp only [exV]
          go_wp2_with fail
          refine ⟨⟨Ze_13.out, Zp_13.out, Zq_13.out, Zr_13.out, Zxo_13.out, Zyo_13.out⟩, ?_⟩
          refine wpAnyH_read (i := 14) (v := .bool true) rfl (by kernel_rfl) (by kernel_rfl) (by kernel_rfl) (fun _ _ _ h => h) (by rfl) (fun _ _ => rfl) (⟨Ze_13.out, Zp_13.out, Zq_13.out, Zr_13.out, Zxo_13.out, Zyo_13.out⟩) ?_
          simp only [Act.put, List.setIfInBounds_toArray, List.set_cons_zero, List.set_cons_succ]
          refine wpAnyH_read (i := 15) (v := .bool true) rfl (by kernel_rfl) (by kernel_rfl) (by kernel_rfl) (fun _ _ _ h => h) (by rfl) (fun _ _ => rfl) (⟨Ze_13.out, Zp_13.out, Zq_13.out, Zr_13.out, Zxo_13.out, Zyo_13.out⟩) ?_
          simp only [Act.put, List.setIfInBounds_toArray, List.set_cons_zero, List.set_cons_succ]
          refine wpAnyH_next (i := 16) rfl (by kernel_rfl) ?_
          have hC14 := awake_any w13 ZV_13.out ZT_13.out
          have HC14 := Lib.hid hC14
          clear hC14
          go_wp2_with fail
          refine HC14.out.mono ?_
          rintro e w14 ⟨rfl, b14⟩
          have HB14 := Lib.hid (HB13.out.trans (b14.mono HB13.out.size))
          have Xe_14 := Lib.hid (KA.carry Xe_13.out b14)
          have Xa_14 := Lib.hid (KA.carry Xa_13.out b14)
          have Xb_14 := Lib.hid (KA.carry Xb_13.out b14)
          have Xc_14 := Lib.hid (KA.carry Xc_13.out b14)
          have Xs_14 := Lib.hid (KA.carry Xs_13.out b14)
          have Xt_14 := Lib.hid (KA.carry Xt_13.out b14)
          have ZV_14 := Lib.hid (LxV.carry ZV_13.out b14)
          have ZT_14 := Lib.hid (TabJ.below ZT_13.out b14)
          have Zx_14 := Lib.hid (OpAt.later Zx_13.out b14)
          have Zy_14 := Lib.hid (OpAt.later Zy_13.out b14)
          have Ze_14 := Lib.hid (AtX.later Ze_13.out b14)
          have Zp_14 := Lib.hid (AtX.later Zp_13.out b14)
          have Zq_14 := Lib.hid (AtX.later Zq_13.out b14)
          have Zr_14 := Lib.hid (AtX.later Zr_13.out b14)
          have Zxo_14 := Lib.hid (cell_lat Zxo_13.out b14)
          have Zyo_14 := Lib.hid (cell_lat Zyo_13.out b14)
          clear b14 HC14
          try simp only [exV]
          go_wp2_with fail
          refine ⟨⟨Ze_14.out, Zp_14.out, Zq_14.out, Zr_14.out, Zxo_14.out, Zyo_14.out⟩, ?_⟩
          refine wpAnyH_read (i := 17) (v := .bool true) rfl (by kernel_rfl) (by kernel_rfl) (by kernel_rfl) (fun _ _ _ h => h) (by rfl) (fun _ _ => rfl) (⟨Ze_14.out, Zp_14.out, Zq_14.out, Zr_14.out, Zxo_14.out, Zyo_14.out⟩) ?_
          simp only [Act.put, List.setIfInBounds_toArray, List.set_cons_zero, List.set_cons_succ]
          refine wpAnyH_next (i := 18) rfl (by kernel_rfl) ?_
          go_wp2_with fail
          refine ⟨⟨Ze_14.out, Zp_14.out, Zq_14.out, Zr_14.out, Zxo_14.out, Zyo_14.out⟩, ?_⟩
          refine wpAnyH_done (by kernel_rfl) ?_ _
          go_wp2
          go_ret
          exact ⟨rfl, HB14.out⟩
    · obtain ⟨p1, p2⟩ := ine h3
      have HEE := Lib.hid (HEQ.out (fun h => h3 h.1))
      by_cases h5 : X.p < Y.p
      · have HPQ : Hid (psF (txG X Y) = (biX X.o xA (biX Y.o xB xC), 0, 0)) := Lib.hid (by rw [HPS.out, wtG, if_neg (fun h => h3 h.1), if_pos h5])
        have HE2 : Hid (equE (biX X.o xA (biX Y.o xB xC)) (biX X.o xA (biX Y.o xB xC)) = true) := Lib.hid (by have := HEE.out; rwa [wtG, if_neg (fun h => h3 h.1), if_pos h5] at this)
        obtain ⟨e, he⟩ : ∃ e, (biX X.o xA (biX Y.o xB xC)) = e := ⟨_, rfl⟩
        have HFE : Hid (fitE e) := Lib.hid (by rw [← he]; simp [fitE, fitL, xA, xB, xC, nmX, biX, ByteArray.size])
        rw [he] at HPQ HE2
        have HEE2 := Lib.hid he
        clear h3 he
        obtain ⟨x0, x1, x2⟩ := Zx_3.out
        simp only [Nat.zero_add] at x1 x2
        obtain ⟨y0, y1, y2⟩ := Zy_3.out
        simp only [Nat.zero_add] at y1 y2
        go_wp2_with fail
        try rw [txG_eq]
        have hC4 := parA (txG X Y) e 0 0 XE hz ZV_3.out ZT_3.out HPQ.out
        have HC4 := Lib.hid hC4
        clear hC4
        refine HC4.out.mono ?_
        rintro e w4 ⟨ae, me, ce, rfl, ke, b4⟩
        have HB4 := Lib.hid (HB3.out.trans (b4.mono HB3.out.size))
        have ZV_4 := Lib.hid (LxV.carry ZV_3.out b4)
        have ZT_4 := Lib.hid (TabJ.below ZT_3.out b4)
        have Zx_4 := Lib.hid (OpAt.later Zx_3.out b4)
        have Zy_4 := Lib.hid (OpAt.later Zy_3.out b4)
        have Xe_4 := Lib.hid (ke)
        clear b4 HC4 ke
        try simp only [exV]
        clear x0 x1 x2 y0 y1 y2
        obtain ⟨W5, hW5⟩ : ∃ W, w4.alloc (.cells #[.int .i64 0, .int .i64 0, .string ⟨#[]⟩, .int .i64 0, .slice none 0 0] TX (0, 0)) = W := ⟨_, rfl⟩
        obtain ⟨g1, b5, g3⟩ := varX w4 e (.slice ae me ce) W5 hW5
        have HG5 := Lib.hid g1
        have HW5 := Lib.hid hW5
        obtain ⟨w5, hw5⟩ : ∃ X, W5.setRow w4.heap.size #[.int .i64 e.k, .int .i64 e.o, .string e.s, .int .i64 e.v, .slice ae me ce] = X := ⟨_, rfl⟩
        rw [hw5] at b5 g3
        have HB5 := Lib.hid (HB4.out.trans (b5.mono HB4.out.size))
        have Xe_5 := Lib.hid (KA.carry Xe_4.out b5)
        have ZV_5 := Lib.hid (LxV.carry ZV_4.out b5)
        have ZT_5 := Lib.hid (TabJ.below ZT_4.out b5)
        have Zx_5 := Lib.hid (OpAt.later Zx_4.out b5)
        have Zy_5 := Lib.hid (OpAt.later Zy_4.out b5)
        have Ze_5 := Lib.hid g3
        have HV5 := Lib.hid hw5
        clear hW5 g1 g3 hw5 b5
        try simp only [exV]
        go_wp2_with (rw [HW5.out]; refine wpList_store_row rfl TX (.tmp 8) (.tmp 41) rfl w4.heap.size #[.int .i64 e.k, .int .i64 e.o, .string e.s, .int .i64 e.v, .slice ae me ce] rfl rfl _ _ HG5.out (by kernel_rfl) rfl (by simp [Value.oneCell']) ?_; rw [HV5.out])
        have hC6 := name_any ⟨#[97]⟩ w5
        have HC6 := Lib.hid hC6
        clear hC6
        refine HC6.out.mono ?_
        rintro e w6 ⟨ap, mp, cp, rfl, kp, b6⟩
        have HB6 := Lib.hid (HB5.out.trans (b6.mono HB5.out.size))
        have Xe_6 := Lib.hid (KA.carry Xe_5.out b6)
        have ZV_6 := Lib.hid (LxV.carry ZV_5.out b6)
        have ZT_6 := Lib.hid (TabJ.below ZT_5.out b6)
        have Zx_6 := Lib.hid (OpAt.later Zx_5.out b6)
        have Zy_6 := Lib.hid (OpAt.later Zy_5.out b6)
        have Ze_6 := Lib.hid (AtX.later Ze_5.out b6)
        have Xa_6 := Lib.hid (kp)
        clear b6 HC6 kp
        have hC7 := name_any ⟨#[98]⟩ w6
        have HC7 := Lib.hid hC7
        clear hC7
        go_wp2_with fail
        refine HC7.out.mono ?_
        rintro e w7 ⟨aq, mq, cq, rfl, kq, b7⟩
        have HB7 := Lib.hid (HB6.out.trans (b7.mono HB6.out.size))
        have Xe_7 := Lib.hid (KA.carry Xe_6.out b7)
        have Xa_7 := Lib.hid (KA.carry Xa_6.out b7)
        have ZV_7 := Lib.hid (LxV.carry ZV_6.out b7)
        have ZT_7 := Lib.hid (TabJ.below ZT_6.out b7)
        have Zx_7 := Lib.hid (OpAt.later Zx_6.out b7)
        have Zy_7 := Lib.hid (OpAt.later Zy_6.out b7)
        have Ze_7 := Lib.hid (AtX.later Ze_6.out b7)
        have Xb_7 := Lib.hid (kq)
        clear b7 HC7 kq
        have hC8 := name_any ⟨#[99]⟩ w7
        have HC8 := Lib.hid hC8
        clear hC8
        go_wp2_with fail
        refine HC8.out.mono ?_
        rintro e w8 ⟨ar, mr, cr, rfl, kr, b8⟩
        have HB8 := Lib.hid (HB7.out.trans (b8.mono HB7.out.size))
        have Xe_8 := Lib.hid (KA.carry Xe_7.out b8)
        have Xa_8 := Lib.hid (KA.carry Xa_7.out b8)
        have Xb_8 := Lib.hid (KA.carry Xb_7.out b8)
        have ZV_8 := Lib.hid (LxV.carry ZV_7.out b8)
        have ZT_8 := Lib.hid (TabJ.below ZT_7.out b8)
        have Zx_8 := Lib.hid (OpAt.later Zx_7.out b8)
        have Zy_8 := Lib.hid (OpAt.later Zy_7.out b8)
        have Ze_8 := Lib.hid (AtX.later Ze_7.out b8)
        have Xc_8 := Lib.hid (kr)
        clear b8 HC8 kr
        try simp only [exV]
        obtain ⟨W9, hW9⟩ : ∃ W, ((w8.alloc (.cells #[.int .i64 0, .int .i64 0, .string ⟨#[]⟩, .int .i64 0, .slice none 0 0] TX)).alloc (.cells #[.int .i64 0, .int .i64 0, .string ⟨#[]⟩, .int .i64 0, .slice none 0 0] TX)).alloc (.cells #[.int .i64 0, .int .i64 0, .string ⟨#[]⟩, .int .i64 0, .slice none 0 0] TX) = W := ⟨_, rfl⟩
        obtain ⟨g1, g2⟩ := threeVars w8 xA xB xC (.slice ap mp cp) (.slice aq mq cq) (.slice ar mr cr) W9 hW9
        obtain ⟨U9, hU9⟩ : ∃ X, W9.setRow w8.heap.size #[.int .i64 xA.k, .int .i64 xA.o, .string xA.s, .int .i64 xA.v, .slice ap mp cp] = X := ⟨_, rfl⟩
        obtain ⟨g3, g4⟩ := g2 _ hU9
        obtain ⟨T9, hT9⟩ : ∃ X, U9.setRow (w8.heap.size + 1) #[.int .i64 xB.k, .int .i64 xB.o, .string xB.s, .int .i64 xB.v, .slice aq mq cq] = X := ⟨_, rfl⟩
        obtain ⟨g5, g6⟩ := g4 _ hT9
        obtain ⟨w9, hw9⟩ : ∃ X, T9.setRow (w8.heap.size + 1 + 1) #[.int .i64 xC.k, .int .i64 xC.o, .string xC.s, .int .i64 xC.v, .slice ar mr cr] = X := ⟨_, rfl⟩
        obtain ⟨b9, g7, g8, g9⟩ := g6 _ hw9
        have HB9 := Lib.hid (HB8.out.trans (b9.mono HB8.out.size))
        have Xe_9 := Lib.hid (KA.carry Xe_8.out b9)
        have Xa_9 := Lib.hid (KA.carry Xa_8.out b9)
        have Xb_9 := Lib.hid (KA.carry Xb_8.out b9)
        have Xc_9 := Lib.hid (KA.carry Xc_8.out b9)
        have ZV_9 := Lib.hid (LxV.carry ZV_8.out b9)
        have ZT_9 := Lib.hid (TabJ.below ZT_8.out b9)
        have Zx_9 := Lib.hid (OpAt.later Zx_8.out b9)
        have Zy_9 := Lib.hid (OpAt.later Zy_8.out b9)
        have Ze_9 := Lib.hid (AtX.later Ze_8.out b9)
        have Zp_9 := Lib.hid g7
        have Zq_9 := Lib.hid g8
        have Zr_9 := Lib.hid g9
        have HG1 := Lib.hid g1
        have HG3 := Lib.hid g3
        have HG5 := Lib.hid g5
        have HW9 := Lib.hid hW9
        have HU9 := Lib.hid hU9
        have HT9 := Lib.hid hT9
        have HX9 := Lib.hid hw9
        clear g1 g2 g3 g4 g5 g6 g7 g8 g9 hW9 hU9 hT9 hw9 b9
        obtain ⟨x0, x1, x2⟩ := Zx_9.out
        simp only [Nat.zero_add] at x1 x2
        obtain ⟨y0, y1, y2⟩ := Zy_9.out
        simp only [Nat.zero_add] at y1 y2
        go_wp2_with (first
          | (rw [HW9.out]; refine wpList_store_row rfl TX (.tmp 11) (.tmp 44) rfl (w8.heap.size) #[.int .i64 xA.k, .int .i64 xA.o, .string xA.s, .int .i64 xA.v, .slice ap mp cp] rfl rfl _ _ HG1.out (by kernel_rfl) rfl (by simp [Value.oneCell']) ?_; rw [HU9.out])
          | (refine wpList_store_row rfl TX (.tmp 12) (.tmp 45) rfl (w8.heap.size + 1) #[.int .i64 xB.k, .int .i64 xB.o, .string xB.s, .int .i64 xB.v, .slice aq mq cq] rfl rfl _ _ HG3.out (by kernel_rfl) rfl (by simp [Value.oneCell']) ?_; rw [HT9.out])
          | (refine wpList_store_row rfl TX (.tmp 13) (.tmp 46) rfl (w8.heap.size + 1 + 1) #[.int .i64 xC.k, .int .i64 xC.o, .string xC.s, .int .i64 xC.v, .slice ar mr cr] rfl rfl _ _ HG5.out (by kernel_rfl) rfl (by simp [Value.oneCell']) ?_; rw [HX9.out]))
        clear x0 x1 x2 y0 y1 y2
        have Zxo_9 := Lib.hid (show w9.cell? ⟨XD.heap.size + 1, 1, none⟩ = some (.int .i64 X.o) from by have := Zx_9.out.2.1; rwa [Nat.zero_add] at this)
        have Zyo_9 := Lib.hid (show w9.cell? ⟨XD.heap.size, 1, none⟩ = some (.int .i64 Y.o) from by have := Zy_9.out.2.1; rwa [Nat.zero_add] at this)
        refine wp_region_held (S := fun w' => AtX w' (w4.heap.size) (0) e (.slice ae me ce) ∧ AtX w' (w8.heap.size) (0) xA (.slice ap mp cp) ∧ AtX w' (w8.heap.size + 1) (0) xB (.slice aq mq cq) ∧ AtX w' (w8.heap.size + 1 + 1) (0) xC (.slice ar mr cr) ∧ w'.cell? ⟨XD.heap.size + 1, 1, none⟩ = some (.int .i64 X.o) ∧ w'.cell? ⟨XD.heap.size, 1, none⟩ = some (.int .i64 Y.o)) (by kernel_rfl) ?_
        change wpAnyH _ _ _ _ _ _ _ _ w9.drew
        obtain ⟨w10, hw10⟩ : ∃ W, w9.drew = W := ⟨_, rfl⟩
        have b10 : Below w9.heap.size w9 w10 := by rw [← hw10]; exact (Below.refl _ _).drew
        have HB10 := Lib.hid (HB9.out.trans (b10.mono HB9.out.size))
        have Xe_10 := Lib.hid (KA.carry Xe_9.out b10)
        have Xa_10 := Lib.hid (KA.carry Xa_9.out b10)
        have Xb_10 := Lib.hid (KA.carry Xb_9.out b10)
        have Xc_10 := Lib.hid (KA.carry Xc_9.out b10)
        have ZV_10 := Lib.hid (LxV.carry ZV_9.out b10)
        have ZT_10 := Lib.hid (TabJ.below ZT_9.out b10)
        have Zx_10 := Lib.hid (OpAt.later Zx_9.out b10)
        have Zy_10 := Lib.hid (OpAt.later Zy_9.out b10)
        have Ze_10 := Lib.hid (AtX.later Ze_9.out b10)
        have Zp_10 := Lib.hid (AtX.later Zp_9.out b10)
        have Zq_10 := Lib.hid (AtX.later Zq_9.out b10)
        have Zr_10 := Lib.hid (AtX.later Zr_9.out b10)
        have Zxo_10 := Lib.hid (cell_lat Zxo_9.out b10)
        have Zyo_10 := Lib.hid (cell_lat Zyo_9.out b10)
        rw [hw10]
        have HDR10 := Lib.hid b10
        clear b10 hw10
        refine wpAnyH_read (i := 0) (v := .int .i64 0) rfl (by kernel_rfl) (by kernel_rfl) (by kernel_rfl) (fun _ _ _ h => h) (by rfl) (fun _ _ => rfl) (⟨Ze_10.out, Zp_10.out, Zq_10.out, Zr_10.out, Zxo_10.out, Zyo_10.out⟩) ?_
        simp only [Act.put, List.setIfInBounds_toArray, List.set_cons_zero, List.set_cons_succ]
        refine wpAnyH_read (i := 1) (v := .bool true) rfl (by kernel_rfl) (by kernel_rfl) (by kernel_rfl) (fun _ _ _ h => h) (by rfl) (fun _ _ => rfl) (⟨Ze_10.out, Zp_10.out, Zq_10.out, Zr_10.out, Zxo_10.out, Zyo_10.out⟩) ?_
        simp only [Act.put, List.setIfInBounds_toArray, List.set_cons_zero, List.set_cons_succ]
        refine wpAnyH_read (i := 2) (v := .bool true) rfl (by kernel_rfl) (by kernel_rfl) (by kernel_rfl) (fun _ _ _ h => h) (by rfl) (fun _ _ => rfl) (⟨Ze_10.out, Zp_10.out, Zq_10.out, Zr_10.out, Zxo_10.out, Zyo_10.out⟩) ?_
        simp only [Act.put, List.setIfInBounds_toArray, List.set_cons_zero, List.set_cons_succ]
        refine wpAnyH_read (i := 3) (v := .agg #[.int .i64 e.k, .int .i64 e.o, .string e.s, .int .i64 e.v, (.slice ae me ce)]) rfl (by kernel_rfl) (by kernel_rfl) (by kernel_rfl) (fun _ _ _ h => h) (by rfl) (by rintro V ⟨⟨r00, r01, r02, r03, r04⟩, ⟨r10, r11, r12, r13, r14⟩, ⟨r20, r21, r22, r23, r24⟩, ⟨r30, r31, r32, r33, r34⟩, z0, z1⟩; simp only [Nat.zero_add] at r01 r02 r03 r04; go_simp) (⟨Ze_10.out, Zp_10.out, Zq_10.out, Zr_10.out, Zxo_10.out, Zyo_10.out⟩) ?_
        simp only [Act.put, List.setIfInBounds_toArray, List.set_cons_zero, List.set_cons_succ]
        refine wpAnyH_read (i := 4) (v := .pointer (some ⟨XD.heap.size + 1, 1, none⟩)) rfl (by kernel_rfl) (by kernel_rfl) (by kernel_rfl) (fun _ _ _ h => h) (by rfl) (fun _ _ => rfl) (⟨Ze_10.out, Zp_10.out, Zq_10.out, Zr_10.out, Zxo_10.out, Zyo_10.out⟩) ?_
        simp only [Act.put, List.setIfInBounds_toArray, List.set_cons_zero, List.set_cons_succ]
        refine wpAnyH_read (i := 5) (v := .int .i64 X.o) rfl (by kernel_rfl) (by kernel_rfl) (by kernel_rfl) (fun _ _ _ h => h) (by rfl) (by rintro V ⟨⟨r00, r01, r02, r03, r04⟩, ⟨r10, r11, r12, r13, r14⟩, ⟨r20, r21, r22, r23, r24⟩, ⟨r30, r31, r32, r33, r34⟩, z0, z1⟩; go_simp) (⟨Ze_10.out, Zp_10.out, Zq_10.out, Zr_10.out, Zxo_10.out, Zyo_10.out⟩) ?_
        simp only [Act.put, List.setIfInBounds_toArray, List.set_cons_zero, List.set_cons_succ]
        refine wpAnyH_read (i := 6) (v := .agg #[.int .i64 xA.k, .int .i64 xA.o, .string xA.s, .int .i64 xA.v, (.slice ap mp cp)]) rfl (by kernel_rfl) (by kernel_rfl) (by kernel_rfl) (fun _ _ _ h => h) (by rfl) (by rintro V ⟨⟨r00, r01, r02, r03, r04⟩, ⟨r10, r11, r12, r13, r14⟩, ⟨r20, r21, r22, r23, r24⟩, ⟨r30, r31, r32, r33, r34⟩, z0, z1⟩; simp only [Nat.zero_add] at r11 r12 r13 r14; go_simp) (⟨Ze_10.out, Zp_10.out, Zq_10.out, Zr_10.out, Zxo_10.out, Zyo_10.out⟩) ?_
        simp only [Act.put, List.setIfInBounds_toArray, List.set_cons_zero, List.set_cons_succ]
        refine wpAnyH_read (i := 7) (v := .pointer (some ⟨XD.heap.size, 1, none⟩)) rfl (by kernel_rfl) (by kernel_rfl) (by kernel_rfl) (fun _ _ _ h => h) (by rfl) (fun _ _ => rfl) (⟨Ze_10.out, Zp_10.out, Zq_10.out, Zr_10.out, Zxo_10.out, Zyo_10.out⟩) ?_
        simp only [Act.put, List.setIfInBounds_toArray, List.set_cons_zero, List.set_cons_succ]
        refine wpAnyH_read (i := 8) (v := .int .i64 Y.o) rfl (by kernel_rfl) (by kernel_rfl) (by kernel_rfl) (fun _ _ _ h => h) (by rfl) (by rintro V ⟨⟨r00, r01, r02, r03, r04⟩, ⟨r10, r11, r12, r13, r14⟩, ⟨r20, r21, r22, r23, r24⟩, ⟨r30, r31, r32, r33, r34⟩, z0, z1⟩; go_simp) (⟨Ze_10.out, Zp_10.out, Zq_10.out, Zr_10.out, Zxo_10.out, Zyo_10.out⟩) ?_
        simp only [Act.put, List.setIfInBounds_toArray, List.set_cons_zero, List.set_cons_succ]
        refine wpAnyH_read (i := 9) (v := .agg #[.int .i64 xB.k, .int .i64 xB.o, .string xB.s, .int .i64 xB.v, (.slice aq mq cq)]) rfl (by kernel_rfl) (by kernel_rfl) (by kernel_rfl) (fun _ _ _ h => h) (by rfl) (by rintro V ⟨⟨r00, r01, r02, r03, r04⟩, ⟨r10, r11, r12, r13, r14⟩, ⟨r20, r21, r22, r23, r24⟩, ⟨r30, r31, r32, r33, r34⟩, z0, z1⟩; simp only [Nat.zero_add] at r21 r22 r23 r24; go_simp) (⟨Ze_10.out, Zp_10.out, Zq_10.out, Zr_10.out, Zxo_10.out, Zyo_10.out⟩) ?_
        simp only [Act.put, List.setIfInBounds_toArray, List.set_cons_zero, List.set_cons_succ]
        refine wpAnyH_read (i := 10) (v := .agg #[.int .i64 xC.k, .int .i64 xC.o, .string xC.s, .int .i64 xC.v, (.slice ar mr cr)]) rfl (by kernel_rfl) (by kernel_rfl) (by kernel_rfl) (fun _ _ _ h => h) (by rfl) (by rintro V ⟨⟨r00, r01, r02, r03, r04⟩, ⟨r10, r11, r12, r13, r14⟩, ⟨r20, r21, r22, r23, r24⟩, ⟨r30, r31, r32, r33, r34⟩, z0, z1⟩; simp only [Nat.zero_add] at r31 r32 r33 r34; go_simp) (⟨Ze_10.out, Zp_10.out, Zq_10.out, Zr_10.out, Zxo_10.out, Zyo_10.out⟩) ?_
        simp only [Act.put, List.setIfInBounds_toArray, List.set_cons_zero, List.set_cons_succ]
        refine wpAnyH_next (i := 11) rfl (by kernel_rfl) ?_
        have hC11 := binary_any Y.o xB xC aq mq cq ar mr cr w10 Xb_10.out Xc_10.out
        simp only [exV] at hC11
        have HC11 := Lib.hid hC11
        clear hC11
        go_wp2_with fail
        refine HC11.out.mono ?_
        rintro e w11 ⟨as_, ms, cs, rfl, ks, b11⟩
        have HB11 := Lib.hid (HB10.out.trans (b11.mono HB10.out.size))
        have Xe_11 := Lib.hid (KA.carry Xe_10.out b11)
        have Xa_11 := Lib.hid (KA.carry Xa_10.out b11)
        have Xb_11 := Lib.hid (KA.carry Xb_10.out b11)
        have Xc_11 := Lib.hid (KA.carry Xc_10.out b11)
        have ZV_11 := Lib.hid (LxV.carry ZV_10.out b11)
        have ZT_11 := Lib.hid (TabJ.below ZT_10.out b11)
        have Zx_11 := Lib.hid (OpAt.later Zx_10.out b11)
        have Zy_11 := Lib.hid (OpAt.later Zy_10.out b11)
        have Ze_11 := Lib.hid (AtX.later Ze_10.out b11)
        have Zp_11 := Lib.hid (AtX.later Zp_10.out b11)
        have Zq_11 := Lib.hid (AtX.later Zq_10.out b11)
        have Zr_11 := Lib.hid (AtX.later Zr_10.out b11)
        have Zxo_11 := Lib.hid (cell_lat Zxo_10.out b11)
        have Zyo_11 := Lib.hid (cell_lat Zyo_10.out b11)
        have Xs_11 := Lib.hid (ks)
        clear b11 HC11 ks
        try simp only [exV]
        go_wp2_with fail
        refine ⟨⟨Ze_11.out, Zp_11.out, Zq_11.out, Zr_11.out, Zxo_11.out, Zyo_11.out⟩, ?_⟩
        refine wpAnyH_next (i := 12) rfl (by kernel_rfl) ?_
        have hC12 := binary_any X.o xA (biX Y.o xB xC) ap mp cp as_ ms cs w11 Xa_11.out Xs_11.out
        simp only [exV] at hC12
        have HC12 := Lib.hid hC12
        clear hC12
        go_wp2_with fail
        refine HC12.out.mono ?_
        rintro e w12 ⟨at_, mt, ct, rfl, kt, b12⟩
        have HB12 := Lib.hid (HB11.out.trans (b12.mono HB11.out.size))
        have Xe_12 := Lib.hid (KA.carry Xe_11.out b12)
        have Xa_12 := Lib.hid (KA.carry Xa_11.out b12)
        have Xb_12 := Lib.hid (KA.carry Xb_11.out b12)
        have Xc_12 := Lib.hid (KA.carry Xc_11.out b12)
        have Xs_12 := Lib.hid (KA.carry Xs_11.out b12)
        have ZV_12 := Lib.hid (LxV.carry ZV_11.out b12)
        have ZT_12 := Lib.hid (TabJ.below ZT_11.out b12)
        have Zx_12 := Lib.hid (OpAt.later Zx_11.out b12)
        have Zy_12 := Lib.hid (OpAt.later Zy_11.out b12)
        have Ze_12 := Lib.hid (AtX.later Ze_11.out b12)
        have Zp_12 := Lib.hid (AtX.later Zp_11.out b12)
        have Zq_12 := Lib.hid (AtX.later Zq_11.out b12)
        have Zr_12 := Lib.hid (AtX.later Zr_11.out b12)
        have Zxo_12 := Lib.hid (cell_lat Zxo_11.out b12)
        have Zyo_12 := Lib.hid (cell_lat Zyo_11.out b12)
        have Xt_12 := Lib.hid (kt)
        clear b12 HC12 kt
        try simp only [exV]
        go_wp2_with fail
        refine ⟨⟨Ze_12.out, Zp_12.out, Zq_12.out, Zr_12.out, Zxo_12.out, Zyo_12.out⟩, ?_⟩
        refine wpAnyH_next (i := 13) rfl (by kernel_rfl) ?_
        have hC13 := rEqual_any e (biX X.o xA (biX Y.o xB xC)) (.slice ae me ce) (.slice at_ mt ct) w12 Xe_12.out Xt_12.out HFE.out (by rw [HEE2.out]; exact HFE.out)
        rw [show equE e (biX X.o xA (biX Y.o xB xC)) = true from by rw [HEE2.out]; exact HE2.out] at hC13
        simp only [exV] at hC13
        have HC13 := Lib.hid hC13
        clear hC13
        go_wp2_with fail
        refine HC13.out.mono ?_
        rintro e w13 ⟨rfl, b13⟩
        have HB13 := Lib.hid (HB12.out.trans (b13.mono HB12.out.size))
        have Xe_13 := Lib.hid (KA.carry Xe_12.out b13)
        have Xa_13 := Lib.hid (KA.carry Xa_12.out b13)
        have Xb_13 := Lib.hid (KA.carry Xb_12.out b13)
        have Xc_13 := Lib.hid (KA.carry Xc_12.out b13)
        have Xs_13 := Lib.hid (KA.carry Xs_12.out b13)
        have Xt_13 := Lib.hid (KA.carry Xt_12.out b13)
        have ZV_13 := Lib.hid (LxV.carry ZV_12.out b13)
        have ZT_13 := Lib.hid (TabJ.below ZT_12.out b13)
        have Zx_13 := Lib.hid (OpAt.later Zx_12.out b13)
        have Zy_13 := Lib.hid (OpAt.later Zy_12.out b13)
        have Ze_13 := Lib.hid (AtX.later Ze_12.out b13)
        have Zp_13 := Lib.hid (AtX.later Zp_12.out b13)
        have Zq_13 := Lib.hid (AtX.later Zq_12.out b13)
        have Zr_13 := Lib.hid (AtX.later Zr_12.out b13)
        have Zxo_13 := Lib.hid (cell_lat Zxo_12.out b13)
        have Zyo_13 := Lib.hid (cell_lat Zyo_12.out b13)
        clear b13 HC13
        try simp only [exV]
        go_wp2_with fail
        refine ⟨⟨Ze_13.out, Zp_13.out, Zq_13.out, Zr_13.out, Zxo_13.out, Zyo_13.out⟩, ?_⟩
        refine wpAnyH_read (i := 14) (v := .bool true) rfl (by kernel_rfl) (by kernel_rfl) (by kernel_rfl) (fun _ _ _ h => h) (by rfl) (fun _ _ => rfl) (⟨Ze_13.out, Zp_13.out, Zq_13.out, Zr_13.out, Zxo_13.out, Zyo_13.out⟩) ?_
        simp only [Act.put, List.setIfInBounds_toArray, List.set_cons_zero, List.set_cons_succ]
        refine wpAnyH_read (i := 15) (v := .bool true) rfl (by kernel_rfl) (by kernel_rfl) (by kernel_rfl) (fun _ _ _ h => h) (by rfl) (fun _ _ => rfl) (⟨Ze_13.out, Zp_13.out, Zq_13.out, Zr_13.out, Zxo_13.out, Zyo_13.out⟩) ?_
        simp only [Act.put, List.setIfInBounds_toArray, List.set_cons_zero, List.set_cons_succ]
        refine wpAnyH_next (i := 16) rfl (by kernel_rfl) ?_
        have hC14 := awake_any w13 ZV_13.out ZT_13.out
        have HC14 := Lib.hid hC14
        clear hC14
        go_wp2_with fail
        refine HC14.out.mono ?_
        rintro e w14 ⟨rfl, b14⟩
        have HB14 := Lib.hid (HB13.out.trans (b14.mono HB13.out.size))
        have Xe_14 := Lib.hid (KA.carry Xe_13.out b14)
        have Xa_14 := Lib.hid (KA.carry Xa_13.out b14)
        have Xb_14 := Lib.hid (KA.carry Xb_13.out b14)
        have Xc_14 := Lib.hid (KA.carry Xc_13.out b14)
        have Xs_14 := Lib.hid (KA.carry Xs_13.out b14)
        have Xt_14 := Lib.hid (KA.carry Xt_13.out b14)
        have ZV_14 := Lib.hid (LxV.carry ZV_13.out b14)
        have ZT_14 := Lib.hid (TabJ.below ZT_13.out b14)
        have Zx_14 := Lib.hid (OpAt.later Zx_13.out b14)
        have Zy_14 := Lib.hid (OpAt.later Zy_13.out b14)
        have Ze_14 := Lib.hid (AtX.later Ze_13.out b14)
        have Zp_14 := Lib.hid (AtX.later Zp_13.out b14)
        have Zq_14 := Lib.hid (AtX.later Zq_13.out b14)
        have Zr_14 := Lib.hid (AtX.later Zr_13.out b14)
        have Zxo_14 := Lib.hid (cell_lat Zxo_13.out b14)
        have Zyo_14 := Lib.hid (cell_lat Zyo_13.out b14)
        clear b14 HC14
        try simp only [exV]
        go_wp2_with fail
        refine ⟨⟨Ze_14.out, Zp_14.out, Zq_14.out, Zr_14.out, Zxo_14.out, Zyo_14.out⟩, ?_⟩
        refine wpAnyH_read (i := 17) (v := .bool true) rfl (by kernel_rfl) (by kernel_rfl) (by kernel_rfl) (fun _ _ _ h => h) (by rfl) (fun _ _ => rfl) (⟨Ze_14.out, Zp_14.out, Zq_14.out, Zr_14.out, Zxo_14.out, Zyo_14.out⟩) ?_
        simp only [Act.put, List.setIfInBounds_toArray, List.set_cons_zero, List.set_cons_succ]
        refine wpAnyH_next (i := 18) rfl (by kernel_rfl) ?_
        go_wp2_with fail
        refine ⟨⟨Ze_14.out, Zp_14.out, Zq_14.out, Zr_14.out, Zxo_14.out, Zyo_14.out⟩, ?_⟩
        refine wpAnyH_done (by kernel_rfl) ?_ _
        go_wp2
        go_ret
        exact ⟨rfl, HB14.out⟩
      · have HPQ : Hid (psF (txG X Y) = (biX Y.o (biX X.o xA xB) xC, 0, 0)) := Lib.hid (by rw [HPS.out, wtG, if_neg (fun h => h3 h.1), if_neg h5])
        have HE2 : Hid (equE (biX Y.o (biX X.o xA xB) xC) (biX Y.o (biX X.o xA xB) xC) = true) := Lib.hid (by have := HEE.out; rwa [wtG, if_neg (fun h => h3 h.1), if_neg h5] at this)
        obtain ⟨e, he⟩ : ∃ e, (biX Y.o (biX X.o xA xB) xC) = e := ⟨_, rfl⟩
        have HFE : Hid (fitE e) := Lib.hid (by rw [← he]; simp [fitE, fitL, xA, xB, xC, nmX, biX, ByteArray.size])
        rw [he] at HPQ HE2
        have HEE2 := Lib.hid he
        clear h3 he
        obtain ⟨x0, x1, x2⟩ := Zx_3.out
        simp only [Nat.zero_add] at x1 x2
        obtain ⟨y0, y1, y2⟩ := Zy_3.out
        simp only [Nat.zero_add] at y1 y2
        go_wp2_with fail
        try rw [txG_eq]
        have hC4 := parA (txG X Y) e 0 0 XE hz ZV_3.out ZT_3.out HPQ.out
        have HC4 := Lib.hid hC4
        clear hC4
        refine HC4.out.mono ?_
        rintro e w4 ⟨ae, me, ce, rfl, ke, b4⟩
        have HB4 := Lib.hid (HB3.out.trans (b4.mono HB3.out.size))
        have ZV_4 := Lib.hid (LxV.carry ZV_3.out b4)
        have ZT_4 := Lib.hid (TabJ.below ZT_3.out b4)
        have Zx_4 := Lib.hid (OpAt.later Zx_3.out b4)
        have Zy_4 := Lib.hid (OpAt.later Zy_3.out b4)
        have Xe_4 := Lib.hid (ke)
        clear b4 HC4 ke
        try simp only [exV]
        clear x0 x1 x2 y0 y1 y2
        obtain ⟨W5, hW5⟩ : ∃ W, w4.alloc (.cells #[.int .i64 0, .int .i64 0, .string ⟨#[]⟩, .int .i64 0, .slice none 0 0] TX (0, 0)) = W := ⟨_, rfl⟩
        obtain ⟨g1, b5, g3⟩ := varX w4 e (.slice ae me ce) W5 hW5
        have HG5 := Lib.hid g1
        have HW5 := Lib.hid hW5
        obtain ⟨w5, hw5⟩ : ∃ X, W5.setRow w4.heap.size #[.int .i64 e.k, .int .i64 e.o, .string e.s, .int .i64 e.v, .slice ae me ce] = X := ⟨_, rfl⟩
        rw [hw5] at b5 g3
        have HB5 := Lib.hid (HB4.out.trans (b5.mono HB4.out.size))
        have Xe_5 := Lib.hid (KA.carry Xe_4.out b5)
        have ZV_5 := Lib.hid (LxV.carry ZV_4.out b5)
        have ZT_5 := Lib.hid (TabJ.below ZT_4.out b5)
        have Zx_5 := Lib.hid (OpAt.later Zx_4.out b5)
        have Zy_5 := Lib.hid (OpAt.later Zy_4.out b5)
        have Ze_5 := Lib.hid g3
        have HV5 := Lib.hid hw5
        clear hW5 g1 g3 hw5 b5
        try simp only [exV]
        go_wp2_with (rw [HW5.out]; refine wpList_store_row rfl TX (.tmp 8) (.tmp 41) rfl w4.heap.size #[.int .i64 e.k, .int .i64 e.o, .string e.s, .int .i64 e.v, .slice ae me ce] rfl rfl _ _ HG5.out (by kernel_rfl) rfl (by simp [Value.oneCell']) ?_; rw [HV5.out])
        have hC6 := name_any ⟨#[97]⟩ w5
        have HC6 := Lib.hid hC6
        clear hC6
        refine HC6.out.mono ?_
        rintro e w6 ⟨ap, mp, cp, rfl, kp, b6⟩
        have HB6 := Lib.hid (HB5.out.trans (b6.mono HB5.out.size))
        have Xe_6 := Lib.hid (KA.carry Xe_5.out b6)
        have ZV_6 := Lib.hid (LxV.carry ZV_5.out b6)
        have ZT_6 := Lib.hid (TabJ.below ZT_5.out b6)
        have Zx_6 := Lib.hid (OpAt.later Zx_5.out b6)
        have Zy_6 := Lib.hid (OpAt.later Zy_5.out b6)
        have Ze_6 := Lib.hid (AtX.later Ze_5.out b6)
        have Xa_6 := Lib.hid (kp)
        clear b6 HC6 kp
        have hC7 := name_any ⟨#[98]⟩ w6
        have HC7 := Lib.hid hC7
        clear hC7
        go_wp2_with fail
        refine HC7.out.mono ?_
        rintro e w7 ⟨aq, mq, cq, rfl, kq, b7⟩
        have HB7 := Lib.hid (HB6.out.trans (b7.mono HB6.out.size))
        have Xe_7 := Lib.hid (KA.carry Xe_6.out b7)
        have Xa_7 := Lib.hid (KA.carry Xa_6.out b7)
        have ZV_7 := Lib.hid (LxV.carry ZV_6.out b7)
        have ZT_7 := Lib.hid (TabJ.below ZT_6.out b7)
        have Zx_7 := Lib.hid (OpAt.later Zx_6.out b7)
        have Zy_7 := Lib.hid (OpAt.later Zy_6.out b7)
        have Ze_7 := Lib.hid (AtX.later Ze_6.out b7)
        have Xb_7 := Lib.hid (kq)
        clear b7 HC7 kq
        have hC8 := name_any ⟨#[99]⟩ w7
        have HC8 := Lib.hid hC8
        clear hC8
        go_wp2_with fail
        refine HC8.out.mono ?_
        rintro e w8 ⟨ar, mr, cr, rfl, kr, b8⟩
        have HB8 := Lib.hid (HB7.out.trans (b8.mono HB7.out.size))
        have Xe_8 := Lib.hid (KA.carry Xe_7.out b8)
        have Xa_8 := Lib.hid (KA.carry Xa_7.out b8)
        have Xb_8 := Lib.hid (KA.carry Xb_7.out b8)
        have ZV_8 := Lib.hid (LxV.carry ZV_7.out b8)
        have ZT_8 := Lib.hid (TabJ.below ZT_7.out b8)
        have Zx_8 := Lib.hid (OpAt.later Zx_7.out b8)
        have Zy_8 := Lib.hid (OpAt.later Zy_7.out b8)
        have Ze_8 := Lib.hid (AtX.later Ze_7.out b8)
        have Xc_8 := Lib.hid (kr)
        clear b8 HC8 kr
        try simp only [exV]
        obtain ⟨W9, hW9⟩ : ∃ W, ((w8.alloc (.cells #[.int .i64 0, .int .i64 0, .string ⟨#[]⟩, .int .i64 0, .slice none 0 0] TX)).alloc (.cells #[.int .i64 0, .int .i64 0, .string ⟨#[]⟩, .int .i64 0, .slice none 0 0] TX)).alloc (.cells #[.int .i64 0, .int .i64 0, .string ⟨#[]⟩, .int .i64 0, .slice none 0 0] TX) = W := ⟨_, rfl⟩
        obtain ⟨g1, g2⟩ := threeVars w8 xA xB xC (.slice ap mp cp) (.slice aq mq cq) (.slice ar mr cr) W9 hW9
        obtain ⟨U9, hU9⟩ : ∃ X, W9.setRow w8.heap.size #[.int .i64 xA.k, .int .i64 xA.o, .string xA.s, .int .i64 xA.v, .slice ap mp cp] = X := ⟨_, rfl⟩
        obtain ⟨g3, g4⟩ := g2 _ hU9
        obtain ⟨T9, hT9⟩ : ∃ X, U9.setRow (w8.heap.size + 1) #[.int .i64 xB.k, .int .i64 xB.o, .string xB.s, .int .i64 xB.v, .slice aq mq cq] = X := ⟨_, rfl⟩
        obtain ⟨g5, g6⟩ := g4 _ hT9
        obtain ⟨w9, hw9⟩ : ∃ X, T9.setRow (w8.heap.size + 1 + 1) #[.int .i64 xC.k, .int .i64 xC.o, .string xC.s, .int .i64 xC.v, .slice ar mr cr] = X := ⟨_, rfl⟩
        obtain ⟨b9, g7, g8, g9⟩ := g6 _ hw9
        have HB9 := Lib.hid (HB8.out.trans (b9.mono HB8.out.size))
        have Xe_9 := Lib.hid (KA.carry Xe_8.out b9)
        have Xa_9 := Lib.hid (KA.carry Xa_8.out b9)
        have Xb_9 := Lib.hid (KA.carry Xb_8.out b9)
        have Xc_9 := Lib.hid (KA.carry Xc_8.out b9)
        have ZV_9 := Lib.hid (LxV.carry ZV_8.out b9)
        have ZT_9 := Lib.hid (TabJ.below ZT_8.out b9)
        have Zx_9 := Lib.hid (OpAt.later Zx_8.out b9)
        have Zy_9 := Lib.hid (OpAt.later Zy_8.out b9)
        have Ze_9 := Lib.hid (AtX.later Ze_8.out b9)
        have Zp_9 := Lib.hid g7
        have Zq_9 := Lib.hid g8
        have Zr_9 := Lib.hid g9
        have HG1 := Lib.hid g1
        have HG3 := Lib.hid g3
        have HG5 := Lib.hid g5
        have HW9 := Lib.hid hW9
        have HU9 := Lib.hid hU9
        have HT9 := Lib.hid hT9
        have HX9 := Lib.hid hw9
        clear g1 g2 g3 g4 g5 g6 g7 g8 g9 hW9 hU9 hT9 hw9 b9
        obtain ⟨x0, x1, x2⟩ := Zx_9.out
        simp only [Nat.zero_add] at x1 x2
        obtain ⟨y0, y1, y2⟩ := Zy_9.out
        simp only [Nat.zero_add] at y1 y2
        go_wp2_with (first
          | (rw [HW9.out]; refine wpList_store_row rfl TX (.tmp 11) (.tmp 44) rfl (w8.heap.size) #[.int .i64 xA.k, .int .i64 xA.o, .string xA.s, .int .i64 xA.v, .slice ap mp cp] rfl rfl _ _ HG1.out (by kernel_rfl) rfl (by simp [Value.oneCell']) ?_; rw [HU9.out])
          | (refine wpList_store_row rfl TX (.tmp 12) (.tmp 45) rfl (w8.heap.size + 1) #[.int .i64 xB.k, .int .i64 xB.o, .string xB.s, .int .i64 xB.v, .slice aq mq cq] rfl rfl _ _ HG3.out (by kernel_rfl) rfl (by simp [Value.oneCell']) ?_; rw [HT9.out])
          | (refine wpList_store_row rfl TX (.tmp 13) (.tmp 46) rfl (w8.heap.size + 1 + 1) #[.int .i64 xC.k, .int .i64 xC.o, .string xC.s, .int .i64 xC.v, .slice ar mr cr] rfl rfl _ _ HG5.out (by kernel_rfl) rfl (by simp [Value.oneCell']) ?_; rw [HX9.out]))
        clear x0 x1 x2 y0 y1 y2
        have Zxo_9 := Lib.hid (show w9.cell? ⟨XD.heap.size + 1, 1, none⟩ = some (.int .i64 X.o) from by have := Zx_9.out.2.1; rwa [Nat.zero_add] at this)
        have Zyo_9 := Lib.hid (show w9.cell? ⟨XD.heap.size, 1, none⟩ = some (.int .i64 Y.o) from by have := Zy_9.out.2.1; rwa [Nat.zero_add] at this)
        refine wp_region_held (S := fun w' => AtX w' (w4.heap.size) (0) e (.slice ae me ce) ∧ AtX w' (w8.heap.size) (0) xA (.slice ap mp cp) ∧ AtX w' (w8.heap.size + 1) (0) xB (.slice aq mq cq) ∧ AtX w' (w8.heap.size + 1 + 1) (0) xC (.slice ar mr cr) ∧ w'.cell? ⟨XD.heap.size + 1, 1, none⟩ = some (.int .i64 X.o) ∧ w'.cell? ⟨XD.heap.size, 1, none⟩ = some (.int .i64 Y.o)) (by kernel_rfl) ?_
        change wpAnyH _ _ _ _ _ _ _ _ w9.drew
        obtain ⟨w10, hw10⟩ : ∃ W, w9.drew = W := ⟨_, rfl⟩
        have b10 : Below w9.heap.size w9 w10 := by rw [← hw10]; exact (Below.refl _ _).drew
        have HB10 := Lib.hid (HB9.out.trans (b10.mono HB9.out.size))
        have Xe_10 := Lib.hid (KA.carry Xe_9.out b10)
        have Xa_10 := Lib.hid (KA.carry Xa_9.out b10)
        have Xb_10 := Lib.hid (KA.carry Xb_9.out b10)
        have Xc_10 := Lib.hid (KA.carry Xc_9.out b10)
        have ZV_10 := Lib.hid (LxV.carry ZV_9.out b10)
        have ZT_10 := Lib.hid (TabJ.below ZT_9.out b10)
        have Zx_10 := Lib.hid (OpAt.later Zx_9.out b10)
        have Zy_10 := Lib.hid (OpAt.later Zy_9.out b10)
        have Ze_10 := Lib.hid (AtX.later Ze_9.out b10)
        have Zp_10 := Lib.hid (AtX.later Zp_9.out b10)
        have Zq_10 := Lib.hid (AtX.later Zq_9.out b10)
        have Zr_10 := Lib.hid (AtX.later Zr_9.out b10)
        have Zxo_10 := Lib.hid (cell_lat Zxo_9.out b10)
        have Zyo_10 := Lib.hid (cell_lat Zyo_9.out b10)
        rw [hw10]
        have HDR10 := Lib.hid b10
        clear b10 hw10
        refine wpAnyH_read (i := 0) (v := .int .i64 0) rfl (by kernel_rfl) (by kernel_rfl) (by kernel_rfl) (fun _ _ _ h => h) (by rfl) (fun _ _ => rfl) (⟨Ze_10.out, Zp_10.out, Zq_10.out, Zr_10.out, Zxo_10.out, Zyo_10.out⟩) ?_
        simp only [Act.put, List.setIfInBounds_toArray, List.set_cons_zero, List.set_cons_succ]
        refine wpAnyH_read (i := 1) (v := .bool true) rfl (by kernel_rfl) (by kernel_rfl) (by kernel_rfl) (fun _ _ _ h => h) (by rfl) (fun _ _ => rfl) (⟨Ze_10.out, Zp_10.out, Zq_10.out, Zr_10.out, Zxo_10.out, Zyo_10.out⟩) ?_
        simp only [Act.put, List.setIfInBounds_toArray, List.set_cons_zero, List.set_cons_succ]
        refine wpAnyH_read (i := 2) (v := .bool true) rfl (by kernel_rfl) (by kernel_rfl) (by kernel_rfl) (fun _ _ _ h => h) (by rfl) (fun _ _ => rfl) (⟨Ze_10.out, Zp_10.out, Zq_10.out, Zr_10.out, Zxo_10.out, Zyo_10.out⟩) ?_
        simp only [Act.put, List.setIfInBounds_toArray, List.set_cons_zero, List.set_cons_succ]
        refine wpAnyH_read (i := 3) (v := .agg #[.int .i64 e.k, .int .i64 e.o, .string e.s, .int .i64 e.v, (.slice ae me ce)]) rfl (by kernel_rfl) (by kernel_rfl) (by kernel_rfl) (fun _ _ _ h => h) (by rfl) (by rintro V ⟨⟨r00, r01, r02, r03, r04⟩, ⟨r10, r11, r12, r13, r14⟩, ⟨r20, r21, r22, r23, r24⟩, ⟨r30, r31, r32, r33, r34⟩, z0, z1⟩; simp only [Nat.zero_add] at r01 r02 r03 r04; go_simp) (⟨Ze_10.out, Zp_10.out, Zq_10.out, Zr_10.out, Zxo_10.out, Zyo_10.out⟩) ?_
        simp only [Act.put, List.setIfInBounds_toArray, List.set_cons_zero, List.set_cons_succ]
        refine wpAnyH_read (i := 4) (v := .pointer (some ⟨XD.heap.size, 1, none⟩)) rfl (by kernel_rfl) (by kernel_rfl) (by kernel_rfl) (fun _ _ _ h => h) (by rfl) (fun _ _ => rfl) (⟨Ze_10.out, Zp_10.out, Zq_10.out, Zr_10.out, Zxo_10.out, Zyo_10.out⟩) ?_
        simp only [Act.put, List.setIfInBounds_toArray, List.set_cons_zero, List.set_cons_succ]
        refine wpAnyH_read (i := 5) (v := .int .i64 Y.o) rfl (by kernel_rfl) (by kernel_rfl) (by kernel_rfl) (fun _ _ _ h => h) (by rfl) (by rintro V ⟨⟨r00, r01, r02, r03, r04⟩, ⟨r10, r11, r12, r13, r14⟩, ⟨r20, r21, r22, r23, r24⟩, ⟨r30, r31, r32, r33, r34⟩, z0, z1⟩; go_simp) (⟨Ze_10.out, Zp_10.out, Zq_10.out, Zr_10.out, Zxo_10.out, Zyo_10.out⟩) ?_
        simp only [Act.put, List.setIfInBounds_toArray, List.set_cons_zero, List.set_cons_succ]
        refine wpAnyH_read (i := 6) (v := .pointer (some ⟨XD.heap.size + 1, 1, none⟩)) rfl (by kernel_rfl) (by kernel_rfl) (by kernel_rfl) (fun _ _ _ h => h) (by rfl) (fun _ _ => rfl) (⟨Ze_10.out, Zp_10.out, Zq_10.out, Zr_10.out, Zxo_10.out, Zyo_10.out⟩) ?_
        simp only [Act.put, List.setIfInBounds_toArray, List.set_cons_zero, List.set_cons_succ]
        refine wpAnyH_read (i := 7) (v := .int .i64 X.o) rfl (by kernel_rfl) (by kernel_rfl) (by kernel_rfl) (fun _ _ _ h => h) (by rfl) (by rintro V ⟨⟨r00, r01, r02, r03, r04⟩, ⟨r10, r11, r12, r13, r14⟩, ⟨r20, r21, r22, r23, r24⟩, ⟨r30, r31, r32, r33, r34⟩, z0, z1⟩; go_simp) (⟨Ze_10.out, Zp_10.out, Zq_10.out, Zr_10.out, Zxo_10.out, Zyo_10.out⟩) ?_
        simp only [Act.put, List.setIfInBounds_toArray, List.set_cons_zero, List.set_cons_succ]
        refine wpAnyH_read (i := 8) (v := .agg #[.int .i64 xA.k, .int .i64 xA.o, .string xA.s, .int .i64 xA.v, (.slice ap mp cp)]) rfl (by kernel_rfl) (by kernel_rfl) (by kernel_rfl) (fun _ _ _ h => h) (by rfl) (by rintro V ⟨⟨r00, r01, r02, r03, r04⟩, ⟨r10, r11, r12, r13, r14⟩, ⟨r20, r21, r22, r23, r24⟩, ⟨r30, r31, r32, r33, r34⟩, z0, z1⟩; simp only [Nat.zero_add] at r11 r12 r13 r14; go_simp) (⟨Ze_10.out, Zp_10.out, Zq_10.out, Zr_10.out, Zxo_10.out, Zyo_10.out⟩) ?_
        simp only [Act.put, List.setIfInBounds_toArray, List.set_cons_zero, List.set_cons_succ]
        refine wpAnyH_read (i := 9) (v := .agg #[.int .i64 xB.k, .int .i64 xB.o, .string xB.s, .int .i64 xB.v, (.slice aq mq cq)]) rfl (by kernel_rfl) (by kernel_rfl) (by kernel_rfl) (fun _ _ _ h => h) (by rfl) (by rintro V ⟨⟨r00, r01, r02, r03, r04⟩, ⟨r10, r11, r12, r13, r14⟩, ⟨r20, r21, r22, r23, r24⟩, ⟨r30, r31, r32, r33, r34⟩, z0, z1⟩; simp only [Nat.zero_add] at r21 r22 r23 r24; go_simp) (⟨Ze_10.out, Zp_10.out, Zq_10.out, Zr_10.out, Zxo_10.out, Zyo_10.out⟩) ?_
        simp only [Act.put, List.setIfInBounds_toArray, List.set_cons_zero, List.set_cons_succ]
        refine wpAnyH_read (i := 11) (v := .agg #[.int .i64 xC.k, .int .i64 xC.o, .string xC.s, .int .i64 xC.v, (.slice ar mr cr)]) rfl (by kernel_rfl) (by kernel_rfl) (by kernel_rfl) (fun _ _ _ h => h) (by rfl) (by rintro V ⟨⟨r00, r01, r02, r03, r04⟩, ⟨r10, r11, r12, r13, r14⟩, ⟨r20, r21, r22, r23, r24⟩, ⟨r30, r31, r32, r33, r34⟩, z0, z1⟩; simp only [Nat.zero_add] at r31 r32 r33 r34; go_simp) (⟨Ze_10.out, Zp_10.out, Zq_10.out, Zr_10.out, Zxo_10.out, Zyo_10.out⟩) ?_
        simp only [Act.put, List.setIfInBounds_toArray, List.set_cons_zero, List.set_cons_succ]
        refine wpAnyH_next (i := 10) rfl (by kernel_rfl) ?_
        have hC11 := binary_any X.o xA xB ap mp cp aq mq cq w10 Xa_10.out Xb_10.out
        simp only [exV] at hC11
        have HC11 := Lib.hid hC11
        clear hC11
        go_wp2_with fail
        refine HC11.out.mono ?_
        rintro e w11 ⟨as_, ms, cs, rfl, ks, b11⟩
        have HB11 := Lib.hid (HB10.out.trans (b11.mono HB10.out.size))
        have Xe_11 := Lib.hid (KA.carry Xe_10.out b11)
        have Xa_11 := Lib.hid (KA.carry Xa_10.out b11)
        have Xb_11 := Lib.hid (KA.carry Xb_10.out b11)
        have Xc_11 := Lib.hid (KA.carry Xc_10.out b11)
        have ZV_11 := Lib.hid (LxV.carry ZV_10.out b11)
        have ZT_11 := Lib.hid (TabJ.below ZT_10.out b11)
        have Zx_11 := Lib.hid (OpAt.later Zx_10.out b11)
        have Zy_11 := Lib.hid (OpAt.later Zy_10.out b11)
        have Ze_11 := Lib.hid (AtX.later Ze_10.out b11)
        have Zp_11 := Lib.hid (AtX.later Zp_10.out b11)
        have Zq_11 := Lib.hid (AtX.later Zq_10.out b11)
        have Zr_11 := Lib.hid (AtX.later Zr_10.out b11)
        have Zxo_11 := Lib.hid (cell_lat Zxo_10.out b11)
        have Zyo_11 := Lib.hid (cell_lat Zyo_10.out b11)
        have Xs_11 := Lib.hid (ks)
        clear b11 HC11 ks
        try simp only [exV]
        go_wp2_with fail
        refine ⟨⟨Ze_11.out, Zp_11.out, Zq_11.out, Zr_11.out, Zxo_11.out, Zyo_11.out⟩, ?_⟩
        refine wpAnyH_next (i := 12) rfl (by kernel_rfl) ?_
        have hC12 := binary_any Y.o (biX X.o xA xB) xC as_ ms cs ar mr cr w11 Xs_11.out Xc_11.out
        simp only [exV] at hC12
        have HC12 := Lib.hid hC12
        clear hC12
        go_wp2_with fail
        refine HC12.out.mono ?_
        rintro e w12 ⟨at_, mt, ct, rfl, kt, b12⟩
        have HB12 := Lib.hid (HB11.out.trans (b12.mono HB11.out.size))
        have Xe_12 := Lib.hid (KA.carry Xe_11.out b12)
        have Xa_12 := Lib.hid (KA.carry Xa_11.out b12)
        have Xb_12 := Lib.hid (KA.carry Xb_11.out b12)
        have Xc_12 := Lib.hid (KA.carry Xc_11.out b12)
        have Xs_12 := Lib.hid (KA.carry Xs_11.out b12)
        have ZV_12 := Lib.hid (LxV.carry ZV_11.out b12)
        have ZT_12 := Lib.hid (TabJ.below ZT_11.out b12)
        have Zx_12 := Lib.hid (OpAt.later Zx_11.out b12)
        have Zy_12 := Lib.hid (OpAt.later Zy_11.out b12)
        have Ze_12 := Lib.hid (AtX.later Ze_11.out b12)
        have Zp_12 := Lib.hid (AtX.later Zp_11.out b12)
        have Zq_12 := Lib.hid (AtX.later Zq_11.out b12)
        have Zr_12 := Lib.hid (AtX.later Zr_11.out b12)
        have Zxo_12 := Lib.hid (cell_lat Zxo_11.out b12)
        have Zyo_12 := Lib.hid (cell_lat Zyo_11.out b12)
        have Xt_12 := Lib.hid (kt)
        clear b12 HC12 kt
        try simp only [exV]
        go_wp2_with fail
        refine ⟨⟨Ze_12.out, Zp_12.out, Zq_12.out, Zr_12.out, Zxo_12.out, Zyo_12.out⟩, ?_⟩
        refine wpAnyH_next (i := 13) rfl (by kernel_rfl) ?_
        have hC13 := rEqual_any e (biX Y.o (biX X.o xA xB) xC) (.slice ae me ce) (.slice at_ mt ct) w12 Xe_12.out Xt_12.out HFE.out (by rw [HEE2.out]; exact HFE.out)
        rw [show equE e (biX Y.o (biX X.o xA xB) xC) = true from by rw [HEE2.out]; exact HE2.out] at hC13
        simp only [exV] at hC13
        have HC13 := Lib.hid hC13
        clear hC13
        go_wp2_with fail
        refine HC13.out.mono ?_
        rintro e w13 ⟨rfl, b13⟩
        have HB13 := Lib.hid (HB12.out.trans (b13.mono HB12.out.size))
        have Xe_13 := Lib.hid (KA.carry Xe_12.out b13)
        have Xa_13 := Lib.hid (KA.carry Xa_12.out b13)
        have Xb_13 := Lib.hid (KA.carry Xb_12.out b13)
        have Xc_13 := Lib.hid (KA.carry Xc_12.out b13)
        have Xs_13 := Lib.hid (KA.carry Xs_12.out b13)
        have Xt_13 := Lib.hid (KA.carry Xt_12.out b13)
        have ZV_13 := Lib.hid (LxV.carry ZV_12.out b13)
        have ZT_13 := Lib.hid (TabJ.below ZT_12.out b13)
        have Zx_13 := Lib.hid (OpAt.later Zx_12.out b13)
        have Zy_13 := Lib.hid (OpAt.later Zy_12.out b13)
        have Ze_13 := Lib.hid (AtX.later Ze_12.out b13)
        have Zp_13 := Lib.hid (AtX.later Zp_12.out b13)
        have Zq_13 := Lib.hid (AtX.later Zq_12.out b13)
        have Zr_13 := Lib.hid (AtX.later Zr_12.out b13)
        have Zxo_13 := Lib.hid (cell_lat Zxo_12.out b13)
        have Zyo_13 := Lib.hid (cell_lat Zyo_12.out b13)
        clear b13 HC13
        try simp only [exV]
        go_wp2_with fail
        refine ⟨⟨Ze_13.out, Zp_13.out, Zq_13.out, Zr_13.out, Zxo_13.out, Zyo_13.out⟩, ?_⟩
        refine wpAnyH_read (i := 14) (v := .bool true) rfl (by kernel_rfl) (by kernel_rfl) (by kernel_rfl) (fun _ _ _ h => h) (by rfl) (fun _ _ => rfl) (⟨Ze_13.out, Zp_13.out, Zq_13.out, Zr_13.out, Zxo_13.out, Zyo_13.out⟩) ?_
        simp only [Act.put, List.setIfInBounds_toArray, List.set_cons_zero, List.set_cons_succ]
        refine wpAnyH_read (i := 15) (v := .bool true) rfl (by kernel_rfl) (by kernel_rfl) (by kernel_rfl) (fun _ _ _ h => h) (by rfl) (fun _ _ => rfl) (⟨Ze_13.out, Zp_13.out, Zq_13.out, Zr_13.out, Zxo_13.out, Zyo_13.out⟩) ?_
        simp only [Act.put, List.setIfInBounds_toArray, List.set_cons_zero, List.set_cons_succ]
        refine wpAnyH_next (i := 16) rfl (by kernel_rfl) ?_
        have hC14 := awake_any w13 ZV_13.out ZT_13.out
        have HC14 := Lib.hid hC14
        clear hC14
        go_wp2_with fail
        refine HC14.out.mono ?_
        rintro e w14 ⟨rfl, b14⟩
        have HB14 := Lib.hid (HB13.out.trans (b14.mono HB13.out.size))
        have Xe_14 := Lib.hid (KA.carry Xe_13.out b14)
        have Xa_14 := Lib.hid (KA.carry Xa_13.out b14)
        have Xb_14 := Lib.hid (KA.carry Xb_13.out b14)
        have Xc_14 := Lib.hid (KA.carry Xc_13.out b14)
        have Xs_14 := Lib.hid (KA.carry Xs_13.out b14)
        have Xt_14 := Lib.hid (KA.carry Xt_13.out b14)
        have ZV_14 := Lib.hid (LxV.carry ZV_13.out b14)
        have ZT_14 := Lib.hid (TabJ.below ZT_13.out b14)
        have Zx_14 := Lib.hid (OpAt.later Zx_13.out b14)
        have Zy_14 := Lib.hid (OpAt.later Zy_13.out b14)
        have Ze_14 := Lib.hid (AtX.later Ze_13.out b14)
        have Zp_14 := Lib.hid (AtX.later Zp_13.out b14)
        have Zq_14 := Lib.hid (AtX.later Zq_13.out b14)
        have Zr_14 := Lib.hid (AtX.later Zr_13.out b14)
        have Zxo_14 := Lib.hid (cell_lat Zxo_13.out b14)
        have Zyo_14 := Lib.hid (cell_lat Zyo_13.out b14)
        clear b14 HC14
        try simp only [exV]
        go_wp2_with fail
        refine ⟨⟨Ze_14.out, Zp_14.out, Zq_14.out, Zr_14.out, Zxo_14.out, Zyo_14.out⟩, ?_⟩
        refine wpAnyH_read (i := 17) (v := .bool true) rfl (by kernel_rfl) (by kernel_rfl) (by kernel_rfl) (fun _ _ _ h => h) (by rfl) (fun _ _ => rfl) (⟨Ze_14.out, Zp_14.out, Zq_14.out, Zr_14.out, Zxo_14.out, Zyo_14.out⟩) ?_
        simp only [Act.put, List.setIfInBounds_toArray, List.set_cons_zero, List.set_cons_succ]
        refine wpAnyH_next (i := 18) rfl (by kernel_rfl) ?_
        go_wp2_with fail
        refine ⟨⟨Ze_14.out, Zp_14.out, Zq_14.out, Zr_14.out, Zxo_14.out, Zyo_14.out⟩, ?_⟩
        refine wpAnyH_done (by kernel_rfl) ?_ _
        go_wp2
        go_ret
        exact ⟨rfl, HB14.out⟩

end Go.Proofs.YtdgphhdkeikbaaaDoor
