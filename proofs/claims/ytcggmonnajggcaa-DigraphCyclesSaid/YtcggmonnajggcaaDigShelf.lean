/-
  The library's functions over edges and over numbers, as digraph's statements call them.
-/
import Derived.Shelf.Slices.Turned
import Derived.Shelf.Slices.Equal
import Derived.Shelf.Slices.Clone
import Derived.Shelf.Slices.CompactI
import Derived.Shelf.Slices.SearchI
import Derived.Shelf.Slices.Cells
import Derived.Shelf.SlicesQ.Equal
import Derived.Shelf.SlicesQ.Contains
import Derived.Shelf.SlicesQ.IndexFunc
import Derived.Shelf.SlSorted.IsSorted
import Derived.Laws.StructEq
import Derived.Test.YtcggmonnajggcaaRefClosure
import Derived.Test.YtcggmonnajggcaaIntsA
namespace Go.Proofs.Ytcggmonnajggcaa
open Go.Shelf Go.RowKit Go.Lib
def Try.eqEdges_ren : Go.Shelf.Ren := ⟨fun | 8 => 29 | n => n, fun | 22 => 22 | 24 => 40 | 4 => 4 | 3 => 3 | 0 => 0 | n => n, fun | n => n⟩
theorem Try.eqEdges : Go.Proofs.SlLaysQ.n8 Try.prog Try.eqEdges_ren := {
  mixed := by kernel_rfl
  f8 := ⟨Try.f29.name, by decide, Try.func29.trans (congrArg some (by kernel_rfl))⟩
  t0 := Try.underlying0
  a0 := Try.isAgg0
  z0 := Try.sizeOf0
  v0 := Try.zeroValue0
  t3 := Try.underlying3
  a3 := Try.isAgg3
  z3 := Try.sizeOf3
  v3 := Try.zeroValue3
  t4 := Try.underlying4
  a4 := Try.isAgg4
  z4 := Try.sizeOf4
  v4 := Try.zeroValue4
  t22 := Try.underlying22
  a22 := Try.isAgg22
  z22 := Try.sizeOf22
  v22 := Try.zeroValue22 }
def Try.hasEdge_ren : Go.Shelf.Ren := ⟨fun | 7 => 37 | 6 => 57 | n => n, fun | 22 => 22 | 24 => 40 | 4 => 4 | 0 => 0 | 3 => 3 | n => n, fun | n => n⟩
theorem Try.hasEdge : Go.Proofs.SlLaysQ.n7 Try.prog Try.hasEdge_ren := {
  mixed := by kernel_rfl
  f6 := ⟨Try.f57.name, by decide, Try.func57.trans (congrArg some (by kernel_rfl))⟩
  f7 := ⟨Try.f37.name, by decide, Try.func37.trans (congrArg some (by kernel_rfl))⟩
  t0 := Try.underlying0
  a0 := Try.isAgg0
  z0 := Try.sizeOf0
  v0 := Try.zeroValue0
  t3 := Try.underlying3
  a3 := Try.isAgg3
  z3 := Try.sizeOf3
  v3 := Try.zeroValue3
  t4 := Try.underlying4
  a4 := Try.isAgg4
  z4 := Try.sizeOf4
  v4 := Try.zeroValue4
  t22 := Try.underlying22
  a22 := Try.isAgg22
  z22 := Try.sizeOf22
  v22 := Try.zeroValue22 }
def Try.someEdge_ren : Go.Shelf.Ren := ⟨fun | 8 => 35 | 6 => 56 | n => n, fun | 22 => 22 | 23 => 40 | 25 => 45 | 4 => 4 | 3 => 3 | 0 => 0 | n => n, fun | n => n⟩
theorem Try.someEdge : Go.Proofs.SlLaysH0.n8 Try.prog Try.someEdge_ren := {
  mixed := by kernel_rfl
  f6 := ⟨Try.f56.name, by decide, Try.func56.trans (congrArg some (by kernel_rfl))⟩
  f8 := ⟨Try.f35.name, by decide, Try.func35.trans (congrArg some (by kernel_rfl))⟩
  t0 := Try.underlying0
  a0 := Try.isAgg0
  z0 := Try.sizeOf0
  v0 := Try.zeroValue0
  t3 := Try.underlying3
  a3 := Try.isAgg3
  z3 := Try.sizeOf3
  v3 := Try.zeroValue3
  t4 := Try.underlying4
  a4 := Try.isAgg4
  z4 := Try.sizeOf4
  v4 := Try.zeroValue4
  t22 := Try.underlying22
  a22 := Try.isAgg22
  z22 := Try.sizeOf22
  v22 := Try.zeroValue22
  t25 := Try.underlying45
  a25 := Try.isAgg45
  z25 := Try.sizeOf45
  v25 := Try.zeroValue45 }
def Try.eqInts_ren : Go.Shelf.Ren := ⟨fun | 111 => 15 | n => n, fun | 28 => 28 | 3 => 3 | 4 => 4 | 0 => 0 | n => n, fun | n => n⟩
theorem Try.eqInts : Go.Proofs.Lays.n111 Try.prog Try.eqInts_ren := {
  mixed := by kernel_rfl
  f111 := Try.func15.trans (congrArg some (by kernel_rfl))
  t0 := Try.underlying0
  a0 := Try.isAgg0
  z0 := Try.sizeOf0
  v0 := Try.zeroValue0
  t3 := Try.underlying3
  a3 := Try.isAgg3
  z3 := Try.sizeOf3
  v3 := Try.zeroValue3
  t4 := Try.underlying4
  a4 := Try.isAgg4
  z4 := Try.sizeOf4
  v4 := Try.zeroValue4
  t28 := Try.underlying28
  a28 := Try.isAgg28
  z28 := Try.sizeOf28
  v28 := Try.zeroValue28 }
def Try.hasInt_ren : Go.Shelf.Ren := ⟨fun | 107 => 30 | 108 => 54 | n => n, fun | 28 => 28 | 3 => 3 | 4 => 4 | 0 => 0 | n => n, fun | n => n⟩
theorem Try.hasInt : Go.Proofs.Lays.n107 Try.prog Try.hasInt_ren := {
  mixed := by kernel_rfl
  f107 := Try.func30.trans (congrArg some (by kernel_rfl))
  f108 := Try.func54.trans (congrArg some (by kernel_rfl))
  t0 := Try.underlying0
  a0 := Try.isAgg0
  z0 := Try.sizeOf0
  v0 := Try.zeroValue0
  t3 := Try.underlying3
  a3 := Try.isAgg3
  z3 := Try.sizeOf3
  v3 := Try.zeroValue3
  t4 := Try.underlying4
  a4 := Try.isAgg4
  z4 := Try.sizeOf4
  v4 := Try.zeroValue4
  t28 := Try.underlying28
  a28 := Try.isAgg28
  z28 := Try.sizeOf28
  v28 := Try.zeroValue28 }
def Try.sortedInts_ren : Go.Shelf.Ren := ⟨fun | 10 => 31 | 18 => 55 | 24 => 67 | n => n, fun | 22 => 28 | 24 => 3 | 4 => 4 | 3 => 3 | 0 => 0 | n => n, fun | n => n⟩
theorem Try.sortedInts : Go.Proofs.SlLaysO.n10 Try.prog Try.sortedInts_ren := {
  mixed := by kernel_rfl
  f10 := ⟨Try.f31.name, by decide, Try.func31.trans (congrArg some (by kernel_rfl))⟩
  f18 := ⟨Try.f55.name, by decide, Try.func55.trans (congrArg some (by kernel_rfl))⟩
  f24 := ⟨Try.f67.name, by decide, Try.func67.trans (congrArg some (by kernel_rfl))⟩
  t0 := Try.underlying0
  a0 := Try.isAgg0
  z0 := Try.sizeOf0
  v0 := Try.zeroValue0
  t3 := Try.underlying3
  a3 := Try.isAgg3
  z3 := Try.sizeOf3
  v3 := Try.zeroValue3
  t4 := Try.underlying4
  a4 := Try.isAgg4
  z4 := Try.sizeOf4
  v4 := Try.zeroValue4
  t22 := Try.underlying28
  a22 := Try.isAgg28
  z22 := Try.sizeOf28
  v22 := Try.zeroValue28
  t24 := Try.underlying3
  a24 := Try.isAgg3
  z24 := Try.sizeOf3
  v24 := Try.zeroValue3 }
/-- An edge's two cells. -/
def encE (x : Int × Int) : List Value := [.int .i64 x.1, .int .i64 x.2]
def sameB (x y : Int × Int) : Bool := x.1 == y.1 && x.2 == y.2
theorem sameB_eq (x y : Int × Int) : sameB x y = decide (x = y) := by
  obtain ⟨a, b⟩ := x
  obtain ⟨c, d⟩ := y
  unfold sameB
  by_cases h1 : a = c <;> by_cases h2 : b = d <;> simp [h1, h2]
/-- The model's comparison of two edges. -/
theorem run_sameE (x y : Int × Int) (w : World) : (Op.equalIn 10000 TE (.agg (encE x).toArray) (.agg (encE y).toArray)).run Try.prog w = .ok (sameB x y) w := by
  have hS : Try.prog.underlying TE = some (.struct (Try.prog.fieldsOf TE)) := by kernel_rfl
  have hp : Try.prog.stoodInHeld TE = false := by kernel_rfl
  have u := Try.underlying3
  have a := Try.isAgg3
  have z := Try.sizeOf3
  simp only [encE]
  rw [show (10000 : Nat) = 9999 + 1 from rfl, run_equalIn_struct w 9999 TE _ _ hS hp]
  simp only [Program.fieldsOf, TE, Try.underlying40]
  go_simp
  unfold sameB
  by_cases h1 : x.1 = y.1 <;> by_cases h2 : x.2 = y.2 <;> simp [h1, h2]
theorem eqE : EqlAt Try.prog TE (fun x => .agg (encE x).toArray) sameB := by
  refine ⟨fun x y w => ?_, GuardAt.agg _ (by kernel_rfl)⟩
  rw [run_eql_struct, run_sameE]
  rfl
theorem neE : NeqAt Try.prog TE (fun x => .agg (encE x).toArray) sameB := by
  refine ⟨fun x y w => ?_, GuardAt.agg _ (by kernel_rfl)⟩
  rw [run_neq_struct, run_sameE]
  rfl

/-- The numbers of a list of nodes. -/
def intsOf (l : List Nat) : List Int := l.map fun (x : Nat) => (x : Int)
theorem intsOf_length (l : List Nat) : (intsOf l).length = l.length := by simp [intsOf]
theorem intsOf_inj {a b : List Nat} : intsOf a = intsOf b ↔ a = b := by
  constructor
  · intro h
    induction a generalizing b with
    | nil => cases b with
      | nil => rfl
      | cons y b => cases h
    | cons x a ih =>
      cases b with
      | nil => cases h
      | cons y b =>
        simp only [intsOf, List.map_cons, List.cons.injEq] at h
        rw [ih h.2, show x = y by omega]
  · rintro rfl
    rfl
theorem RowN.ints {B : Nat} {l : List Nat} {v : Value} {w : World} (h : RowN B l v w) : ∃ a c, v = .slice a (intsOf l).length c ∧ IntsA w.heap.size w a (intsOf l) := by
  obtain ⟨g, cap, rfl, h⟩ := h
  refine ⟨_, cap, by rw [intsOf_length], fun j hj => ⟨g, 0, rfl, (World.ownsRow.lt h g rfl).2, ?_⟩⟩
  rw [intsOf_length] at hj
  rw [Nat.zero_add, World.ownsRow.cellAt h j (by omega), natV, intsOf, List.getElem?_map, List.getElem?_map, List.getElem?_eq_getElem hj]
  rfl
/-- slices.Equal of two slices of ints. -/
theorem eqInts_any (n m : Nat) (a b : Option Addr) (c d : Nat) (za zb : List Int) (w : World) (ha : IntsA n w a za) (hb : IntsA m w b zb) (hla : za.length ≤ 9223372036854775807) (hlb : zb.length ≤ 9223372036854775807) :
    Calls Try.prog 15 #[.slice a za.length c, .slice b zb.length d] w fun e w' => e = .returned (.bool (decide (za = zb))) ∧ ∃ q, w' = w.drewN q := by
  by_cases hl : za.length = zb.length
  · by_cases h1 : za.length = 0
    · have e1 : za = [] := List.eq_nil_of_length_eq_zero h1
      have e2 : zb = [] := List.eq_nil_of_length_eq_zero (by omega)
      subst e1; subst e2
      refine (Any.slices_Equal_int_empty Try.eqInts a b c 0 d w (by omega)).mono ?_
      rintro e w' ⟨rfl, rfl⟩
      exact ⟨rfl, 0, rfl⟩
    · obtain ⟨b1, o1, rfl, _, c1⟩ := ha.some_ (by omega)
      obtain ⟨b2, o2, rfl, _, c2⟩ := hb.some_ (by omega)
      have hd : (za.take za.length == zb.take zb.length) = decide (za = zb) := by
        rw [List.take_length, List.take_length, Bool.eq_iff_iff]
        simp
      rw [← hd]
      exact Any.slices_Equal_int Try.eqInts b1 o1 za.length c b2 o2 zb.length d za zb w (Nat.le_refl _) (Nat.le_refl _) hla hlb (fun j hj => by rw [List.getD_eq_getElem?_getD]; exact c1 j hj) (fun j hj => by rw [List.getD_eq_getElem?_getD]; exact c2 j hj)
  · have hd : decide (za = zb) = false := by
      rw [decide_eq_false_iff_not]
      rintro rfl
      exact hl rfl
    have hne : ((za.length : Int) != (zb.length : Int)) = true := by rw [bne_iff_ne]; omega
    rw [hd]
    clear ha hb hl hd
    go_enter Try.func15, Try.ntmps15
    go_wp2
    go_ret
    exact ⟨rfl, 0, rfl⟩
/-- slices.Contains of a slice of ints. -/
theorem hasInt_any (n : Nat) (a : Option Addr) (c : Nat) (zs : List Int) (x : Int) (w : World) (ha : IntsA n w a zs) (hl : zs.length ≤ 9223372036854775807) :
    Calls Try.prog 30 #[.slice a zs.length c, .int .i64 x] w fun e w' => e = .returned (.bool (zs.contains x)) ∧ w' = w := by
  by_cases h1 : zs.length = 0
  · have e1 : zs = [] := List.eq_nil_of_length_eq_zero h1
    subst e1
    exact Any.slices_Contains_int_empty Try.hasInt a c x w
  · obtain ⟨b1, o1, rfl, _, c1⟩ := ha.some_ (by omega)
    have h := Any.slices_Contains_int Try.hasInt b1 o1 zs.length c zs x w (Nat.le_refl _) hl (fun j hj => by rw [List.getD_eq_getElem?_getD]; exact c1 j hj)
    rw [List.take_length] at h
    exact h

/-- The edges of a list of pairs of nodes. -/
def edgesOf (l : List (Nat × Nat)) : List (Int × Int) := l.map fun e => ((e.1 : Int), (e.2 : Int))
theorem edgesOf_length (l : List (Nat × Nat)) : (edgesOf l).length = l.length := by simp [edgesOf]
theorem edgesOf_inj {a b : List (Nat × Nat)} : edgesOf a = edgesOf b ↔ a = b := by
  constructor
  · intro h
    induction a generalizing b with
    | nil => cases b with
      | nil => rfl
      | cons y b => cases h
    | cons x a ih =>
      cases b with
      | nil => cases h
      | cons y b =>
        simp only [edgesOf, List.map_cons, List.cons.injEq, Prod.mk.injEq] at h
        rw [ih h.2, show x = y from Prod.ext (by omega) (by omega)]
  · rintro rfl
    rfl
theorem edV_get (l : List (Nat × Nat)) (j : Nat) (hj : j < l.length) : (edV l)[j * 2]? = some (.int .i64 (l[j].1 : Int)) ∧ (edV l)[j * 2 + 1]? = some (.int .i64 (l[j].2 : Int)) := by
  induction l generalizing j with
  | nil => cases hj
  | cons x l ih =>
    cases j with
    | zero => exact ⟨rfl, rfl⟩
    | succ j =>
      have h := ih j (by simpa using hj)
      have e1 : (j + 1) * 2 = j * 2 + 1 + 1 := by omega
      rw [e1]
      exact ⟨h.1, h.2⟩
theorem RowE.edges {B : Nat} {l : List (Nat × Nat)} {v : Value} {w : World} (h : RowE B l v w) : ∃ a c, v = .slice a (edgesOf l).length c ∧ EdgesA w.heap.size w a (edgesOf l) := by
  obtain ⟨g, cap, rfl, h⟩ := h
  refine ⟨_, cap, by rw [edgesOf_length], fun j hj => ⟨g, 0, rfl, (World.ownsRow.lt h g rfl).2, ?_, ?_⟩⟩
  · rw [edgesOf_length] at hj
    rw [Nat.zero_add, World.ownsRow.cellAt h _ (by omega), (edV_get l j hj).1, edgesOf, List.getElem?_map, List.getElem?_eq_getElem hj]
    rfl
  · rw [edgesOf_length] at hj
    rw [Nat.zero_add, World.ownsRow.cellAt h _ (by omega), (edV_get l j hj).2, edgesOf, List.getElem?_map, List.getElem?_eq_getElem hj]
    rfl
theorem enc_cells {off b : Nat} {es : List (Int × Int)} {w : World} (h : ∀ j, j < es.length → w.cell? ⟨b, off + j * 2, none⟩ = some (.int .i64 (es[j]?.getD (0, 0)).1) ∧ w.cell? ⟨b, off + j * 2 + 1, none⟩ = some (.int .i64 (es[j]?.getD (0, 0)).2)) : ∀ j, j < es.length → ∀ i v, (encE es[j]!)[i]? = some v → w.cell? ⟨b, off + j * 2 + i, none⟩ = some v := by
  intro j hj i v hi
  obtain ⟨h1, h2⟩ := h j hj
  have e : es[j]! = es[j]?.getD (0, 0) := by simp [hj]
  rw [e] at hi
  match i, hi with
  | 0, hi => simp [encE] at hi; rw [← hi]; simpa using h1
  | 1, hi => simp [encE] at hi; rw [← hi]; simpa using h2
  | i + 2, hi => simp [encE] at hi

theorem allEq_same (a b : List (Int × Int)) : Lib.allEq sameB a b = decide (a = b) := by
  induction a generalizing b with
  | nil => cases b <;> simp [Lib.allEq]
  | cons x a ih =>
    cases b with
    | nil => simp [Lib.allEq]
    | cons y b =>
      rw [Lib.allEq, ih b, sameB_eq, Bool.eq_iff_iff]
      simp
/-- slices.Equal of two slices of edges. -/
theorem eqEdges_any (n m : Nat) (a b : Option Addr) (c d : Nat) (za zb : List (Int × Int)) (w : World) (ha : EdgesA n w a za) (hb : EdgesA m w b zb) (hla : za.length ≤ 9223372036854775807) (hlb : zb.length ≤ 9223372036854775807) :
    Calls Try.prog 29 #[.slice a za.length c, .slice b zb.length d] w fun e w' => e = .returned (.bool (decide (za = zb))) ∧ ∃ q, w' = w.drewN q := by
  by_cases hl : za.length = zb.length
  · by_cases h1 : za.length = 0
    · have e1 : za = [] := List.eq_nil_of_length_eq_zero h1
      have e2 : zb = [] := List.eq_nil_of_length_eq_zero (by omega)
      subst e1; subst e2
      clear ha hb hl h1
      go_enter Try.func29, Try.ntmps29
      go_wp2
      go_loopw [13] (fun i wr => i = .int .i64 0 ∧ wr = w) (fun _ _ => 0)
      case atStart => exact ⟨rfl, rfl⟩
      case round =>
        obtain ⟨rfl, rfl⟩ := hrel
        go_wp2
        go_ret
        exact ⟨rfl, 0, rfl⟩
    · obtain ⟨b1, o1, rfl, _, c1⟩ := ha.some_ (by omega)
      obtain ⟨b2, o2, rfl, _, c2⟩ := hb.some_ (by omega)
      have h := AnyQ.slices_Equal Try.eqEdges 2 Try.isAgg40 Try.sizeOf40 encE (fun _ => rfl) sameB neE b1 o1 za.length c b2 o2 zb.length d za zb w (Nat.le_refl _) (Nat.le_refl _) hla hlb (enc_cells c1) (enc_cells c2)
      rw [List.take_length, List.take_length, allEq_same] at h
      exact h
  · have hd : decide (za = zb) = false := by
      rw [decide_eq_false_iff_not]
      rintro rfl
      exact hl rfl
    have hne : ((za.length : Int) != (zb.length : Int)) = true := by rw [bne_iff_ne]; omega
    rw [hd]
    clear ha hb hl hd
    go_enter Try.func29, Try.ntmps29
    go_wp2
    go_ret
    exact ⟨rfl, 0, rfl⟩

end Go.Proofs.Ytcggmonnajggcaa
