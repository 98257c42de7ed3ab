/-
  The library's stable sort of a row of up to 12 waiters, by priority.
-/
import Derived.Shelf.SlSortCmp.InsertionK
import Derived.Lib.OwnBridge
import Derived.Test.YtonjempbphnimaaWlMathS
import Derived.Test.YtonjempbphnimaaWlApp
namespace Go.Proofs.Ytonjempbphnimaa
open Go.RowKit Go.Shelf Go.Sort
def Try.insertW_ren : Go.Shelf.Ren := ⟨fun | 20 => 61 | n => n, fun | 24 => 24 | 22 => 22 | 3 => 3 | 25 => 47 | 4 => 4 | 0 => 0 | n => n, fun | n => n⟩
theorem Try.insertW : Go.Proofs.SlLaysF0.n20 Try.prog Try.insertW_ren := {
  mixed := by kernel_rfl
  f20 := ⟨Try.f61.name, by decide, Try.func61.trans (congrArg some (by kernel_rfl))⟩
  t0 := Try.underlying0
  a0 := Try.isAgg0
  z0 := Try.sizeOf0
  v0 := Try.zeroValue0
  t3 := Try.underlying3
  a3 := Try.isAgg3
  z3 := Try.sizeOf3
  v3 := Try.zeroValue3
  t4 := Try.underlying4
  a4 := Try.isAgg4
  z4 := Try.sizeOf4
  v4 := Try.zeroValue4
  t22 := Try.underlying22
  a22 := Try.isAgg22
  z22 := Try.sizeOf22
  v22 := Try.zeroValue22
  t25 := Try.underlying47
  a25 := Try.isAgg47
  z25 := Try.sizeOf47
  v25 := Try.zeroValue47 }
def cmpW (x y : Wl) : Int := IntKind.i64.wrap (y.2.2.2.1 - x.2.2.2.1)
theorem ltW_cmp : LtW (ltOf cmpW) := by
  intro x y hx hy
  obtain ⟨_, _, _, h1, _⟩ := okW_iff.1 hx
  obtain ⟨_, _, _, h2, _⟩ := okW_iff.1 hy
  unfold ltOf cmpW
  rw [IntWalk.i64_in _ (by omega)]
  by_cases h : y.2.2.2.1 < x.2.2.2.1
  · rw [decide_eq_true h, decide_eq_true (by omega)]
  · rw [decide_eq_false h, decide_eq_false (by omega)]
set_option maxRecDepth 100000 in
theorem prio2_any (a b c d f x0 x1 x2 x3 x4 : Int) (W : World) : Calls Try.prog 34 #[.agg #[.int .i64 a, .int .i64 b, .int .i64 c, .int .i64 d, .int .i64 f], .agg #[.int .i64 x0, .int .i64 x1, .int .i64 x2, .int .i64 x3, .int .i64 x4]] W fun e w' => e = .returned (.int .i64 (cmpW (a, b, c, d, f) (x0, x1, x2, x3, x4))) ∧ ∃ q os', w' = grow (W.drewN q) os' := by
  have hw : ∀ z, IntKind.i64.wrap (x3 - d) = z → cmpW (a, b, c, d, f) (x0, x1, x2, x3, x4) = z := fun z h => h
  obtain ⟨z, hz⟩ : ∃ z, IntKind.i64.wrap (x3 - d) = z := ⟨_, rfl⟩
  rw [hw z hz]
  clear hw
  go_enter Try.func34, Try.ntmps34
  go_wp2
  go_ret
  exact ⟨by rw [← hz]; rfl, 0, _, by rw [alloc_eq_grow, alloc_eq_grow, grow_grow]; rfl⟩
theorem flat_wl (ts : List Wl) (j : Nat) (hj : j < ts.length * 5) : (wlV ts)[j]? = some (flatK encW 5 ts.toArray)[j]! := by
  have hi : j / 5 < ts.length := by omega
  rw [get_flatK encW 5 ts.toArray j (by simpa using hj), arr_gw ts (j / 5) hi]
  have h := wlV_get ts (j / 5) (j % 5) hi (Nat.mod_lt _ (by decide))
  rw [show j / 5 * 5 + j % 5 = j by omega] at h
  rw [h]
  have h5 := encW_get (gw ts (j / 5)) (j % 5) (Nat.mod_lt _ (by decide))
  have : (encW (gw ts (j / 5)))[j % 5]! = .int .i64 (fldW (gw ts (j / 5)) (j % 5)) := by
    rw [getElem!_pos _ _ (by rw [encW_length]; exact Nat.mod_lt _ (by decide))]
    exact (List.getElem?_eq_some_iff.1 h5).2
  rw [← this]
theorem OwnW.holds {B g cap : Nat} {ts : List Wl} {w : World} (h : OwnW B ts (.slice (some ⟨g, 0, none⟩) ts.length cap) w) : HoldsK encW 5 w g 0 ts.toArray := by
  have h : w.ownsRow B TW 5 (.slice (some ⟨g, 0, none⟩) ts.length cap) ts.length (wlV ts) := h
  intro j hj
  rw [size_flatK] at hj
  have hj' : j < ts.length * 5 := by simpa using hj
  rw [Nat.zero_add]
  exact ⟨by rw [World.ownsRow.cellAt h j hj', flat_wl ts j hj']; rfl, World.ownsRow.frozenAt h j⟩
theorem holds_wla {g : Nat} {ts : List Wl} {w : World} (h : HoldsK encW 5 w g 0 ts.toArray) : WlA (fun _ => True) w (some ⟨g, 0, none⟩) ts := by
  intro j hj
  have hc := fun c hc => (HoldsK.cell h (i := j) (c := c) (by simpa using hj) hc).1
  rw [arr_gw ts j hj] at hc
  have h0 := hc 0 (by omega)
  have h1 := hc 1 (by omega)
  have h2 := hc 2 (by omega)
  have h3 := hc 3 (by omega)
  have h4 := hc 4 (by omega)
  exact ⟨g, 0, rfl, trivial, World.block_lt_of_cell? _ _ h0, h0, h1, h2, h3, h4⟩
theorem below_growW (B : Nat) (w : World) (hB : B ≤ w.heap.size) (os : Array Obj) : Below B w (grow w os) :=
  ⟨rfl, rfl, rfl, by show w.heap.size ≤ (w.heap ++ os).size; rw [Array.size_append]; omega, fun j hj => by show (w.heap ++ os)[j]? = w.heap[j]?; exact Array.getElem?_append_left (by omega)⟩
set_option maxRecDepth 100000 in
theorem wInsertion_any (B g cap : Nat) (ts : List Wl) (w : World) (hO : OwnW B ts (.slice (some ⟨g, 0, none⟩) ts.length cap) w) (hl : ts.length ≤ 12) (ho : ∀ t ∈ ts, okW t = true) (hB : B ≤ g) (hcap : ts.length ≤ cap) (hcm : cap ≤ 9223372036854775807) :
    Calls Try.prog 61 #[.slice (some ⟨g, 0, none⟩) ts.length cap, .int .i64 0, .int .i64 ts.length, .func (.func 34) #[] #[]] w fun e w' => e = .returned (.tuple #[]) ∧ KwC w' (.slice (some ⟨g, 0, none⟩) ts.length cap) (foldK 2 ts) ∧ Below B w w' := by
  have hH := hO.holds
  have hgl : g < w.heap.size := (World.ownsRow.lt (show w.ownsRow B TW 5 _ ts.length (wlV ts) from hO) g rfl).2
  have h := AnyQ.insertionSortCmpFunc Try.insertW 5 Try.isAgg24 Try.sizeOf24 encW (fun _ => rfl) (fun x v hv => encW_one x v hv) cmpW 34 #[] g 0 cap 0 ts.length ts.toArray w (enters_of Try.func34 (by kernel_rfl) rfl) (fun _ _ _ _ x y => prio2_any x.1 x.2.1 x.2.2.1 x.2.2.2.1 x.2.2.2.2 y.1 y.2.1 y.2.2.1 y.2.2.2.1 y.2.2.2.2 _) hH hgl (Nat.zero_le _) (by simp) (by simp; omega)
  rw [show ts.toArray.size = ts.length by simp, ins_sort ltW_cmp ts ho] at h
  have hfl : (foldK 2 ts).length = ts.length := by have := foldK_length 2 ts ts.length (Nat.le_refl _); rwa [List.take_length] at this
  refine h.mono ?_
  rintro e w' ⟨rfl, n, os, rfl⟩
  refine ⟨rfl, ⟨some ⟨g, 0, none⟩, cap, by rw [hfl], by omega, hcm, holds_wla (holdsK_sortWorldK_c encW 5 w g 0 ts.toArray _ n os hH hgl (by simp [hfl]))⟩, ?_⟩
  have hb : Below B w (putRowK encW 5 (Sort.ahead w n) g 0 (foldK 2 ts).toArray) := Lib.below_putRow (Below.refl _ w) hB
  exact hb.trans (below_growW B _ (Nat.le_trans (Nat.le_trans hB (Nat.le_of_lt hgl)) hb.size) os)

set_option maxRecDepth 100000 in
theorem wInsertion_none (v : Value) (w : World) : Calls Try.prog 61 #[v, .int .i64 0, .int .i64 0, .func (.func 34) #[] #[]] w fun e w' => e = .returned (.tuple #[]) ∧ w = w' := by
  go_enter Try.func61, Try.ntmps61
  go_wp2
  go_loopw [8] (fun x wr => x = .int .i64 1 ∧ wr = w) (fun _ _ => 0)
  case atStart => exact ⟨rfl, rfl⟩
  case round =>
    obtain ⟨rfl, rfl⟩ := hrel
    go_wp2
    go_end0
    exact ⟨rfl, rfl⟩
/-- The stable sort of a row of the call's own. -/
theorem wInsertion_own (B : Nat) (v : Value) (ts : List Wl) (w : World) (hO : OwnW B ts v w) (hl : ts.length ≤ 12) (ho : ∀ t ∈ ts, okW t = true) :
    Calls Try.prog 61 #[v, .int .i64 0, .int .i64 ts.length, .func (.func 34) #[] #[]] w fun e w' => e = .returned (.tuple #[]) ∧ KwC w' v (foldK 2 ts) ∧ Below B w w' := by
  have hO' : w.ownsRow B TW 5 v ts.length (wlV ts) := hO
  by_cases h0 : ts.length = 0
  · have : ts = [] := List.eq_nil_of_length_eq_zero h0
    subst this
    refine (wInsertion_none v w).mono ?_
    rintro e w' ⟨rfl, rfl⟩
    exact ⟨rfl, (OwnW.fresh hO).known, Below.refl _ _⟩
  · rcases hO'.2 with ⟨_, h2⟩ | ⟨g, cap, cur, rfl, hb, _, h1, h2, _⟩
    · exact absurd h2 h0
    · exact wInsertion_any B g cap ts w hO hl ho hb h1 (by unfold maxLen at h2; omega)

set_option maxRecDepth 100000 in
set_option maxHeartbeats 2000000 in
theorem wStable_any (B : Nat) (v : Value) (ts : List Wl) (w : World) (hO : OwnW B ts v w) (hl : ts.length ≤ 12) (ho : ∀ t ∈ ts, okW t = true) :
    Calls Try.prog 52 #[v, .int .i64 ts.length, .func (.func 34) #[] #[]] w fun e w' => e = .returned (.tuple #[]) ∧ KwC w' v (foldK 2 ts) ∧ Below B w w' := by
  have HI := Lib.hid (wInsertion_own B v ts w hO hl ho)
  have n1 : ¬ (20 : Int) ≤ (ts.length : Int) := by omega
  have n2 : decide ((20 : Int) ≤ (ts.length : Int)) = false := decide_eq_false n1
  have n3 : ¬ (20 : Int) < (ts.length : Int) := by omega
  have n4 : decide ((20 : Int) < (ts.length : Int)) = false := decide_eq_false n3
  clear hO
  go_enter Try.func52, Try.ntmps52
  go_wp2
  go_loopw [7, 8] (fun a b wr => a = .int .i64 0 ∧ b = .int .i64 20 ∧ wr = w) (fun _ _ _ => 0)
  case atStart => exact ⟨rfl, rfl, rfl⟩
  case round =>
    obtain ⟨rfl, rfl, rfl⟩ := hrel
    go_wp2_with fail
    refine HI.out.mono ?_
    rintro e w1 ⟨rfl, k1, b1⟩
    have K1 := Lib.hid k1
    have B1 := Lib.hid b1
    clear k1 b1
    go_wp2
    go_loopw [6] (fun a wr' => a = .int .i64 20 ∧ wr' = w1) (fun _ _ => 0)
    case atStart => exact ⟨rfl, rfl⟩
    case round =>
      obtain ⟨rfl, rfl⟩ := hrel
      go_wp2
      go_end0
      exact ⟨rfl, K1.out, B1.out⟩
set_option maxRecDepth 100000 in
theorem wSort_any (B : Nat) (v : Value) (ts : List Wl) (w : World) (hO : OwnW B ts v w) (hl : ts.length ≤ 12) (ho : ∀ t ∈ ts, okW t = true) :
    Calls Try.prog 33 #[v, .func (.func 34) #[] #[]] w fun e w' => e = .returned (.tuple #[]) ∧ KwC w' v (foldK 2 ts) ∧ Below B w w' := by
  have HI := Lib.hid (wStable_any B v ts w hO hl ho)
  obtain ⟨ad, cap, rfl, -, -, -⟩ := (OwnW.fresh hO).known
  clear hO
  go_enter Try.func33, Try.ntmps33
  go_wp2_with fail
  refine HI.out.mono ?_
  rintro e w1 ⟨rfl, k1, b1⟩
  have K1 := Lib.hid k1
  have B1 := Lib.hid b1
  clear k1 b1
  go_wp2
  go_end0
  exact ⟨rfl, K1.out, B1.out⟩

end Go.Proofs.Ytonjempbphnimaa
