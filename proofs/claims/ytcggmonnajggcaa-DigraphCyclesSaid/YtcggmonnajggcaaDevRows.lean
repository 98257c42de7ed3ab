/-
  What the program's forEachNode of digraph returns: a row for each node.
-/
import Derived.Test.YtcggmonnajggcaaDevReach
import Derived.Test.YtcggmonnajggcaaComponents
namespace Go.Proofs.Ytcggmonnajggcaa
open Go.RowKit

/-- A slice of k slices, each of which holds the N values of its number, in rows of the call's own. -/
def RowsAt (B : Nat) (TS TE : TypeId) (N : Nat) (f : Nat → List Value) (k : Nat) (v : Value) (w : World) : Prop :=
  ∃ vs, w.ownsRow B TS 1 v k vs ∧ vs.length = k ∧ ∀ (i : Nat) (x : Value), vs[i]? = some x → ∃ G, x = .slice (some ⟨G, 0, none⟩) N N ∧ w.ownsRow B TE 1 x N (f i)
theorem RowsAt.nil (B : Nat) (TS TE : TypeId) (N : Nat) (f : Nat → List Value) (w : World) : RowsAt B TS TE N f 0 (.slice none 0 0) w := ⟨[], World.ownsRow_nil _ _ _ _, rfl, fun i x hx => by simp at hx⟩
theorem RowsAt.far {B B0 : Nat} {TS TE : TypeId} {N : Nat} {f : Nat → List Value} {k : Nat} {v : Value} {w w' : World} {row : Option Nat} (h : RowsAt B TS TE N f k v w) (hg : w.grownBy w' row) (hr : RowFar B0 w row) : RowsAt B TS TE N f k v w' := by
  obtain ⟨vs, h1, h2, h3⟩ := h
  refine ⟨vs, own_far h1 hg hr, h2, fun i x hx => ?_⟩
  obtain ⟨G, e, h4⟩ := h3 i x hx
  exact ⟨G, e, own_far h4 hg hr⟩
theorem RowsAt.below {B : Nat} {TS TE : TypeId} {N : Nat} {f : Nat → List Value} {k : Nat} {v : Value} {w w' : World} (h : RowsAt B TS TE N f k v w) (hb : Below w.heap.size w w') : RowsAt B TS TE N f k v w' := h.far (B0 := 0) (grownOf hb) (fun r e => by cases e)
theorem RowsAt.base {B C : Nat} {TS TE : TypeId} {N : Nat} {f : Nat → List Value} {k : Nat} {v : Value} {w : World} (h : RowsAt B TS TE N f k v w) (hCB : C ≤ B) : RowsAt C TS TE N f k v w := by
  obtain ⟨vs, h1, h2, h3⟩ := h
  refine ⟨vs, ownsRow_base hCB h1, h2, fun i x hx => ?_⟩
  obtain ⟨G, e, h4⟩ := h3 i x hx
  exact ⟨G, e, ownsRow_base hCB h4⟩
/-- One row more. -/
theorem RowsAt.append {B : Nat} {TS TE : TypeId} {N : Nat} {f : Nat → List Value} {k G : Nat} {v v' z : Value} {w w' : World} (hT : TE ≠ TS) {vs : List Value}
    (h1 : w.ownsRow B TS 1 v k vs) (h2 : vs.length = k) (h3 : ∀ (i : Nat) (x : Value), vs[i]? = some x → ∃ G, x = .slice (some ⟨G, 0, none⟩) N N ∧ w.ownsRow B TE 1 x N (f i))
    (hrow : w.ownsRow B TE 1 (.slice (some ⟨G, 0, none⟩) N N) N (f k)) (hg : (w.alloc (.cells #[z] TS)).grownBy w' v.ownBlock) (ho : w'.ownsRow B TS 1 v' (k + 1) (vs ++ [.slice (some ⟨G, 0, none⟩) N N])) : RowsAt B TS TE N f (k + 1) v' w' := by
  have key : ∀ (H : Nat) (xs : List Value), w.ownsRow B TE 1 (.slice (some ⟨H, 0, none⟩) N N) N xs → w'.ownsRow B TE 1 (.slice (some ⟨H, 0, none⟩) N N) N xs := by
    intro H xs h
    refine (h.alloc _).kept hg ?_
    right
    intro e
    by_cases hv : v = .slice none 0 0
    · rw [hv] at e
      simp [Value.ownBlock] at e
    · obtain ⟨g, cap, rfl⟩ := ownsRow_some h1 hv
      simp [Value.ownBlock] at e
      subst e
      obtain ⟨c1, e1⟩ := own_type h
      obtain ⟨c2, e2⟩ := own_type h1
      rw [e1] at e2
      injection e2 with e2
      injection e2 with _ e2 _
      exact hT e2
  refine ⟨_, ho, by simp [h2], fun i x hx => ?_⟩
  by_cases e : i < k
  · rw [List.getElem?_append_left (by omega)] at hx
    obtain ⟨H, rfl, h4⟩ := h3 i x hx
    exact ⟨H, rfl, key H _ h4⟩
  · have hi : i = k := by
      have := (List.getElem?_eq_some_iff.1 hx).1
      simp at this
      omega
    subst hi
    rw [List.getElem?_append_right (by omega), h2, Nat.sub_self] at hx
    simp at hx
    subst hx
    exact ⟨G, rfl, key G _ hrow⟩
theorem own_slice {w : World} {B : Nat} {T : TypeId} {v : Value} {n : Nat} {xs : List Value} (h : w.ownsRow B T 1 v n xs) : ∃ a c, v = .slice a n c ∧ n ≤ c ∧ c ≤ 9223372036854775807 := by
  rcases h.2 with ⟨rfl, e⟩ | ⟨g, cap, cur, rfl, _, _, h1, h2, _⟩
  · exact ⟨none, 0, by rw [e], by omega, by omega⟩
  · unfold maxLen at h2
    exact ⟨_, cap, rfl, h1, by omega⟩
theorem RowsAt.slice {B : Nat} {TS TE : TypeId} {N : Nat} {f : Nat → List Value} {k : Nat} {v : Value} {w : World} (h : RowsAt B TS TE N f k v w) : ∃ a c, v = .slice a k c := by
  obtain ⟨vs, h1, _⟩ := h
  obtain ⟨a, c, e, _⟩ := own_slice h1
  exact ⟨a, c, e⟩
/-- A row's slice value, and a cell of it. -/
theorem RowsAt.row {B : Nat} {TS TE : TypeId} {N : Nat} {f : Nat → List Value} {k : Nat} {v : Value} {w : World} (h : RowsAt B TS TE N f k v w) {i : Nat} (hi : i < k) :
    ∃ g c G, v = .slice (some ⟨g, 0, none⟩) k c ∧ w.cell? ⟨g, i, none⟩ = some (.slice (some ⟨G, 0, none⟩) N N) ∧ w.ownsRow B TE 1 (.slice (some ⟨G, 0, none⟩) N N) N (f i) := by
  obtain ⟨vs, h1, h2, h3⟩ := h
  obtain ⟨x, hx⟩ : ∃ x, vs[i]? = some x := ⟨_, List.getElem?_eq_getElem (by omega)⟩
  obtain ⟨G, rfl, h4⟩ := h3 i x hx
  have hv : v ≠ .slice none 0 0 := by
    rintro rfl
    rcases h1.2 with ⟨_, e⟩ | ⟨g, cap, cur, e, _⟩
    · omega
    · cases e
  obtain ⟨g, c, rfl⟩ := ownsRow_some h1 hv
  exact ⟨g, c, G, rfl, by rw [World.ownsRow.cellAt h1 i (by omega), hx], h4⟩

/-- The row that an append may turn is of type T. -/
def RowTy (T : TypeId) (w : World) (row : Option Nat) : Prop := ∀ r, row = some r → ∃ c, w.heap[r]? = some (.cells c T (0, 0))
theorem rowTy_of {w : World} {B n : Nat} {T : TypeId} {v : Value} {xs : List Value} (h : w.ownsRow B T 1 v n xs) : RowTy T w v.ownBlock := by
  intro r e
  by_cases hv : v = .slice none 0 0
  · rw [hv] at e
    simp [Value.ownBlock] at e
  · obtain ⟨g, cap, rfl⟩ := ownsRow_some h hv
    simp [Value.ownBlock] at e
    subst e
    exact own_type h
theorem cells_other {w w' : World} {row : Option Nat} {T T' : TypeId} {k : Nat} {c : Array Value} (h : w.heap[k]? = some (.cells c T (0, 0))) (hg : w.grownBy w' row) (hr : RowTy T' w row) (hT : T ≠ T') : w'.heap[k]? = some (.cells c T (0, 0)) := by
  rw [hg.block k (Array.getElem?_eq_some_iff.1 h).1 ?_]
  · exact h
  · intro e
    obtain ⟨c', h'⟩ := hr k e.symm
    rw [h] at h'
    injection h' with h'
    injection h' with _ h' _
    exact hT h'
theorem own_other {w w' : World} {row : Option Nat} {T T' : TypeId} {B n : Nat} {v : Value} {xs : List Value} (h : w.ownsRow B T 1 v n xs) (hg : w.grownBy w' row) (hr : RowTy T' w row) (hT : T ≠ T') : w'.ownsRow B T 1 v n xs := by
  refine h.kept hg ?_
  by_cases hv : v = .slice none 0 0
  · left; rw [hv]; rfl
  · right
    obtain ⟨g, cap, rfl⟩ := ownsRow_some h hv
    intro e
    obtain ⟨c, h1⟩ := own_type h
    obtain ⟨c', h2⟩ := hr g e.symm
    rw [h1] at h2
    injection h2 with h2
    injection h2 with _ h2 _
    exact hT h2
theorem RowsAt.other {B : Nat} {TS TE T' : TypeId} {N : Nat} {f : Nat → List Value} {k : Nat} {v : Value} {w w' : World} {row : Option Nat} (h : RowsAt B TS TE N f k v w) (hg : w.grownBy w' row) (hr : RowTy T' w row) (h1 : TS ≠ T') (h2 : TE ≠ T') : RowsAt B TS TE N f k v w' := by
  obtain ⟨vs, a, b, c⟩ := h
  refine ⟨vs, own_other a hg hr h1, b, fun i x hx => ?_⟩
  obtain ⟨G, e, d⟩ := c i x hx
  exact ⟨G, e, own_other d hg hr h2⟩
theorem RowTy.alloc {T : TypeId} {w : World} {row : Option Nat} (h : RowTy T w row) (o : Obj) : RowTy T (w.alloc o) row := fun r e => by
  obtain ⟨c, hc⟩ := h r e
  exact ⟨c, (Below.heap_alloc _ _ _ (Array.getElem?_eq_some_iff.1 hc).1).trans hc⟩

abbrev TBs : TypeId := 50
theorem infoBs : (Try.prog.info? TBs).map (fun i => (i.zero, i.size, i.bytes)) = some (some (.slice none 0 0), 1, 24) := by kernel_rfl
/-- The marks of node i, as values. -/
noncomputable def aheadV (N : Nat) (g : List (Nat × Nat)) (i : Nat) : List Value := (aheadB N g i).map Value.bool

set_option maxRecDepth 100000 in
set_option maxHeartbeats 4000000 in
theorem eachAhead_any (n₀ N : Nat) (ad : Option Addr) (cap : Nat) (es : List (Int × Int)) (w : World) (hl : es.length ≤ 2000) (hcap : es.length ≤ cap) (hok : OkE N es) (hs : SrtN (gN es)) (hN : N ≤ 200) (hE : EdgesA n₀ w ad es) (hn₀ : n₀ ≤ w.heap.size) :
    Calls Try.prog 47 #[.int .i64 (N : Int), .func (.func 41) #[gV N ad es.length cap] #[]] w fun e w' => ∃ v, e = .returned v ∧ RowsAt w.heap.size TBs TBool N (aheadV N (gN es)) N v w' ∧ Below w.heap.size w w' := by
  obtain ⟨i1, ji, jz0, jz1, jz2⟩ := info_parts infoBs
  have HE := Lib.hid hE
  have HOK := Lib.hid hok
  have HS := Lib.hid hs
  clear hE hok hs
  go_enter Try.func47, Try.ntmps47
  go_wp2
  go_loopw [5, 8] (fun v i wr => ∃ k : Nat, k ≤ N ∧ i = .int .i64 k ∧ Hid (RowsAt w.heap.size TBs TBool N (aheadV N (gN es)) k v wr) ∧ Below w.heap.size w wr) (fun _ i _ => N - (intOf i).toNat)
  case atStart => exact ⟨0, Nat.zero_le _, rfl, Lib.hid (RowsAt.nil _ _ _ _ _ _), Below.refl _ _⟩
  case round =>
    obtain ⟨k, hk, rfl, HO, hb⟩ := hrel
    by_cases hlt : k < N
    · have HA := Lib.hid (ahead_any n₀ N k ad cap es wr hl hcap HOK.out HS.out hN hlt (HE.out.below (hb.mono hn₀)) (Nat.le_trans hn₀ hb.size))
      go_wp2_with fail
      refine HA.out.mono ?_
      rintro e w1 ⟨G, rfl, hm, b1⟩
      obtain ⟨vs, h1, h2, h3⟩ := HO.out.below b1
      have H1 := Lib.hid h1
      have H2 := Lib.hid h2
      have H3 := Lib.hid h3
      have HM := Lib.hid (ownsRow_base hb.size hm)
      have B1 := Lib.hid (hb.trans (b1.mono hb.size))
      have hs1 := B1.out.size
      clear h1 h2 h3 hm b1 HA
      go_wp2_with (at_builtin; refine wpList_append_own _ rfl _ _ 57 rfl w.heap.size TBs i1 (.slice none 0 0) 1 24 Try.underlying57 ji jz0 jz1 jz2 rfl (by decide) _ _ _ rfl (H1.out.alloc _) ⟨w1.heap.size, 0, none⟩ 1 1 [.slice (some ⟨G, 0, none⟩) N N] rfl rfl (newCell w1 _ TBs) (one_slice _ _ _) (by unfold maxLen; omega) (by omega) (by simp; omega) ?_)
      intro v' w3 hown' hgrow hnil
      have HO3 : Hid (RowsAt w.heap.size TBs TBool N (aheadV N (gN es)) (k + 1) v' w3) := Lib.hid (RowsAt.append (by decide) H1.out H2.out H3.out HM.out hgrow (by simpa using hown'))
      have HB3 : Hid (Below w.heap.size w w3) := Lib.hid ((B1.out.alloc B1.out.size _).grown hgrow (by simp; omega) (fun i hi => (H1.out.lt i hi).1))
      clear hown' hgrow hnil
      go_wp2
      go_roundw
      case rel => exact ⟨k + 1, by omega, by go_num, HO3, HB3.out⟩
      case measure => simp [intOf]; omega
    · have HN : Hid (RowsAt w.heap.size TBs TBool N (aheadV N (gN es)) N u5 wr) := Lib.hid (by
        have h : k = N := by omega
        exact h ▸ HO.out)
      go_wp2
      go_ret
      exact ⟨_, rfl, HN.out, hb⟩

end Go.Proofs.Ytcggmonnajggcaa
