/-
  Causality, the memory: the clocks, what is known before, the processes; what a new event knows.
-/
import Derived.Test.YtpkmdonejmbnoaaVcCau
import Derived.Test.YtpkmdonejmbnoaaVcDevG
namespace Go.Proofs.Ytpkmdonejmbnoaa
open Go.RowKit

abbrev TBo : TypeId := 4
abbrev TBl : TypeId := 50
theorem infoBo : (Try.prog.info? TBo).map (fun i => (i.zero, i.size, i.bytes)) = some (some (.bool false), 1, 1) := by kernel_rfl
theorem infoBl : (Try.prog.info? TBl).map (fun i => (i.zero, i.size, i.bytes)) = some (some (.slice none 0 0), 1, 24) := by kernel_rfl
theorem infoC : (Try.prog.info? TC).map (fun i => (i.zero, i.size, i.bytes)) = some (some (.slice none 0 0), 1, 24) := by kernel_rfl
def boolV (n : Nat) (p : Nat → Bool) : List Value := (List.range n).map fun j => Value.bool (p j)
theorem boolV_length (n : Nat) (p : Nat → Bool) : (boolV n p).length = n := by simp [boolV]
theorem boolV_get {n : Nat} (p : Nat → Bool) {j : Nat} (h : j < n) : (boolV n p)[j]? = some (.bool (p j)) := by simp [boolV, h]
theorem boolV_set {n : Nat} {p q : Nat → Bool} {y : Nat} {z : Bool} (hz : q y = z) (hg : ∀ j, j ≠ y → q j = p j) : (boolV n p).set y (.bool z) = boolV n q := by
  apply List.ext_getElem?
  intro v
  by_cases hv : v < n
  · rw [boolV_get _ hv]
    by_cases e : y = v
    · subst e
      rw [List.getElem?_set_self (by rw [boolV_length]; exact hv), hz]
    · rw [List.getElem?_set_ne e, boolV_get _ hv, hg v (fun h => e h.symm)]
  · rw [List.getElem?_eq_none (by rw [List.length_set, boolV_length]; omega), List.getElem?_eq_none (by rw [boolV_length]; omega)]
theorem boolV_false (n : Nat) : (madeCells #[Value.bool false] n).toList = boolV n (fun _ => false) := by
  rw [toList_madeCells_one]
  apply List.ext_getElem?
  intro v
  by_cases hv : v < n
  · rw [boolV_get _ hv, List.getElem?_replicate, if_pos hv]
  · rw [List.getElem?_eq_none (by simp; omega), List.getElem?_eq_none (by rw [boolV_length]; omega)]
theorem boolV_congr {n : Nat} {p q : Nat → Bool} (h : ∀ j, j < n → p j = q j) : boolV n p = boolV n q := by
  unfold boolV
  exact List.map_congr_left (fun j hj => by rw [h j (by simpa using hj)])

/-- A block that none of the three lists lies in. -/
def Fre (C : Nat) (cv dv pv : Value) (b : Nat) : Prop := b ≠ C ∧ b ≠ C + 1 ∧ cv.ownBlock ≠ some b ∧ dv.ownBlock ≠ some b ∧ pv.ownBlock ≠ some b
/-- The three lists. -/
structure St (C : Nat) (H : List Ev) (cv dv pv : Value) (cvs dvs : List Value) (w : World) : Prop where
  cbox : w.heap[C]? = some (.cells #[cv] 46 (0, 0))
  dbox : w.heap[C + 1]? = some (.cells #[dv] 47 (0, 0))
  crow : w.ownsRow (C + 2) TC 1 cv H.length cvs
  drow : w.ownsRow (C + 2) TBl 1 dv H.length dvs
  prow : w.ownsRow (C + 2) TZ 1 pv H.length (intV (fnL H.length fun j => ((evK H j).p : Int)))
  cel : ∀ j, j < H.length → ∃ u, cvs[j]? = some u ∧ KlP (Fre C cv dv pv) w u (evK H j).c
  del : ∀ j, j < H.length → ∃ g c, dvs[j]? = some (.slice (some ⟨g, 0, none⟩) j c) ∧ Fre C cv dv pv g ∧ w.ownsRow (C + 2) TBo 1 (.slice (some ⟨g, 0, none⟩) j c) j (boolV j (evK H j).b)
theorem heap_lt {w : World} {b : Nat} {o : Obj} (h : w.heap[b]? = some o) : b < w.heap.size := (Array.getElem?_eq_some_iff.1 h).1
/-- Steps that turn nothing that was there. -/
theorem St.below {C : Nat} {H : List Ev} {cv dv pv : Value} {cvs dvs : List Value} {w w' : World} (h : St C H cv dv pv cvs dvs w) (hb : Below w.heap.size w w') : St C H cv dv pv cvs dvs w' where
  cbox := (hb.block C (heap_lt h.cbox)).trans h.cbox
  dbox := (hb.block (C + 1) (heap_lt h.dbox)).trans h.dbox
  crow := ownZ_block h.crow (fun b e => hb.block b (World.ownsRow.lt h.crow b e).2)
  drow := ownZ_block h.drow (fun b e => hb.block b (World.ownsRow.lt h.drow b e).2)
  prow := ownZ_block h.prow (fun b e => hb.block b (World.ownsRow.lt h.prow b e).2)
  cel := fun j hj => by
    obtain ⟨u, h1, h2⟩ := h.cel j hj
    exact ⟨u, h1, h2.below hb⟩
  del := fun j hj => by
    obtain ⟨g, c, h1, h2, h3⟩ := h.del j hj
    exact ⟨g, c, h1, h2, ownZ_block h3 (fun b e => hb.block b (World.ownsRow.lt h3 b e).2)⟩
theorem St.start (C : Nat) (w : World) (h1 : w.heap[C]? = some (.cells #[.slice none 0 0] 46 (0, 0))) (h2 : w.heap[C + 1]? = some (.cells #[.slice none 0 0] 47 (0, 0))) : St C [] (.slice none 0 0) (.slice none 0 0) (.slice none 0 0) [] [] w :=
  ⟨h1, h2, World.ownsRow_nil _ _ _ _, World.ownsRow_nil _ _ _ _, World.ownsRow_nil _ _ _ _, fun j hj => by simp at hj, fun j hj => by simp at hj⟩
/-- Reading the lists. -/
theorem St.clock {C : Nat} {H : List Ev} {cv dv pv : Value} {cvs dvs : List Value} {w : World} (h : St C H cv dv pv cvs dvs w) {k : Nat} (hk : k < H.length) : ∃ g c u, cv = .slice (some ⟨g, 0, none⟩) H.length c ∧ w.cell? ⟨g, k, none⟩ = some u ∧ KlP (Fre C cv dv pv) w u (evK H k).c := by
  obtain ⟨g, c, e, _⟩ := ownZ_some h.crow (by omega)
  obtain ⟨u, h1, h2⟩ := h.cel k hk
  refine ⟨g, c, u, e, ?_, h2⟩
  have hr := h.crow
  rw [e] at hr
  rw [World.ownsRow.cellAt hr k (by omega), h1]
theorem St.known {C : Nat} {H : List Ev} {cv dv pv : Value} {cvs dvs : List Value} {w : World} (h : St C H cv dv pv cvs dvs w) {k : Nat} (hk : k < H.length) : ∃ g c g2 c2, dv = .slice (some ⟨g, 0, none⟩) H.length c ∧ w.cell? ⟨g, k, none⟩ = some (.slice (some ⟨g2, 0, none⟩) k c2) ∧ ∀ m, m < k → w.cell? ⟨g2, m, none⟩ = some (.bool ((evK H k).b m)) := by
  obtain ⟨g, c, e, _⟩ := ownZ_some h.drow (by omega)
  obtain ⟨g2, c2, h1, _, h3⟩ := h.del k hk
  refine ⟨g, c, g2, c2, e, ?_, fun m hm => ?_⟩
  · have hr := h.drow
    rw [e] at hr
    rw [World.ownsRow.cellAt hr k (by omega), h1]
  · rw [World.ownsRow.cellAt h3 m (by omega), boolV_get _ hm]
theorem St.proc {C : Nat} {H : List Ev} {cv dv pv : Value} {cvs dvs : List Value} {w : World} (h : St C H cv dv pv cvs dvs w) {k : Nat} (hk : k < H.length) : ∃ g c, pv = .slice (some ⟨g, 0, none⟩) H.length c ∧ w.cell? ⟨g, k, none⟩ = some (.int .i64 ((evK H k).p : Int)) := by
  obtain ⟨g, c, e, _⟩ := ownZ_some h.prow (by omega)
  refine ⟨g, c, e, ?_⟩
  have hr := h.prow
  rw [e] at hr
  rw [World.ownsRow.cellAt hr k (by omega), intV_get _ (by rw [fnL_length]; exact hk), gz_fnL hk]

theorem St.knownRow {C k g2 c2 : Nat} {H : List Ev} {cv dv pv : Value} {cvs dvs : List Value} {w : World} (h : St C H cv dv pv cvs dvs w) (hk : k < H.length) (hd : dvs[k]? = some (.slice (some ⟨g2, 0, none⟩) k c2)) : ∀ m, m < k → w.cell? ⟨g2, m, none⟩ = some (.bool ((evK H k).b m)) := by
  obtain ⟨g, c, h1, _, h3⟩ := h.del k hk
  rw [hd] at h1
  injection h1 with h1
  injection h1 with h1 _ h1c
  injection h1 with h1
  injection h1 with h1 _ _
  subst h1
  subst h1c
  intro m hm
  rw [World.ownsRow.cellAt h3 m (by omega), boolV_get _ hm]
theorem St.knownAt {C k g n c : Nat} {H : List Ev} {cv pv v : Value} {cvs dvs : List Value} {w : World} (h : St C H cv (.slice (some ⟨g, 0, none⟩) n c) pv cvs dvs w) (hn : n = H.length) (hk : k < H.length) (hd : dvs[k]? = some v) : w.cell? ⟨g, k, none⟩ = some v := by
  have hr := h.drow
  subst hn
  rw [World.ownsRow.cellAt hr k (by omega), hd]
theorem St.clockAt {C k g n c : Nat} {H : List Ev} {dv pv v : Value} {cvs dvs : List Value} {w : World} (h : St C H (.slice (some ⟨g, 0, none⟩) n c) dv pv cvs dvs w) (hn : n = H.length) (hk : k < H.length) (hd : cvs[k]? = some v) : w.cell? ⟨g, k, none⟩ = some v := by
  have hr := h.crow
  subst hn
  rw [World.ownsRow.cellAt hr k (by omega), hd]
theorem St.clockOf {C k : Nat} {H : List Ev} {cv dv pv u : Value} {cvs dvs : List Value} {w : World} (h : St C H cv dv pv cvs dvs w) (hk : k < H.length) (hd : cvs[k]? = some u) : KlP (Fre C cv dv pv) w u (evK H k).c := by
  obtain ⟨u', h1, h2⟩ := h.cel k hk
  rw [hd] at h1
  cases h1
  exact h2
/-- The values that the lists are. -/
theorem St.forms {C k : Nat} {H : List Ev} {cv dv pv : Value} {cvs dvs : List Value} {w : World} (h : St C H cv dv pv cvs dvs w) (hk : k < H.length) : ∃ gc cc gd cd gp cp u g2 c2, cv = .slice (some ⟨gc, 0, none⟩) H.length cc ∧ dv = .slice (some ⟨gd, 0, none⟩) H.length cd ∧ pv = .slice (some ⟨gp, 0, none⟩) H.length cp ∧ cvs[k]? = some u ∧ dvs[k]? = some (.slice (some ⟨g2, 0, none⟩) k c2) := by
  obtain ⟨gc, cc, e1, _⟩ := ownZ_some h.crow (by omega)
  obtain ⟨gd, cd, e2, _⟩ := ownZ_some h.drow (by omega)
  obtain ⟨gp, cp, e3, _⟩ := ownZ_some h.prow (by omega)
  obtain ⟨u, h1, _⟩ := h.cel k hk
  obtain ⟨g2, c2, h2, _, _⟩ := h.del k hk
  exact ⟨gc, cc, gd, cd, gp, cp, u, g2, c2, e1, e2, e3, h1, h2⟩

/-- What a new event, the i-th, knows and has for a clock. -/
structure Lm (N K R Q E i : Nat) (st : (Nat → Bool) × List Int) (W : World) : Prop where
  kbox : W.heap[K]? = some (.cells #[.slice (some ⟨R, 0, none⟩) i i] TBl (0, 0))
  krow : W.ownsRow N TBo 1 (.slice (some ⟨R, 0, none⟩) i i) i (boolV i st.1)
  cbox : ∃ u, W.heap[Q]? = some (.cells #[u] 23 (0, 0)) ∧ KlP (fun b => b ≠ K ∧ b ≠ R ∧ b ≠ Q ∧ b ≠ E) W u st.2
  ebox : W.heap[E]? = some (.cells #[.int .i64 0] TX (0, 0))

end Go.Proofs.Ytpkmdonejmbnoaa
