/-
  Rows of operations of the call's own.
-/
import Derived.Test.YtmgadcfiaipimaaDqMem
namespace Go.Proofs.Ytmgadcfiaipimaa
open Go.RowKit

def encE (x : Int × Int) : List Value := [.int .i64 x.1, .int .i64 x.2]
def edV (es : List (Int × Int)) : List Value := es.flatMap encE
theorem edV_nil : edV [] = [] := rfl
theorem edV_cons (x : Int × Int) (es : List (Int × Int)) : edV (x :: es) = encE x ++ edV es := by simp [edV]
theorem edV_append (a b : List (Int × Int)) : edV (a ++ b) = edV a ++ edV b := by simp [edV]
theorem edV_length (es : List (Int × Int)) : (edV es).length = es.length * 2 := by
  induction es with
  | nil => rfl
  | cons x xs ih =>
    rw [edV_cons, List.length_append, ih, List.length_cons]
    simp [encE]
    omega
theorem encE_one (x : Int × Int) : ∀ u ∈ encE x, u.oneCell' = true := by
  intro u hu
  simp [encE] at hu
  rcases hu with rfl | rfl <;> rfl
theorem edV_get (es : List (Int × Int)) (j : Nat) (h : j < es.length) : (edV es)[j * 2]? = some (.int .i64 (ge es j).1) ∧ (edV es)[j * 2 + 1]? = some (.int .i64 (ge es j).2) := by
  have e : es = es.take j ++ ge es j :: es.drop (j + 1) := by
    rw [show ge es j :: es.drop (j + 1) = es.drop j by rw [List.drop_eq_getElem_cons h]; simp [ge, h], List.take_append_drop]
  have hl : (edV (es.take j)).length = j * 2 := by rw [edV_length, List.length_take]; omega
  constructor
  · conv => lhs; rw [e, edV_append, edV_cons]
    rw [List.getElem?_append_right (by omega), hl, Nat.sub_self]
    rfl
  · conv => lhs; rw [e, edV_append, edV_cons]
    rw [List.getElem?_append_right (by omega), hl, show j * 2 + 1 - j * 2 = 1 by omega]
    rfl
/-- A row of operations of the call's own. -/
def OwnE (B : Nat) (es : List (Int × Int)) (v : Value) (w : World) : Prop := w.ownsRow B TE 2 v es.length (edV es)
theorem OwnE.nil (B : Nat) (w : World) : OwnE B [] (.slice none 0 0) w := World.ownsRow_nil _ _ _ _
theorem OwnE.below {B : Nat} {o : List (Int × Int)} {v : Value} {w w' : World} (h : OwnE B o v w) (hb : Below w.heap.size w w') : OwnE B o v w' := World.ownsRow.kept (show w.ownsRow B TE 2 v o.length (edV o) from h) (grown_ofZ hb none) (by cases v.ownBlock <;> simp)
theorem OwnE.known {B : Nat} {es : List (Int × Int)} {v : Value} {w : World} (h : OwnE B es v w) : KE w v es := by
  have h : w.ownsRow B TE 2 v es.length (edV es) := h
  obtain ⟨a, c, rfl, h1, h2⟩ := ownZ_slice h
  refine ⟨a, c, rfl, h1, h2, fun j hj => ?_⟩
  obtain ⟨g, cap, e, hB⟩ := ownZ_some h (by omega)
  injection e with e1 e2 e3
  subst e1
  have hl := edV_length es
  obtain ⟨g1, g2⟩ := edV_get es j hj
  refine ⟨g, 0, rfl, (World.ownsRow.lt h g rfl).2, ?_, ?_⟩
  · rw [Nat.zero_add, World.ownsRow.cellAt h (j * 2) (by omega), g1]
  · rw [Nat.zero_add, World.ownsRow.cellAt h (j * 2 + 1) (by omega), g2]
/-- One operation more in a row, out of a block of its own. -/
theorem append_oneE (W : World) (B : Nat) (v : Value) (o : List (Int × Int)) (x : Int × Int) (y : Nat) (hO : OwnE B o v W) (hy : W.heap[y]? = some (.cells (encE x).toArray TE (0, 0))) (hl : o.length ≤ 10000) (hBW : B ≤ W.heap.size) :
    ∃ v' w', (Builtin.append_ #[34, 34] 34 #[v, .slice (some ⟨y, 0, none⟩) 1 1]).run Try.prog W = .ok v' w' ∧ OwnE B (o ++ [x]) v' w' ∧ Below B W w' := by
  obtain ⟨i3, ki, kz0, kz1, kz2⟩ := info_parts infoE
  have hc : ∀ j u, (encE x)[j]? = some u → W.cell? ((⟨y, 0, none⟩ : Addr).add j) = some u := by
    intro j u hj
    rw [Addr.add_lit, Lib.cell_of_heap hy]
    simpa using hj
  have hr : W.ownsRow B TE 2 v o.length (edV o) := hO
  obtain ⟨v', w', h1, h2, h3, _⟩ := run_append_own (P := Try.prog) W B 34 34 TE i3 (.agg #[.int .i64 0, .int .i64 0]) 2 16 Try.underlying34 ki kz0 kz1 kz2 rfl (by decide) _ _ _ hr ⟨y, 0, none⟩ 1 1 (encE x) rfl hc (encE_one x) (by unfold maxLen; omega) (by omega) hBW
  refine ⟨v', w', h1, ?_, (Below.refl B W).grown h3 hBW (fun k e => (World.ownsRow.lt hr k e).1)⟩
  unfold OwnE
  rw [List.length_append, edV_append]
  exact h2
/-- The last operation of a row is overwritten. -/
theorem ownE_store {B g n cap : Nat} {o : List (Int × Int)} {x : Int × Int} {W : World} (h : OwnE B (o ++ [x]) (.slice (some ⟨g, 0, none⟩) n cap) W) (ho : o.length + 1 = n) (a b : Int) :
    OwnE B (o ++ [(a, b)]) (.slice (some ⟨g, 0, none⟩) n cap) ((W.setCell ⟨g, o.length * 2, none⟩ (.int .i64 a)).setCell ⟨g, o.length * 2 + 1, none⟩ (.int .i64 b)) := by
  have hr : W.ownsRow B TE 2 (.slice (some ⟨g, 0, none⟩) n cap) (o ++ [x]).length (edV (o ++ [x])) := h
  have e : (o ++ [x]).length = n := by simpa using ho
  rw [e] at hr
  obtain ⟨h1, _⟩ := World.ownsRow.stored hr (o.length * 2) (.int .i64 a)
  obtain ⟨h2, _⟩ := World.ownsRow.stored h1 (o.length * 2 + 1) (.int .i64 b)
  have hl := edV_length o
  have e2 : ((edV (o ++ [x])).set (o.length * 2) (.int .i64 a)).set (o.length * 2 + 1) (.int .i64 b) = edV (o ++ [(a, b)]) := by
    rw [edV_append, edV_append, ← hl, List.set_append_right _ _ (by omega), Nat.sub_self, List.set_append_right _ _ (by omega), show (edV o).length + 1 - (edV o).length = 1 by omega]
    rfl
  unfold OwnE
  rw [show (o ++ [(a, b)]).length = n by simpa using ho, ← e2]
  exact h2
theorem below_store {B g i : Nat} {W0 W : World} {u : Value} (h : Below B W0 W) (hg : B ≤ g) : Below B W0 (W.setCell ⟨g, i, none⟩ u) := h.setCell hg _

end Go.Proofs.Ytmgadcfiaipimaa
