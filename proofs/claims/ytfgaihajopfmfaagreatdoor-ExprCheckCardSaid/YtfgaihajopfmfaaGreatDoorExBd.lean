/-
  Rows of bindings of the call's own; the library's Clone of bindings.
-/
import Derived.Lib.SliceRun
import Derived.Test.YtfgaihajopfmfaaGreatDoorExRefB
namespace Go.Proofs.YtfgaihajopfmfaaGreatDoor
set_option linter.unusedSimpArgs false
set_option linter.unusedVariables false
open Go.RowKit

/-- A binding's three cells. -/
def encD (t : Bd) : List Value := [.string t.1, .int .i64 t.2.1, .int .i64 t.2.2]
def bsV (l : List Bd) : List Value := l.flatMap encD
theorem mem_gb {l : List Bd} {t : Bd} (h : t ∈ l) : ∃ k, k < l.length ∧ gb l k = t := by
  obtain ⟨k, hk, e⟩ := List.getElem_of_mem h
  exact ⟨k, hk, by unfold gb; rw [List.getElem?_eq_getElem hk]; exact e⟩
theorem gb_take {l : List Bd} {n j : Nat} (h : j < n) : gb (l.take n) j = gb l j := by unfold gb; rw [List.getElem?_take, if_pos h]
theorem gb_drop {l : List Bd} {n j : Nat} : gb (l.drop n) j = gb l (n + j) := by unfold gb; rw [List.getElem?_drop]
theorem gb_set {l : List Bd} {m : Nat} {t : Bd} {q : Nat} (hq : q < l.length) : gb (l.set m t) q = if q = m then t else gb l q := by
  unfold gb
  rw [List.getElem?_set]
  by_cases e : m = q
  · subst e; simp [hq]
  · rw [if_neg e, if_neg (Ne.symm e)]
theorem bsV_nil : bsV [] = [] := rfl
theorem bsV_cons (t : Bd) (l : List Bd) : bsV (t :: l) = encD t ++ bsV l := by simp [bsV]
theorem bsV_append (a b : List Bd) : bsV (a ++ b) = bsV a ++ bsV b := by simp [bsV]
theorem bsV_snoc (l : List Bd) (t : Bd) : bsV (l ++ [t]) = bsV l ++ encD t := by simp [bsV]
theorem bsV_length (l : List Bd) : (bsV l).length = l.length * 3 := by
  induction l with
  | nil => rfl
  | cons x xs ih =>
    rw [bsV_cons, List.length_append, ih, List.length_cons]
    simp [encD]
    omega
theorem encD_one (t : Bd) : ∀ u ∈ encD t, u.oneCell' = true := by
  intro u hu
  simp [encD] at hu
  rcases hu with rfl | rfl | rfl <;> rfl
theorem bsV_one (l : List Bd) : ∀ u ∈ bsV l, u.oneCell' = true := by
  intro u hu
  unfold bsV at hu
  obtain ⟨e, _, h⟩ := List.mem_flatMap.1 hu
  exact encD_one e u h
theorem bsV_take (l : List Bd) (i : Nat) : (bsV l).take (i * 3) = bsV (l.take i) := by
  by_cases h : i ≤ l.length
  · conv => lhs; rw [← List.take_append_drop i l, bsV_append]
    rw [List.take_left' (by rw [bsV_length, List.length_take]; omega)]
  · rw [List.take_of_length_le (by rw [bsV_length]; omega), List.take_of_length_le (by omega)]
theorem bsV_drop (l : List Bd) (i : Nat) : (bsV l).drop (i * 3) = bsV (l.drop i) := by
  by_cases h : i ≤ l.length
  · conv => lhs; rw [← List.take_append_drop i l, bsV_append]
    rw [List.drop_left' (by rw [bsV_length, List.length_take]; omega)]
  · rw [List.drop_eq_nil_of_le (by rw [bsV_length]; omega), List.drop_eq_nil_of_le (by omega)]
    rfl
theorem bsV_get (l : List Bd) (j : Nat) (h : j < l.length) : (bsV l)[j * 3]? = some (.string (gb l j).1) ∧ (bsV l)[j * 3 + 1]? = some (.int .i64 (gb l j).2.1) ∧ (bsV l)[j * 3 + 2]? = some (.int .i64 (gb l j).2.2) := by
  have key : ∀ i, (bsV l)[j * 3 + i]? = (encD (gb l j) ++ bsV (l.drop (j + 1)))[i]? := by
    intro i
    rw [← List.getElem?_drop, bsV_drop, drop_consB l j h, bsV_cons]
  refine ⟨?_, ?_, ?_⟩
  · have := key 0
    rw [Nat.add_zero] at this
    rw [this]; rfl
  · rw [key 1]; rfl
  · rw [key 2]; rfl

theorem KB.cells {w : World} {b off n c : Nat} {l : List Bd} (h : KB w (.slice (some ⟨b, off, none⟩) n c) l) : ∀ j u, (bsV l)[j]? = some u → w.cell? ⟨b, off + j, none⟩ = some u := by
  intro j u hj
  have hlt : j < (bsV l).length := (List.getElem?_eq_some_iff.1 hj).1
  rw [bsV_length] at hlt
  obtain ⟨b', off', e', _, h1, h2, h3⟩ := KB.at_ h (j / 3) (by omega)
  cases e'
  obtain ⟨g1, g2, g3⟩ := bsV_get l (j / 3) (by omega)
  rcases (show j % 3 = 0 ∨ j % 3 = 1 ∨ j % 3 = 2 by omega) with hm | hm | hm
  · rw [show j = j / 3 * 3 from by omega] at hj ⊢
    rw [g1] at hj
    cases hj
    exact h1
  · rw [show j = j / 3 * 3 + 1 from by omega] at hj ⊢
    rw [g2] at hj
    cases hj
    exact h2
  · rw [show j = j / 3 * 3 + 2 from by omega] at hj ⊢
    rw [g3] at hj
    cases hj
    exact h3
/-- A row of bindings of the call's own. -/
def OwnD (B : Nat) (l : List Bd) (v : Value) (w : World) : Prop := w.ownsRow B TB 3 v l.length (bsV l)
theorem OwnD.nil (B : Nat) (w : World) : OwnD B [] (.slice none 0 0) w := World.ownsRow_nil _ _ _ _
theorem OwnD.kb {B : Nat} {l : List Bd} {v : Value} {w : World} (h : OwnD B l v w) : KB w v l := by
  have h : w.ownsRow B TB 3 v l.length (bsV l) := h
  obtain ⟨a, c, rfl, h1, h2⟩ := ownZ_slice h
  refine ⟨a, c, rfl, h1, h2, fun j hj => ?_⟩
  obtain ⟨g, cap, e, hB⟩ := ownZ_some h (by omega)
  injection e with e1 e2 e3
  subst e1
  obtain ⟨g1, g2, g3⟩ := bsV_get l j hj
  have hl := bsV_length l
  refine ⟨g, 0, rfl, (World.ownsRow.lt h g rfl).2, ?_, ?_, ?_⟩
  · rw [Nat.zero_add, World.ownsRow.cellAt h (j * 3) (by omega), g1]
  · rw [Nat.zero_add, World.ownsRow.cellAt h (j * 3 + 1) (by omega), g2]
  · rw [Nat.zero_add, World.ownsRow.cellAt h (j * 3 + 2) (by omega), g3]
theorem OwnD.lt {B : Nat} {l : List Bd} {v : Value} {w : World} (h : OwnD B l v w) : ∀ k, v.ownBlock = some k → B ≤ k ∧ k < w.heap.size := fun k e => World.ownsRow.lt (show w.ownsRow B TB 3 v l.length (bsV l) from h) k e
theorem OwnD.below {B : Nat} {l : List Bd} {v : Value} {w w' : World} (h : OwnD B l v w) (hb : Below w.heap.size w w') : OwnD B l v w' :=
  World.ownsRow.kept (show w.ownsRow B TB 3 v l.length (bsV l) from h) (grown_ofZ hb none) (by cases v.ownBlock <;> simp)

set_option maxRecDepth 100000 in
set_option maxHeartbeats 2000000 in
theorem bClone_any (l : List Bd) (v : Value) (w : World) (hl : l.length ≤ 1000) (hE : KB w v l) :
    Calls Tryz.prog 31 #[v] w fun e w' => ∃ v', e = .returned v' ∧ OwnD w.heap.size l v' w' ∧ Below w.heap.size w w' := by
  obtain ⟨i3, ki, kz0, kz1, kz2⟩ := info_parts infoB
  have q22 : ∀ (w : World) (a : Option Addr) (n c n' c' : Nat), (binOp .eql 40 (.slice a n c) (.slice none n' c')).run Tryz.prog w = .ok (.bool a.isNone) w := fun w a n c n' c' => Lib.run_eql_slice_nil w _ _ a n c n' c' Tryz.underlying40
  obtain ⟨ad, cap, rfl, e1, e2, _⟩ := id hE
  cases ad with
  | none =>
    have hz : l = [] := by
      cases l with
      | nil => rfl
      | cons x xs =>
        obtain ⟨b, off, e, _⟩ := KB.at_ hE 0 (by simp)
        cases e
    subst hz
    clear hE e1
    go_enter Tryz.func31, Tryz.ntmps31
    go_wp2
    go_ret
    exact ⟨_, rfl, OwnD.nil _ _, Below.refl _ _⟩
  | some q =>
    have hc : ∀ j u, (bsV l)[j]? = some u → (w.alloc (.cells #[] TB)).cell? (q.add j) = some u := by
      intro j u hj
      have hlt : j < (bsV l).length := (List.getElem?_eq_some_iff.1 hj).1
      rw [bsV_length] at hlt
      obtain ⟨b, off, e, _⟩ := KB.at_ hE 0 (by omega)
      cases e
      rw [Addr.add_lit]
      exact Lib.cell?_alloc_some _ (hE.cells j u hj)
    have HC := Lib.hid hc
    clear hc hE
    go_enter Tryz.func31, Tryz.ntmps31
    go_wp2_with (at_builtin; refine wpList_append_own _ rfl _ _ 40 rfl w.heap.size TB i3 (.agg #[.string .empty, .int .i64 0, .int .i64 0]) 3 32 Tryz.underlying40 ki kz0 kz1 kz2 rfl (by decide) _ _ _ rfl (World.ownsRow_made w #[] 0 (Nat.le_refl _) (Nat.zero_le _) rfl) q l.length cap (bsV l) rfl ?qc1 HC.out (bsV_one _) ?qc4 ?qc5 ?qc6 ?_)
    case qc1 => rw [bsV_length]
    case qc4 => unfold maxLen; omega
    case qc5 => omega
    case qc6 => simp
    intro v' w1 hown hgrow hnil
    go_wp2
    go_ret
    refine ⟨v', rfl, ?_, ((Below.refl _ w).alloc (Nat.le_refl _) _).grown hgrow (by simp) (by intro k hk; simp [Value.ownBlock] at hk; omega)⟩
    unfold OwnD
    simpa using hown

/-- A value is stored into a binding of a row. -/
theorem bs_setV (L : List Bd) (m : Nat) (x : Int) (hm : m < L.length) : (bsV L).set (m * 3 + 2) (.int .i64 x) = bsV (L.set m ((gb L m).1, (gb L m).2.1, x)) := by
  apply List.ext_getElem?
  intro j
  have hl := bsV_length L
  have hl2 := bsV_length (L.set m ((gb L m).1, (gb L m).2.1, x))
  rw [List.length_set] at hl2
  by_cases hj : j < L.length * 3
  · obtain ⟨a1, a2, a3⟩ := bsV_get L (j / 3) (by omega)
    obtain ⟨b1, b2, b3⟩ := bsV_get (L.set m ((gb L m).1, (gb L m).2.1, x)) (j / 3) (by rw [List.length_set]; omega)
    rw [gb_set (by omega)] at b1 b2 b3
    rw [List.getElem?_set]
    rcases (show j % 3 = 0 ∨ j % 3 = 1 ∨ j % 3 = 2 by omega) with hm3 | hm3 | hm3
    · have ej : j = j / 3 * 3 := by omega
      rw [if_neg (by omega), ej, a1, b1]
      by_cases e : j / 3 = m
      · rw [if_pos e, e]
      · rw [if_neg e]
    · have ej : j = j / 3 * 3 + 1 := by omega
      rw [if_neg (by omega), ej, a2, b2]
      by_cases e : j / 3 = m
      · rw [if_pos e, e]
      · rw [if_neg e]
    · have ej : j = j / 3 * 3 + 2 := by omega
      by_cases e : j / 3 = m
      · rw [if_pos (by omega), if_pos (by omega), ej, b3, if_pos e]
      · rw [if_neg (by omega), ej, a3, b3, if_neg e]
  · rw [List.getElem?_eq_none (by simp; omega), List.getElem?_eq_none (by omega)]
theorem own_setV {w : World} {B g n cap : Nat} {L : List Bd} (h : w.ownsRow B TB 3 (.slice (some ⟨g, 0, none⟩) n cap) n (bsV L)) (m : Nat) (x : Int) (hm : m < L.length) :
    (w.setCell ⟨g, m * 3 + 2, none⟩ (.int .i64 x)).ownsRow B TB 3 (.slice (some ⟨g, 0, none⟩) n cap) n (bsV (L.set m ((gb L m).1, (gb L m).2.1, x))) ∧ w.grownBy (w.setCell ⟨g, m * 3 + 2, none⟩ (.int .i64 x)) (some g) := by
  obtain ⟨h1, g1⟩ := World.ownsRow.stored h (m * 3 + 2) (.int .i64 x)
  rw [bs_setV L m x hm] at h1
  exact ⟨h1, g1⟩

end Go.Proofs.YtfgaihajopfmfaaGreatDoor
