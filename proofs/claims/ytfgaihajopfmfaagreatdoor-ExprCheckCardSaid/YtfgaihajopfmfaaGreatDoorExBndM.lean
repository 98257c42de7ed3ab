/-
  Valid bindings: one more, one less; the names of a tree.
-/
import Derived.Test.YtfgaihajopfmfaaGreatDoorExBnd
import Derived.Test.YtfgaihajopfmfaaGreatDoorExNames
namespace Go.Proofs.YtfgaihajopfmfaaGreatDoor
set_option linter.unusedSimpArgs false
set_option linter.unusedVariables false
open Go.RowKit

theorem ltS_iff {a b : ByteArray} : ltS a b = true ↔ a.data.toList < b.data.toList := by rw [ltS_eq]; simp
theorem ltS_trans {a b c : ByteArray} (h : ltS a b = true) (k : ltS b c = true) : ltS a c = true := ltS_iff.2 (List.lt_trans (ltS_iff.1 h) (ltS_iff.1 k))
theorem ltS_total {a b : ByteArray} (h : ltS a b = false) (hne : a ≠ b) : ltS b a = true := by
  rw [ltS_iff]
  have h1 : ¬ a.data.toList < b.data.toList := fun e => by rw [ltS_iff.2 e] at h; cases h
  by_cases h2 : b.data.toList < a.data.toList
  · exact h2
  · have h3 := List.le_antisymm (List.not_lt.1 h1) (List.not_lt.1 h2)
    exact absurd (show a = b by cases a; cases b; simp at h3; rw [h3]) hne
theorem ckB_iff {l : List Bd} : ckB l = true ↔ l.length ≤ 64 ∧ (∀ x ∈ l, okB x = true) ∧ l.Pairwise (fun x y => ltS x.1 y.1 = true) := by
  constructor
  · intro h
    have h' := h
    unfold ckB at h'
    simp only [Bool.and_eq_true, decide_eq_true_eq] at h'
    refine ⟨h'.1, fun x hx => ckB_ok h hx, ?_⟩
    have hg := fun j hj => allP_iff.1 h'.2 j hj
    have key : ∀ d i, i + d + 1 < l.length → ltS (gb l i).1 (gb l (i + d + 1)).1 = true := by
      intro d
      induction d with
      | zero =>
        intro i hi
        have := hg (i + 0 + 1) hi
        rw [goodB_succ _ _ (by omega)] at this
        simp only [Bool.and_eq_true] at this
        simpa using this.2
      | succ d ih =>
        intro i hi
        have := hg (i + (d + 1) + 1) hi
        rw [goodB_succ _ _ (by omega)] at this
        simp only [Bool.and_eq_true] at this
        refine ltS_trans (ih i (by omega)) ?_
        have e := this.2
        rw [show i + (d + 1) + 1 - 1 = i + d + 1 by omega] at e
        exact e
    rw [List.pairwise_iff_getElem]
    intro i j hi hj hij
    have := key (j - i - 1) i (by omega)
    rw [show i + (j - i - 1) + 1 = j by omega] at this
    unfold gb at this
    rw [List.getElem?_eq_getElem hi, List.getElem?_eq_getElem hj] at this
    exact this
  · rintro ⟨h1, h2, h3⟩
    unfold ckB
    simp only [Bool.and_eq_true, decide_eq_true_eq]
    refine ⟨h1, allP_iff.2 fun j hj => ?_⟩
    unfold goodB
    simp only [Bool.and_eq_true, Bool.or_eq_true, decide_eq_true_eq]
    refine ⟨h2 _ (gb_mem hj), ?_⟩
    by_cases hz : j = 0
    · exact .inl hz
    · right
      rw [List.pairwise_iff_getElem] at h3
      have := h3 (j - 1) j (by omega) hj (by omega)
      unfold gb
      rw [List.getElem?_eq_getElem hj, List.getElem?_eq_getElem (show j - 1 < l.length by omega)]
      exact this
theorem gone_ck {l : List Bd} (n : ByteArray) (h : ckB l = true) : ckB (gone l n) = true := by
  obtain ⟨h1, h2, h3⟩ := ckB_iff.1 h
  exact ckB_iff.2 ⟨Nat.le_trans (List.length_filter_le _ _) h1, fun x hx => h2 x (List.mem_filter.1 hx).1, h3.filter _⟩
theorem gone_fit {l : List Bd} (n : ByteArray) (h : fitB l) : fitB (gone l n) := fun x hx => h x (List.mem_filter.1 hx).1
theorem oB_gone (l : List Bd) (n : ByteArray) : oB l n = gone l n := rfl
/-- One among sorted ones. -/
def putB (o : List Bd) (t : Bd) : List Bd := (o.takeWhile fun x => ltS x.1 t.1) ++ t :: o.dropWhile fun x => ltS x.1 t.1
theorem insB_put (l : List Bd) (t : Bd) : insB l t = putB (gone l t.1) t := by
  unfold insB putB upB
  rw [oB_gone]
  have e := List.takeWhile_append_dropWhile (p := fun x : Bd => ltS x.1 t.1) (l := gone l t.1)
  have e1 : (gone l t.1).take ((gone l t.1).takeWhile fun x => ltS x.1 t.1).length = (gone l t.1).takeWhile fun x => ltS x.1 t.1 := by
    conv => lhs; arg 2; rw [← e]
    exact List.take_left
  have e2 : (gone l t.1).drop ((gone l t.1).takeWhile fun x => ltS x.1 t.1).length = (gone l t.1).dropWhile fun x => ltS x.1 t.1 := by
    conv => lhs; arg 2; rw [← e]
    exact List.drop_left
  rw [e1, e2]
theorem putB_mem {o : List Bd} {t x : Bd} : x ∈ putB o t ↔ x = t ∨ x ∈ o := by
  unfold putB
  conv => rhs; rw [← List.takeWhile_append_dropWhile (p := fun x : Bd => ltS x.1 t.1) (l := o)]
  simp only [List.mem_append, List.mem_cons]
  constructor
  · rintro (h | h | h)
    · exact .inr (.inl h)
    · exact .inl h
    · exact .inr (.inr h)
  · rintro (h | h | h)
    · exact .inr (.inl h)
    · exact .inl h
    · exact .inr (.inr h)
theorem putB_cons (a : Bd) (r : List Bd) (t : Bd) : putB (a :: r) t = if ltS a.1 t.1 = true then a :: putB r t else t :: a :: r := by
  unfold putB
  by_cases h : ltS a.1 t.1 = true
  · rw [if_pos h, List.takeWhile_cons, List.dropWhile_cons, if_pos h, if_pos h]; rfl
  · rw [if_neg h, List.takeWhile_cons, List.dropWhile_cons, if_neg h, if_neg h]; rfl
theorem putB_pw {o : List Bd} {t : Bd} (h : o.Pairwise (fun x y => ltS x.1 y.1 = true)) (hn : ∀ x ∈ o, x.1 ≠ t.1) : (putB o t).Pairwise (fun x y => ltS x.1 y.1 = true) := by
  induction o with
  | nil => simp [putB]
  | cons a r ih =>
    rw [putB_cons]
    obtain ⟨h1, h2⟩ := List.pairwise_cons.1 h
    by_cases hp : ltS a.1 t.1 = true
    · rw [if_pos hp]
      refine List.pairwise_cons.2 ⟨fun x hx => ?_, ih h2 (fun x hx => hn x (by simp [hx]))⟩
      rcases putB_mem.1 hx with rfl | hx
      · exact hp
      · exact h1 x hx
    · rw [if_neg hp]
      have hta : ltS t.1 a.1 = true := ltS_total (by simpa using hp) (hn a (by simp))
      refine List.pairwise_cons.2 ⟨fun x hx => ?_, h⟩
      rcases List.mem_cons.1 hx with rfl | hx
      · exact hta
      · exact ltS_trans hta (h1 x hx)
theorem fdB_put {o : List Bd} {t : Bd} (hn : ∀ x ∈ o, x.1 ≠ t.1) (s : ByteArray) : fdB (putB o t) s = if s = t.1 then some t else fdB o s := by
  induction o with
  | nil =>
    simp only [putB, List.takeWhile_nil, List.dropWhile_nil, List.nil_append, fdB]
    by_cases e : s = t.1
    · rw [if_pos e, if_pos e.symm]
    · rw [if_neg e, if_neg (fun h => e h.symm)]
  | cons a r ih =>
    have hr := ih (fun x hx => hn x (by simp [hx]))
    rw [putB_cons]
    by_cases hp : ltS a.1 t.1 = true
    · rw [if_pos hp]
      simp only [fdB, hr]
      by_cases e : s = t.1
      · subst e
        simp [hn a (by simp)]
      · rw [if_neg e, if_neg e]
    · rw [if_neg hp]
      simp only [fdB]
      by_cases e : s = t.1
      · rw [if_pos e, if_pos e.symm]
      · rw [if_neg e, if_neg (fun h => e h.symm)]
theorem gone_ne {l : List Bd} {n : ByteArray} : ∀ x ∈ gone l n, x.1 ≠ n := fun x hx => by simpa using (List.mem_filter.1 hx).2
theorem insB_fd (l : List Bd) (n : ByteArray) (t v : Int) (s : ByteArray) : fdB (insB l (n, t, v)) s = if s = n then some (n, t, v) else fdB l s := by
  rw [insB_put, fdB_put (fun x hx => gone_ne x hx), fdB_gone]
  by_cases e : s = n
  · rw [if_pos e, if_pos e]
  · rw [if_neg e, if_neg e]
    simp only [if_neg e]
theorem insB_ck {l : List Bd} {n : ByteArray} {t v : Int} (h : ckB l = true) (hl : l.length ≤ 40) (ho : okB (n, t, v) = true) : ckB (insB l (n, t, v)) = true := by
  obtain ⟨h1, h2, h3⟩ := ckB_iff.1 (gone_ck n h)
  rw [insB_put]
  refine ckB_iff.2 ⟨?_, fun x hx => ?_, putB_pw h3 (fun x hx => gone_ne x hx)⟩
  · have e : (putB (gone l n) (n, t, v)).length = (gone l n).length + 1 := by
      unfold putB
      have := congrArg List.length (List.takeWhile_append_dropWhile (p := fun x : Bd => ltS x.1 (n, t, v).1) (l := gone l n))
      rw [List.length_append] at this
      rw [List.length_append, List.length_cons]
      omega
    have := List.length_filter_le (fun b : Bd => decide (b.1 ≠ n)) l
    rw [e]
    unfold gone
    omega
  · rcases putB_mem.1 hx with rfl | hx
    · exact ho
    · exact h2 x hx
theorem insB_fit {l : List Bd} {n : ByteArray} {t v : Int} (h : fitB l) (hn : n.size ≤ 9223372036854775807) : fitB (insB l (n, t, v)) := by
  intro x hx
  rw [insB_put] at hx
  rcases putB_mem.1 hx with rfl | hx
  · exact hn
  · exact gone_fit n h x hx

/-! ### The names -/
theorem mem_compactL {α : Type} [Inhabited α] [DecidableEq α] {zs : List α} {x : α} (h : x ∈ Lib.compact zs) : x ∈ zs := by
  unfold Lib.compact Lib.compactUpTo at h
  obtain ⟨i, hi, rfl⟩ := List.mem_map.1 h
  have hi' : i < zs.length := List.mem_range.1 (List.mem_filter.1 hi).1
  simp [getElem!_pos, hi']
mutual
theorem nmK_in (d : Nat) (x : List UInt8) : ∀ e : Ex, prE e = 0 → x ∈ nmK (ppK d e) → ∃ n : ByteArray, x = n.data.toList ∧ inE n e = true ∧ nmB n = true
  | .mk k o s v es, hp, hx => by
    obtain ⟨h1, h2⟩ := prE_zero.1 hp
    simp only [ppK] at hx
    rw [show (k, o, s, v, es.length, d) :: ppKL (d + 1) es = [(k, o, s, v, es.length, d)] ++ ppKL (d + 1) es from rfl, nmK_app] at hx
    rcases List.mem_append.1 hx with hx | hx
    · unfold nmK at hx
      by_cases hk : k = 2
      · subst hk
        simp at hx
        refine ⟨s, hx, ?_, ?_⟩
        · simp [inE]
        · rcases prP_zero.1 h1 with ⟨h, _⟩ | ⟨_, _, h, _⟩ | ⟨h, _⟩ | ⟨h, _⟩
          · omega
          · exact h
          · omega
          · omega
      · simp [hk] at hx
    · obtain ⟨n, e1, e2, e3⟩ := nmKL_in (d + 1) x es h2 hx
      exact ⟨n, e1, by simp [inE, e2], e3⟩
theorem nmKL_in (d : Nat) (x : List UInt8) : ∀ es : List Ex, (∀ a ∈ es, prE a = 0) → x ∈ nmK (ppKL d es) → ∃ n : ByteArray, x = n.data.toList ∧ inL n es = true ∧ nmB n = true
  | [], _, hx => by simp [ppKL, nmK] at hx
  | a :: r, hp, hx => by
    simp only [ppKL] at hx
    rw [nmK_app] at hx
    rcases List.mem_append.1 hx with hx | hx
    · obtain ⟨n, e1, e2, e3⟩ := nmK_in d x a (hp a (by simp)) hx
      exact ⟨n, e1, by simp [inL, e2], e3⟩
    · obtain ⟨n, e1, e2, e3⟩ := nmKL_in d x r (fun b hb => hp b (by simp [hb])) hx
      exact ⟨n, e1, by simp [inL, e2], e3⟩
end
theorem nmF_in {e : Ex} {x : List UInt8} (h : x ∈ nmF e) : ∃ n : ByteArray, x = n.data.toList ∧ inE n e = true ∧ nmB n = true ∧ ckE e = 0 := by
  unfold nmF at h
  by_cases hc : ckE e = 0
  · rw [if_pos hc] at h
    have h1 := mem_compactL h
    unfold srt at h1
    rw [List.mem_mergeSort] at h1
    obtain ⟨n, e1, e2, e3⟩ := nmK_in 1 x e (ckE_ok.1 hc).2.2 h1
    exact ⟨n, e1, e2, e3, hc⟩
  · rw [if_neg hc] at h
    cases h
end Go.Proofs.YtfgaihajopfmfaaGreatDoor
