/-
  The names of a tree: put in order one by one, or sorted and compacted: the same.
-/
import Derived.Test.YtfgaihajopfmfaaGreatDoorExBndM
namespace Go.Proofs.YtfgaihajopfmfaaGreatDoor
set_option linter.unusedSimpArgs false
set_option linter.unusedVariables false
open Go.RowKit

/-- What the reference's insert returns. -/
def insF (l : List (List UInt8)) (s : List UInt8) : List (List UInt8) := if s ∈ l then l else l.takeWhile (fun x => !decide (s < x)) ++ s :: l.dropWhile (fun x => !decide (s < x))
mutual
/-- What the reference's names returns. -/
def nmG : Ex → List (List UInt8) → List (List UInt8)
  | .mk k _ s _ es, l => if k = 2 then insF l s.data.toList else nmGL es l
def nmGL : List Ex → List (List UInt8) → List (List UInt8)
  | [], l => l
  | a :: r, l => nmGL r (nmG a l)
end
theorem insF_cons (a : List UInt8) (r : List (List UInt8)) (s : List UInt8) (h1 : s ≠ a) (h2 : s ∉ r) : insF (a :: r) s = if s < a then s :: a :: r else a :: insF r s := by
  unfold insF
  rw [if_neg (by simp [h1, h2]), if_neg h2, List.takeWhile_cons, List.dropWhile_cons]
  by_cases h : s < a
  · rw [if_pos h, if_neg (by simp [h]), if_neg (by simp [h])]; rfl
  · rw [if_neg h, if_pos (by simp [h]), if_pos (by simp [h])]; rfl
theorem insF_mem (l : List (List UInt8)) (s x : List UInt8) : x ∈ insF l s ↔ x = s ∨ x ∈ l := by
  unfold insF
  by_cases h : s ∈ l
  · rw [if_pos h]
    exact ⟨.inr, fun e => e.elim (fun e => e ▸ h) id⟩
  · rw [if_neg h]
    conv => rhs; rw [← List.takeWhile_append_dropWhile (p := fun x => !decide (s < x)) (l := l)]
    simp only [List.mem_append, List.mem_cons]
    constructor
    · rintro (h | h | h)
      · exact .inr (.inl h)
      · exact .inl h
      · exact .inr (.inr h)
    · rintro (h | h | h)
      · exact .inr (.inl h)
      · exact .inl h
      · exact .inr (.inr h)
theorem lt_of_not {a b : List UInt8} (h : ¬ b < a) (hne : a ≠ b) : a < b := by
  by_cases h2 : a < b
  · exact h2
  · exact absurd (List.le_antisymm (List.not_lt.1 h) (List.not_lt.1 h2)) hne
theorem insF_pw (l : List (List UInt8)) (s : List UInt8) (h : l.Pairwise (· < ·)) : (insF l s).Pairwise (· < ·) := by
  by_cases hs : s ∈ l
  · unfold insF; rw [if_pos hs]; exact h
  · induction l with
    | nil => simp [insF]
    | cons a r ih =>
      obtain ⟨h1, h2⟩ := List.pairwise_cons.1 h
      have n1 : s ≠ a := fun e => hs (by simp [e])
      have n2 : s ∉ r := fun e => hs (by simp [e])
      rw [insF_cons a r s n1 n2]
      by_cases hp : s < a
      · rw [if_pos hp]
        refine List.pairwise_cons.2 ⟨fun x hx => ?_, h⟩
        rcases List.mem_cons.1 hx with rfl | hx
        · exact hp
        · exact List.lt_trans hp (h1 x hx)
      · rw [if_neg hp]
        refine List.pairwise_cons.2 ⟨fun x hx => ?_, ih h2 n2⟩
        rcases (insF_mem r s x).1 hx with rfl | hx
        · exact lt_of_not hp (fun e => n1 e.symm)
        · exact h1 x hx
theorem fold_ins (xs l : List (List UInt8)) (h : l.Pairwise (· < ·)) : (xs.foldl insF l).Pairwise (· < ·) ∧ ∀ x, x ∈ xs.foldl insF l ↔ x ∈ xs ∨ x ∈ l := by
  induction xs generalizing l with
  | nil => exact ⟨h, fun x => by simp⟩
  | cons a r ih =>
    obtain ⟨h1, h2⟩ := ih (insF l a) (insF_pw l a h)
    refine ⟨h1, fun x => ?_⟩
    rw [List.foldl_cons, h2, insF_mem, List.mem_cons]
    constructor
    · rintro (h | h | h)
      · exact .inl (.inr h)
      · exact .inl (.inl h)
      · exact .inr h
    · rintro ((h | h) | h)
      · exact .inr (.inl h)
      · exact .inl h
      · exact .inr (.inr h)
theorem pw_ext {a b : List (List UInt8)} (ha : a.Pairwise (· < ·)) (hb : b.Pairwise (· < ·)) (h : ∀ x, x ∈ a ↔ x ∈ b) : a = b := by
  induction a generalizing b with
  | nil =>
    cases b with
    | nil => rfl
    | cons y s => exact absurd ((h y).2 (by simp)) (by simp)
  | cons x r ih =>
    cases b with
    | nil => exact absurd ((h x).1 (by simp)) (by simp)
    | cons y s =>
      obtain ⟨a1, a2⟩ := List.pairwise_cons.1 ha
      obtain ⟨b1, b2⟩ := List.pairwise_cons.1 hb
      have e : x = y := by
        rcases List.mem_cons.1 ((h x).1 (by simp)) with e | e
        · exact e
        · rcases List.mem_cons.1 ((h y).2 (by simp)) with e2 | e2
          · exact e2.symm
          · exact absurd (List.lt_trans (a1 y e2) (b1 x e)) (List.lt_irrefl _)
      subst e
      refine congrArg _ (ih a2 b2 fun z => ?_)
      constructor
      · intro hz
        rcases List.mem_cons.1 ((h z).1 (by simp [hz])) with e | e
        · subst e; exact absurd (a1 z hz) (List.lt_irrefl _)
        · exact e
      · intro hz
        rcases List.mem_cons.1 ((h z).2 (by simp [hz])) with e | e
        · subst e; exact absurd (b1 z hz) (List.lt_irrefl _)
        · exact e
theorem comp_pw (d : Array (List UInt8)) (hs : ∀ i j, i ≤ j → j < d.size → d[i]! ≤ d[j]!) : ∀ m, m ≤ d.size → (Lib.compactUpTo d m).Pairwise (· < ·) ∧ ∀ x, x ∈ Lib.compactUpTo d m ↔ ∃ j, j < m ∧ d[j]! = x := by
  intro m
  induction m with
  | zero => intro _; simp [Lib.compactUpTo]
  | succ m ih =>
    intro hm
    obtain ⟨h1, h2⟩ := ih (by omega)
    rw [Lib.compactUpTo_succ]
    by_cases hk : Lib.keeps d m = true
    · rw [if_pos hk]
      refine ⟨List.pairwise_append.2 ⟨h1, List.pairwise_singleton _ _, fun x hx y hy => ?_⟩, fun x => ?_⟩
      · obtain rfl : y = d[m]! := by simpa using hy
        obtain ⟨j, hj, rfl⟩ := (h2 x).1 hx
        have hk' : m = 0 ∨ d[m]! ≠ d[m - 1]! := by simpa [Lib.keeps] using hk
        have hne : d[m]! ≠ d[m - 1]! := by rcases hk' with e | e; omega; exact e
        have l1 := hs j (m - 1) (by omega) (by omega)
        have l2 := hs (m - 1) m (by omega) (by omega)
        refine lt_of_not (fun h => ?_) (fun e => ?_)
        · exact absurd (List.le_trans l1 l2) (List.not_le.2 h)
        · exact hne (List.le_antisymm (by rw [← e]; exact l1) l2)
      · rw [List.mem_append, h2]
        constructor
        · rintro (⟨j, hj, e⟩ | h)
          · exact ⟨j, by omega, e⟩
          · exact ⟨m, by omega, by simpa using Eq.symm (by simpa using h)⟩
        · rintro ⟨j, hj, e⟩
          by_cases hjm : j = m
          · subst hjm; right; simp [e]
          · exact .inl ⟨j, by omega, e⟩
    · rw [if_neg hk, List.append_nil]
      refine ⟨h1, fun x => ?_⟩
      rw [h2]
      constructor
      · rintro ⟨j, hj, e⟩; exact ⟨j, by omega, e⟩
      · rintro ⟨j, hj, e⟩
        by_cases hjm : j = m
        · subst hjm
          have hk' : ¬ (j = 0 ∨ d[j]! ≠ d[j - 1]!) := by simpa [Lib.keeps] using hk
          have h0 : j ≠ 0 := fun e => hk' (.inl e)
          have h3 : d[j]! = d[j - 1]! := Decidable.byContradiction fun e => hk' (.inr e)
          exact ⟨j - 1, by omega, by rw [← h3]; exact e⟩
        · exact ⟨j, by omega, e⟩
theorem srt_sorted (l : List (List UInt8)) : (srt l).Pairwise (· ≤ ·) := by
  have := List.pairwise_mergeSort (le := fun x y : List UInt8 => decide (x ≤ y)) (fun a b c h1 h2 => by simp at h1 h2 ⊢; exact List.le_trans h1 h2) (fun a b => by simp; exact List.le_total a b) l
  exact this.imp (fun h => by simpa using h)
theorem comp_srt (l : List (List UInt8)) : (Lib.compact (srt l)).Pairwise (· < ·) ∧ ∀ x, x ∈ Lib.compact (srt l) ↔ x ∈ l := by
  have hp := srt_sorted l
  rw [List.pairwise_iff_getElem] at hp
  obtain ⟨h1, h2⟩ := comp_pw (srt l).toArray (fun i j hij hj => by
    have hj' : j < (srt l).length := by simpa using hj
    by_cases e : i = j
    · subst e; exact List.le_refl _
    · have := hp i j (by omega) hj' (by omega)
      simpa [getElem!_pos, hj', (show i < (srt l).length by omega)] using this) (srt l).length (by simp)
  refine ⟨h1, fun x => ?_⟩
  unfold Lib.compact
  rw [h2]
  have hm : x ∈ l ↔ x ∈ srt l := by unfold srt; rw [List.mem_mergeSort]
  rw [hm, List.mem_iff_getElem]
  constructor
  · rintro ⟨j, hj, e⟩
    exact ⟨j, hj, by simpa [getElem!_pos, hj] using e⟩
  · rintro ⟨j, hj, e⟩
    exact ⟨j, hj, by simpa [getElem!_pos, hj] using e⟩
mutual
theorem nmG_fold (d : Nat) : ∀ (e : Ex) (l : List (List UInt8)), prE e = 0 → nmG e l = (nmK (ppK d e)).foldl insF l
  | .mk k o s v es, l, hp => by
    obtain ⟨h1, h2⟩ := prE_zero.1 hp
    simp only [ppK, nmG]
    rw [show (k, o, s, v, es.length, d) :: ppKL (d + 1) es = [(k, o, s, v, es.length, d)] ++ ppKL (d + 1) es from rfl, nmK_app, List.foldl_append]
    by_cases hk : k = 2
    · subst hk
      have hes : es = [] := by
        rcases prP_zero.1 h1 with ⟨h, _⟩ | ⟨_, _, _, _, h⟩ | ⟨h, _⟩ | ⟨h, _⟩
        · omega
        · exact List.eq_nil_of_length_eq_zero h
        · omega
        · omega
      subst hes
      rw [if_pos rfl]
      simp [nmK, ppKL]
    · rw [if_neg hk]
      have e : nmK [(k, o, s, v, es.length, d)] = [] := by simp [nmK, hk]
      rw [e, List.foldl_nil]
      exact nmGL_fold (d + 1) es l h2
theorem nmGL_fold (d : Nat) : ∀ (es : List Ex) (l : List (List UInt8)), (∀ a ∈ es, prE a = 0) → nmGL es l = (nmK (ppKL d es)).foldl insF l
  | [], l, _ => by simp [nmGL, ppKL, nmK]
  | a :: r, l, hp => by
    simp only [nmGL, ppKL]
    rw [nmK_app, List.foldl_append, ← nmG_fold d a l (hp a (by simp))]
    exact nmGL_fold d r _ (fun b hb => hp b (by simp [hb]))
end
theorem names_eq (e : Ex) : nmF e = if ckE e = 0 then nmG e [] else [] := by
  unfold nmF
  by_cases h : ckE e = 0
  · rw [if_pos h, if_pos h, nmG_fold 1 e [] (ckE_ok.1 h).2.2]
    obtain ⟨a1, a2⟩ := comp_srt (nmK (ppK 1 e))
    obtain ⟨b1, b2⟩ := fold_ins (nmK (ppK 1 e)) [] List.Pairwise.nil
    exact pw_ext a1 b1 fun x => by rw [a2, b2]; simp
  · rw [if_neg h, if_neg h]

end Go.Proofs.YtfgaihajopfmfaaGreatDoor
