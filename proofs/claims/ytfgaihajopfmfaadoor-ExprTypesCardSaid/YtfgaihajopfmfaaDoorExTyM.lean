/-
  Other values of the names: valid bindings stay valid, types stay; what a failed type is.
-/
import Derived.Test.YtfgaihajopfmfaaDoorExBd
import Derived.Test.YtfgaihajopfmfaaDoorExMath
namespace Go.Proofs.YtfgaihajopfmfaaDoor
set_option linter.unusedSimpArgs false
set_option linter.unusedVariables false
open Go.RowKit

/-- Another value for a name. -/
def gT (b : Bd) : Bd := (b.1, b.2.1, if b.2.1 = 1 then 7 else 1 - b.2.2)
theorem okB_gT {b : Bd} (h : okB b = true) : okB (gT b) = true := by
  unfold okB gT at *
  by_cases h1 : b.2.1 = 1
  · simp [h1] at h ⊢
    exact h.1
  · simp [h1] at h ⊢
    obtain ⟨h2, h3, h4⟩ := h
    refine ⟨h2, h3, ?_⟩
    omega
theorem gb_map (l : List Bd) (j : Nat) (h : j < l.length) : gb (l.map gT) j = gT (gb l j) := by
  unfold gb
  rw [List.getElem?_map, List.getElem?_eq_getElem h]
  rfl
theorem ckB_gT {l : List Bd} (h : ckB l = true) : ckB (l.map gT) = true := by
  unfold ckB at *
  simp only [Bool.and_eq_true, decide_eq_true_eq, List.length_map] at h ⊢
  refine ⟨h.1, allP_iff.2 fun j hj => ?_⟩
  have hg := allP_iff.1 h.2 j hj
  unfold goodB at hg ⊢
  rw [gb_map l j hj]
  simp only [Bool.and_eq_true, Bool.or_eq_true, decide_eq_true_eq] at hg ⊢
  refine ⟨okB_gT hg.1, ?_⟩
  rcases hg.2 with h0 | h0
  · exact .inl h0
  · by_cases hz : j = 0
    · exact .inl hz
    · right
      rw [gb_map l (j - 1) (by omega)]
      exact h0
theorem tyF_gT {l : List Bd} (h : ckB l = true) (e : Ex) : tyF (l.map gT) e = tyF l e := by
  have := ty_map (g := gT) (fun b => rfl) (fun b => rfl) l e
  unfold tyF
  rw [h, ckB_gT h, this]
theorem cbE_err (lf : Int → ByteArray → Int → Int × Int) (op : Int → List Int → Int × Int) (hl : ∀ k s v, (lf k s v).2 ≠ 0 → (lf k s v).1 = 0) (ho : ∀ o xs, (op o xs).2 ≠ 0 → (op o xs).1 = 0) (e : Ex) : (cbE lf op e).2 ≠ 0 → (cbE lf op e).1 = 0 := by
  obtain ⟨k, o, s, v, es⟩ := e
  rw [cbE_mk]
  by_cases hc : (cbL lf op es).2 = 0
  · rw [if_neg (by simpa using hc)]
    by_cases hz : es.length = 0
    · rw [if_pos hz]; exact hl k s v
    · rw [if_neg hz]; exact ho o _
  · rw [if_pos hc]
    intro _
    rfl
theorem tyF_err {l : List Bd} {e : Ex} (h : (tyF l e).2 ≠ 0) : (tyF l e).1 = 0 := by
  unfold tyF at h ⊢
  by_cases h1 : ckE e = 0
  · rw [if_neg (by simpa using h1)] at h ⊢
    cases hb : ckB l with
    | false => simp
    | true =>
      rw [hb] at h
      simp only [Bool.true_eq_false, if_false] at h ⊢
      refine cbE_err (lfT l) opT (fun k s v h => ?_) (fun o xs h => ?_) e h
      · unfold lfT at h ⊢
        by_cases hk : k = 1
        · rw [if_pos hk] at h; exact absurd rfl h
        · rw [if_neg hk] at h ⊢
          cases hf : fdB l s with
          | none => rfl
          | some b => rw [hf] at h; exact absurd rfl h
      · unfold opT at h ⊢
        by_cases hc : xs.all (fun t => decide (t = xs.headD 0 ∧ (tkO o = 0 ∨ t = tkO o))) = true
        · rw [if_pos hc] at h; exact absurd rfl h
        · rw [if_neg hc]
  · rw [if_pos h1]
/-- What ExprTypes asks of a type and a value. -/
theorem types_all {l : List Bd} (hl : ckB l = true) (e : Ex) (T X V Y : Int) (hT : tyF l e = (T, X)) (hV : vlF l e = (V, Y)) :
    (X ≠ 0 → T = 0 ∧ V = 0 ∧ Y = X) ∧ (X = 0 → Y ≠ 0 → V = 0 ∧ (Y = 24 ∨ Y = 14)) ∧ (X = 0 → Y = 0 → (T = 1 ∧ -1099511627776 ≤ V ∧ V ≤ 1099511627776) ∨ (T = 2 ∧ (V = 0 ∨ V = 1))) := by
  have key : X = 0 → Snd l e T ∧ vlE l e = (V, Y) := fun hX => by
    have h0 := tyF_ok (l := l) (e := e) (by rw [hT]; exact hX)
    have ht : tyE l e = (T, 0) := by rw [← h0.2.2, hT, hX]
    refine ⟨sound l hl e (ckE_ok.1 h0.1).2.2 T ht, ?_⟩
    unfold vlF at hV
    rw [hT, if_neg (by simpa using hX)] at hV
    exact hV
  refine ⟨fun hX => ?_, fun hX hY => ?_, fun hX hY => ?_⟩
  · have h1 : T = 0 := by have := tyF_err (l := l) (e := e) (by rw [hT]; exact hX); rw [hT] at this; exact this
    unfold vlF at hV
    rw [hT, if_pos hX] at hV
    injection hV with h2 h3
    exact ⟨h1, h2.symm, h3.symm⟩
  · obtain ⟨hs, hv⟩ := key hX
    have := hs.err (by rw [hv]; exact hY)
    rw [hv] at this
    exact ⟨this.2, this.1⟩
  · obtain ⟨hs, hv⟩ := key hX
    have := hs.ok (by rw [hv]; exact hY)
    rw [hv] at this
    exact this

end Go.Proofs.YtfgaihajopfmfaaDoor
