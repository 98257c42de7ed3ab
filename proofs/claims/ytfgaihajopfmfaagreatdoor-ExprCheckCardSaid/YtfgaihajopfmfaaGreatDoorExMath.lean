/-
  Valid trees: what is known of their strings; replacing keeps them valid part by part. Folding keeps types and values. Types hang on the types of the names alone. A name without its binding: no type. Replacing a name by an expression, and binding it to its value: the same.
-/
import Derived.Test.YtfgaihajopfmfaaGreatDoorExDevE
import Derived.Test.YtfgaihajopfmfaaGreatDoorExRefA
import Derived.Test.YtfgaihajopfmfaaGreatDoorExRefC
/-! ### ExVal: Valid trees: what is known of their strings; replacing keeps them valid part by part. -/
namespace Go.Proofs.YtfgaihajopfmfaaGreatDoor
set_option linter.unusedSimpArgs false
set_option linter.unusedVariables false
open Go.RowKit

theorem fitL_of {es : List Ex} (h : ∀ a ∈ es, fitE a) : fitL es := by
  induction es with
  | nil => simp [fitL]
  | cons a r ih => exact ⟨h a (by simp), ih (fun b hb => h b (by simp [hb]))⟩
theorem prE_fit (e : Ex) : prE e = 0 → fitE e := by
  induction e using Ex.ind with
  | h k o s v es ih =>
  intro hP
  refine ⟨?_, fitL_of (fun a ha => ih a ha (prE_arg hP a ha))⟩
  rcases prP_zero.1 (prE_zero.1 hP).1 with ⟨_, _, rfl, _⟩ | ⟨_, _, hnm, _⟩ | ⟨_, _, rfl, _⟩ | ⟨_, _, _, rfl, _⟩
  · decide
  · have := nmB_size hnm; omega
  · decide
  · decide
theorem rp_prE {f : Ex → Option Ex} (hf : ∀ e b, prE e = 0 → f e = some b → prE b = 0) (e : Ex) : prE e = 0 → prE (rpE f e) = 0 := by
  induction e using Ex.ind with
  | h k o s v es ih =>
  intro hP
  cases hc : f (.mk k o s v es) with
  | some b => rw [rpE_some hc]; exact hf _ b hP hc
  | none =>
    rw [rpE_no hc, rpL_map]
    have h := prE_zero.1 hP
    refine prE_zero.2 ⟨by rw [List.length_map]; exact h.1, fun a ha => ?_⟩
    obtain ⟨x, hx, rfl⟩ := List.mem_map.1 ha
    exact ih x hx (h.2 x hx)
theorem prE_numX {n : Int} (h0 : 0 ≤ n) (h1 : n ≤ 1099511627776) : prE (numX n) = 0 :=
  prE_zero.2 ⟨prP_zero.2 (.inl ⟨rfl, rfl, rfl, h0, h1, rfl⟩), fun a ha => by cases ha⟩
theorem prE_litX {n : Int} (h0 : -1099511627776 ≤ n) (h1 : n ≤ 1099511627776) : prE (litX n) = 0 := by
  unfold litX
  by_cases h : n < 0
  · rw [if_pos h]
    refine prE_zero.2 ⟨prP_zero.2 (.inr (.inr (.inl ⟨rfl, .inl rfl, rfl, rfl, rfl⟩))), fun a ha => ?_⟩
    have : a = numX (-n) := by simpa using ha
    subst this
    exact prE_numX (by omega) (by omega)
  · rw [if_neg h]
    exact prE_numX (by omega) h1
theorem cnE_lit {e b : Ex} (hp : prE e = 0) (h : cnE e = some b) : ∃ n, b = litX n ∧ -1099511627776 ≤ n ∧ n ≤ 1099511627776 ∧ tyE [] e = (1, 0) ∧ vlE [] e = (n, 0) := by
  unfold cnE at h
  by_cases hc : tyE [] e = (1, 0) ∧ (vlE [] e).2 = 0
  · rw [if_pos hc] at h
    injection h with h
    have := ((sound [] ckB_nil e hp 1 hc.1).ok hc.2).range
    exact ⟨_, h.symm, this.1, this.2, hc.1, by rw [← hc.2]⟩
  · rw [if_neg hc] at h; cases h
theorem fldE_prE (e : Ex) (h : prE e = 0) : prE (fldE e) = 0 := rp_prE (fun e b hp hb => by
  obtain ⟨n, rfl, h0, h1, _⟩ := cnE_lit hp hb
  exact prE_litX h0 h1) e h
theorem sbE_prE (s : ByteArray) (b : Ex) (hb : prE b = 0) (e : Ex) (h : prE e = 0) : prE (sbE s b e) = 0 := rp_prE (fun e x _ hx => by
  unfold sbF at hx
  split at hx
  · injection hx with hx; rw [← hx]; exact hb
  · cases hx) e h

end Go.Proofs.YtfgaihajopfmfaaGreatDoor

/-! ### ExFoldM: Folding keeps types and values. -/
namespace Go.Proofs.YtfgaihajopfmfaaGreatDoor
set_option linter.unusedSimpArgs false
set_option linter.unusedVariables false
open Go.RowKit

theorem cbL_map {lf lf' : Int → ByteArray → Int → Int × Int} {op : Int → List Int → Int × Int} {g : Ex → Ex} {es : List Ex} (h : ∀ a ∈ es, cbE lf op (g a) = cbE lf' op a) : cbL lf op (es.map g) = cbL lf' op es := by
  induction es with
  | nil => simp [cbL_nil]
  | cons a r ih =>
    rw [List.map_cons, cbL_cons, cbL_cons, h a (by simp), ih (fun b hb => h b (by simp [hb]))]
theorem noNames (l : List Bd) (e : Ex) : (tyE [] e).2 = 0 → tyE l e = tyE [] e ∧ vlE l e = vlE [] e := by
  induction e using Ex.ind with
  | h k o s v es ih =>
  intro h
  have ha := tyE_args h
  have h1 : cbL (lfT l) opT (es.map id) = cbL (lfT []) opT es := cbL_map (fun a hm => (ih a hm (ha a hm)).1)
  have h2 : cbL (lfV l) opV (es.map id) = cbL (lfV []) opV es := cbL_map (fun a hm => (ih a hm (ha a hm)).2)
  rw [List.map_id] at h1 h2
  have hL := tyE_L h
  unfold tyE at h
  unfold tyE vlE
  rw [cbE_mk, cbE_mk, cbE_mk, cbE_mk, h1, h2]
  rw [cbE_mk] at h
  by_cases hn : es.length = 0
  · have hk : k = 1 := by
      by_cases hk : k = 1
      · exact hk
      · simp only [hL, hn, ne_eq, not_true_eq_false, if_false, if_true, lfT, if_neg hk, fdB] at h
        cases h
    subst hk
    simp [lfT, lfV]
  · simp [hn]
theorem litX_ty (l : List Bd) (n : Int) : tyE l (litX n) = (1, 0) := by
  unfold litX
  by_cases h : n < 0
  · rw [if_pos h]; rfl
  · rw [if_neg h]; rfl
theorem litX_vl (l : List Bd) (n : Int) : vlE l (litX n) = (n, 0) := by
  unfold litX
  by_cases h : n < 0
  · rw [if_pos h]
    have : vlE l (.mk 3 1 .empty 0 [numX (-n)]) = (-(-n), 0) := rfl
    rw [this, Int.neg_neg]
  · rw [if_neg h]; rfl
theorem fold_same (l : List Bd) (e : Ex) : prE e = 0 → tyE l (fldE e) = tyE l e ∧ vlE l (fldE e) = vlE l e := by
  induction e using Ex.ind with
  | h k o s v es ih =>
  intro hP
  unfold fldE
  cases hc : cnE (.mk k o s v es) with
  | some b =>
    obtain ⟨n, rfl, _, _, ht, hv⟩ := cnE_lit hP hc
    have hn := noNames l (.mk k o s v es) (by rw [ht])
    rw [rpE_some hc, litX_ty, litX_vl, hn.1, hn.2, ht, hv]
    exact ⟨rfl, rfl⟩
  | none =>
    have h1 : cbL (lfT l) opT (es.map (rpE cnE)) = cbL (lfT l) opT es := cbL_map (fun a hm => (ih a hm (prE_arg hP a hm)).1)
    have h2 : cbL (lfV l) opV (es.map (rpE cnE)) = cbL (lfV l) opV es := cbL_map (fun a hm => (ih a hm (prE_arg hP a hm)).2)
    rw [rpE_no hc, rpL_map]
    unfold tyE vlE
    rw [cbE_mk, cbE_mk, cbE_mk, cbE_mk, h1, h2, List.length_map]
    exact ⟨rfl, rfl⟩

theorem cnE_same {a b : Ex} (h1 : tyE [] a = tyE [] b) (h2 : vlE [] a = vlE [] b) : cnE a = cnE b := by unfold cnE; rw [h1, h2]
theorem cnE_litX (n : Int) : cnE (litX n) = some (litX n) := by
  unfold cnE
  rw [litX_ty, litX_vl]
  simp
theorem rpE_hit {f : Ex → Option Ex} {e b : Ex} (h : f e = some b) : rpE f e = b := by
  cases e
  exact rpE_some h
theorem fold_idem (e : Ex) : prE e = 0 → fldE (fldE e) = fldE e := by
  induction e using Ex.ind with
  | h k o s v es ih =>
  intro hP
  cases hc : cnE (.mk k o s v es) with
  | some b =>
    obtain ⟨n, rfl, _⟩ := cnE_lit hP hc
    unfold fldE
    rw [rpE_some hc, rpE_hit (cnE_litX n)]
  | none =>
    have hs := fold_same [] (.mk k o s v es) hP
    unfold fldE at hs ih ⊢
    rw [rpE_no hc, rpL_map] at hs ⊢
    have hc2 : cnE (.mk k o s v (es.map (rpE cnE))) = none := by rw [cnE_same hs.1 hs.2, hc]
    rw [rpE_no hc2, rpL_map, List.map_map]
    congr 1
    exact List.map_congr_left (fun a ha => ih a ha (prE_arg hP a ha))
theorem szL_map {g : Ex → Ex} {es : List Ex} (h : ∀ a ∈ es, szE (g a) ≤ szE a) : szL (es.map g) ≤ szL es := by
  induction es with
  | nil => simp
  | cons a r ih =>
    simp only [List.map_cons, szL]
    have := h a (by simp)
    have := ih (fun b hb => h b (by simp [hb]))
    omega
theorem fold_size (e : Ex) : prE e = 0 → szE (fldE e) ≤ szE e := by
  induction e using Ex.ind with
  | h k o s v es ih =>
  intro hP
  unfold fldE
  cases hc : cnE (.mk k o s v es) with
  | some b =>
    obtain ⟨n, rfl, _, _, ht, hv⟩ := cnE_lit hP hc
    rw [rpE_some hc]
    unfold litX
    by_cases h : n < 0
    · rw [if_pos h]
      simp only [szE, szL, numX]
      have : es ≠ [] := by
        intro he
        subst he
        have hp := (prE_zero.1 hP).1
        rcases prP_zero.1 hp with ⟨rfl, rfl, rfl, h0, _⟩ | ⟨rfl, rfl, _⟩ | ⟨_, _, _, _, h5⟩ | ⟨_, _, _, _, _, h5⟩
        · have : vlE [] (.mk 1 0 .empty v []) = (v, 0) := rfl
          rw [this] at hv
          injection hv with hv _
          omega
        · have : tyE [] (.mk 2 0 s v []) = (0, 7) := rfl
          rw [this] at ht
          cases ht
        · simp at h5
        · simp at h5
      cases es with
      | nil => exact absurd rfl this
      | cons a r => simp only [szL]; have := szE_pos a; omega
    · rw [if_neg h]
      simp only [szE, szL, numX]
      omega
  | none =>
    rw [rpE_no hc, rpL_map]
    simp only [szE]
    have := szL_map (g := rpE cnE) (fun a ha => ih a ha (prE_arg hP a ha))
    omega

theorem dpL_map {g : Ex → Ex} {es : List Ex} (h : ∀ a ∈ es, dpE (g a) ≤ dpE a) : dpL (es.map g) ≤ dpL es := by
  induction es with
  | nil => simp
  | cons a r ih =>
    simp only [List.map_cons, dpL]
    have := h a (by simp)
    have := ih (fun b hb => h b (by simp [hb]))
    omega
theorem dpE_posX (e : Ex) : 1 ≤ dpE e := by cases e; simp only [dpE]; omega
theorem fold_depth (e : Ex) : prE e = 0 → dpE (fldE e) ≤ dpE e := by
  induction e using Ex.ind with
  | h k o s v es ih =>
  intro hP
  unfold fldE
  cases hc : cnE (.mk k o s v es) with
  | some b =>
    obtain ⟨n, rfl, _, _, ht, hv⟩ := cnE_lit hP hc
    rw [rpE_some hc]
    unfold litX
    by_cases h : n < 0
    · rw [if_pos h]
      simp only [dpE, dpL, numX]
      have : es ≠ [] := by
        intro he
        subst he
        have hp := (prE_zero.1 hP).1
        rcases prP_zero.1 hp with ⟨rfl, rfl, rfl, h0, _⟩ | ⟨rfl, rfl, _⟩ | ⟨_, _, _, _, h5⟩ | ⟨_, _, _, _, _, h5⟩
        · have : vlE [] (.mk 1 0 .empty v []) = (v, 0) := rfl
          rw [this] at hv
          injection hv with hv _
          omega
        · have : tyE [] (.mk 2 0 s v []) = (0, 7) := rfl
          rw [this] at ht
          cases ht
        · simp at h5
        · simp at h5
      cases es with
      | nil => exact absurd rfl this
      | cons a r => simp only [dpL]; have := dpE_posX a; omega
    · rw [if_neg h]
      simp only [dpE, dpL, numX]
      omega
  | none =>
    rw [rpE_no hc, rpL_map]
    simp only [dpE]
    have := dpL_map (g := rpE cnE) (fun a ha => ih a ha (prE_arg hP a ha))
    omega
theorem fold_ck (e : Ex) (h : ckE e = 0) : ckE (fldE e) = 0 := by
  obtain ⟨h1, h2, h3⟩ := ckE_ok.1 h
  exact ckE_ok.2 ⟨Nat.le_trans (fold_size e h3) h1, Nat.le_trans (fold_depth e h3) h2, fldE_prE e h3⟩

end Go.Proofs.YtfgaihajopfmfaaGreatDoor

/-! ### ExTypM: Types hang on the types of the names alone. -/
namespace Go.Proofs.YtfgaihajopfmfaaGreatDoor
set_option linter.unusedSimpArgs false
set_option linter.unusedVariables false
open Go.RowKit

theorem fdB_map {g : Bd → Bd} (hg : ∀ b, (g b).1 = b.1) (l : List Bd) (s : ByteArray) : fdB (l.map g) s = (fdB l s).map g := by
  induction l with
  | nil => rfl
  | cons b r ih =>
    simp only [List.map_cons, fdB, hg]
    by_cases h : b.1 = s
    · simp [h]
    · simp [h, ih]
theorem ty_map {g : Bd → Bd} (hg : ∀ b, (g b).1 = b.1) (ht : ∀ b, (g b).2.1 = b.2.1) (l : List Bd) (e : Ex) : tyE (l.map g) e = tyE l e := by
  have : lfT (l.map g) = lfT l := by
    funext k s v
    unfold lfT
    rw [fdB_map hg]
    cases fdB l s with
    | none => rfl
    | some b => simp [ht]
  unfold tyE
  rw [this]

end Go.Proofs.YtfgaihajopfmfaaGreatDoor

/-! ### ExGone: A name without its binding: no type. -/
namespace Go.Proofs.YtfgaihajopfmfaaGreatDoor
set_option linter.unusedSimpArgs false
set_option linter.unusedVariables false
open Go.RowKit

mutual
def inE (n : ByteArray) : Ex → Bool
  | .mk k _ s _ es => (decide (k = 2) && decide (s = n)) || inL n es
def inL (n : ByteArray) : List Ex → Bool
  | [] => false
  | a :: r => inE n a || inL n r
end
def gone (l : List Bd) (n : ByteArray) : List Bd := l.filter fun b => decide (b.1 ≠ n)
theorem fdB_gone (l : List Bd) (n s : ByteArray) : fdB (gone l n) s = if s = n then none else fdB l s := by
  induction l with
  | nil => simp [gone, fdB]
  | cons b r ih =>
    unfold gone at ih ⊢
    by_cases h : b.1 = n
    · rw [List.filter_cons_of_neg (by simpa using h), ih]
      by_cases hs : s = n
      · simp [hs]
      · have : ¬ b.1 = s := fun e => hs (by rw [← e, h])
        simp [hs, fdB, this]
    · rw [List.filter_cons_of_pos (by simpa using h)]
      simp only [fdB, ih]
      by_cases hs : s = n
      · subst hs; simp [h]
      · simp [hs]
theorem gone_L (l : List Bd) (n : ByteArray) (es : List Ex) (ih : ∀ a ∈ es, (tyE l a).2 = 0 → tyE (gone l n) a = if inE n a = true then (0, 7) else tyE l a) (h : (cbL (lfT l) opT es).2 = 0) :
    cbL (lfT (gone l n)) opT es = if inL n es = true then ([], 7) else cbL (lfT l) opT es := by
  induction es with
  | nil => simp [inL, cbL_nil]
  | cons a r ihr =>
    have ha := cbL_args _ _ (a :: r) h
    have h1 : cbE (lfT (gone l n)) opT a = if inE n a = true then (0, 7) else cbE (lfT l) opT a := ih a (by simp) (ha a (by simp))
    have hr : (cbL (lfT l) opT r).2 = 0 := by
      rw [cbL_cons] at h
      have := ha a (by simp)
      simp only [this, ne_eq, not_true_eq_false, if_false] at h
      by_cases hr : (cbL (lfT l) opT r).2 = 0
      · exact hr
      · simp [hr] at h
    have h2 := ihr (fun b hb => ih b (by simp [hb])) hr
    rw [cbL_cons, cbL_cons, h1, h2]
    have ha0 := ha a (by simp)
    by_cases c1 : inE n a = true
    · simp [inL, c1]
    · by_cases c2 : inL n r = true
      · simp [inL, c1, c2, ha0]
      · simp [inL, c1, c2]
theorem gone_ty (l : List Bd) (n : ByteArray) (e : Ex) : prE e = 0 → (tyE l e).2 = 0 → tyE (gone l n) e = if inE n e = true then (0, 7) else tyE l e := by
  induction e using Ex.ind with
  | h k o s v es ih =>
  intro hP h
  have hL := gone_L l n es (fun a ha => ih a ha ((prE_zero.1 hP).2 a ha)) (tyE_L h)
  have h0 := tyE_L h
  unfold tyE
  rw [cbE_mk, cbE_mk, hL]
  rcases prP_zero.1 (prE_zero.1 hP).1 with ⟨rfl, rfl, rfl, _, _, hn⟩ | ⟨rfl, rfl, _, rfl, hn⟩ | ⟨rfl, _, _, _, hn⟩ | ⟨rfl, _, _, _, _, hn⟩
  · have : es = [] := by simpa using hn
    subst this
    simp [inE, inL, cbL_nil, lfT]
  · have : es = [] := by simpa using hn
    subst this
    by_cases hs : s = n
    · simp [inE, inL, cbL_nil, lfT, fdB_gone, hs]
    · simp [inE, inL, cbL_nil, lfT, fdB_gone, hs]
  · have hne : ¬ es = [] := fun e => by rw [e] at hn; simp at hn
    by_cases c : inL n es = true
    · simp [inE, c]
    · simp [inE, c, hne]
  · have hne : ¬ es = [] := fun e => by rw [e] at hn; simp at hn
    by_cases c : inL n es = true
    · simp [inE, c]
    · simp [inE, c, hne]

end Go.Proofs.YtfgaihajopfmfaaGreatDoor

/-! ### ExSubM: Replacing a name by an expression, and binding it to its value: the same. -/
namespace Go.Proofs.YtfgaihajopfmfaaGreatDoor
set_option linter.unusedSimpArgs false
set_option linter.unusedVariables false
open Go.RowKit

theorem sub_same (l m : List Bd) (n : ByteArray) (y : Ex) (t v : Int) (hm : ∀ s, fdB m s = if s = n then some (n, t, v) else fdB l s) (ht : tyE l y = (t, 0)) (hv : vlE l y = (v, 0)) (e : Ex) :
    prE e = 0 → tyE l (sbE n y e) = tyE m e ∧ vlE l (sbE n y e) = vlE m e := by
  induction e using Ex.ind with
  | h k o s w es ih =>
  intro hP
  unfold sbE
  by_cases hc : k = 2 ∧ s = n
  · obtain ⟨rfl, rfl⟩ := hc
    have hf : sbF s y (.mk 2 o s w es) = some y := by unfold sbF; rw [if_pos ⟨rfl, rfl⟩]
    have hes : es = [] := by
      rcases prP_zero.1 (prE_zero.1 hP).1 with ⟨h, _⟩ | ⟨_, _, _, _, h⟩ | ⟨h, _⟩ | ⟨h, _⟩
      · omega
      · simpa using h
      · omega
      · omega
    subst hes
    rw [rpE_some hf, ht, hv]
    unfold tyE vlE
    rw [cbE_mk, cbE_mk]
    simp [cbL_nil, lfT, lfV, hm]
  · have hf : sbF n y (.mk k o s w es) = none := if_neg hc
    rw [rpE_no hf, rpL_map]
    have h1 : cbL (lfT l) opT (es.map (rpE (sbF n y))) = cbL (lfT m) opT es := cbL_map (fun a hm => (ih a hm (prE_arg hP a hm)).1)
    have h2 : cbL (lfV l) opV (es.map (rpE (sbF n y))) = cbL (lfV m) opV es := cbL_map (fun a hm => (ih a hm (prE_arg hP a hm)).2)
    have hlf : lfT l k s w = lfT m k s w ∧ lfV l k s w = lfV m k s w ∨ ¬ es.length = 0 := by
      rcases prP_zero.1 (prE_zero.1 hP).1 with ⟨rfl, _⟩ | ⟨rfl, _⟩ | ⟨_, _, _, _, h⟩ | ⟨_, _, _, _, _, h⟩
      · exact .inl ⟨by simp [lfT], by simp [lfV]⟩
      · have hs : ¬ s = n := fun e => hc ⟨rfl, e⟩
        exact .inl ⟨by simp [lfT, hm, hs], by simp [lfV, hm, hs]⟩
      · exact .inr (by omega)
      · exact .inr (by omega)
    unfold tyE vlE
    rw [cbE_mk, cbE_mk, cbE_mk, cbE_mk, h1, h2, List.length_map]
    rcases hlf with ⟨e1, e2⟩ | hn
    · rw [e1, e2]; exact ⟨rfl, rfl⟩
    · simp only [if_neg hn]; exact ⟨trivial, trivial⟩

end Go.Proofs.YtfgaihajopfmfaaGreatDoor
