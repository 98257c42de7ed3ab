/-
  Tokens with separators between them.
-/
import Derived.Test.YtdgphhdkeikbaaaDoorLxErrM
namespace Go.Proofs.YtdgphhdkeikbaaaDoor
set_option linter.unusedSimpArgs false
set_option linter.unusedVariables false
open Go.RowKit

theorem takeWhile_takeS {sb : UInt8} {p : UInt8 → Bool} {l : LBy} {j : Nat} (h : (l.takeWhile p).length ≤ j) (z : LBy) (hp : p sb = false) : (l.take j ++ sb :: z).takeWhile p = l.takeWhile p := by
  induction l generalizing j with
  | nil => simp [List.takeWhile_cons, hp]
  | cons c r ih =>
    rw [List.takeWhile_cons] at h
    by_cases hc : p c = true
    · rw [if_pos hc] at h
      simp only [List.length_cons] at h
      obtain ⟨j, rfl⟩ : ∃ m, j = m + 1 := ⟨j - 1, by omega⟩
      rw [List.take_succ_cons, List.cons_append, List.takeWhile_cons, List.takeWhile_cons, if_pos hc, if_pos hc, ih (by omega)]
    · cases j with
      | zero => simp [List.takeWhile_cons, hp, hc]
      | succ j => rw [List.take_succ_cons, List.cons_append, List.takeWhile_cons, List.takeWhile_cons, if_neg hc, if_neg hc]
theorem prefix_cutS {sb : UInt8} {s l : LBy} {j : Nat} {z : LBy} (hs : sb ∉ s) (h : s.isPrefixOf (l.take j ++ sb :: z) = true) : s.isPrefixOf l = true := by
  induction s generalizing l j with
  | nil => simp
  | cons a s ih =>
    simp only [List.mem_cons, not_or] at hs
    cases l with
    | nil =>
      simp only [List.take_nil, List.nil_append, List.isPrefixOf, Bool.and_eq_true, beq_iff_eq] at h
      exact absurd h.1.symm hs.1
    | cons c r =>
      cases j with
      | zero =>
        simp only [List.take_zero, List.nil_append, List.isPrefixOf, Bool.and_eq_true, beq_iff_eq] at h
        exact absurd h.1.symm hs.1
      | succ j =>
        simp only [List.take_succ_cons, List.cons_append, List.isPrefixOf, Bool.and_eq_true, beq_iff_eq] at h ⊢
        exact ⟨h.1, ih hs.2 h.2⟩
theorem prefix_keepS {sb : UInt8} {s l : LBy} {j : Nat} {z : LBy} (hj : s.length ≤ j) (h : s.isPrefixOf l = true) : s.isPrefixOf (l.take j ++ sb :: z) = true := by
  induction s generalizing l j with
  | nil => simp
  | cons a s ih =>
    cases l with
    | nil => cases h
    | cons c r =>
      simp only [List.length_cons] at hj
      obtain ⟨j, rfl⟩ : ∃ m, j = m + 1 := ⟨j - 1, by omega⟩
      simp only [List.take_succ_cons, List.cons_append, List.isPrefixOf, Bool.and_eq_true, beq_iff_eq] at h ⊢
      exact ⟨h.1, ih (by omega) h.2⟩
theorem sgF_cutS {sb : UInt8} {l : LBy} {j : Nat} (z : LBy) : ∀ (ss : List LBy), (∀ s ∈ ss, sb ∉ s) → sgF ss l ≤ j → sgF ss l ≠ 0 → sgF ss (l.take j ++ sb :: z) = sgF ss l := by
  intro ss
  induction ss with
  | nil => intro _ _ h; exact absurd rfl h
  | cons s ss ih =>
    intro hs hj h0
    have h1 := hs s (by simp)
    unfold sgF at hj h0 ⊢
    rw [List.find?_cons] at hj h0 ⊢
    rw [List.find?_cons]
    cases hp : s.isPrefixOf l with
    | true =>
      simp only [hp] at hj h0 ⊢
      have hj' : s.length ≤ j := hj
      rw [prefix_keepS hj' hp]
    | false =>
      simp only [hp] at hj h0 ⊢
      have : s.isPrefixOf (l.take j ++ sb :: z) = false := by
        cases h : s.isPrefixOf (l.take j ++ sb :: z) with
        | false => rfl
        | true => rw [prefix_cutS h1 h] at hp; cases hp
      rw [this]
      exact ih (fun x hx => hs x (by simp [hx])) hj h0
/-- A token does not hang on what follows the place where it was cut. -/
theorem one_cutS {sb : UInt8} (hN : isNmC sb = false) (hD : isDg sb = false) (hS : ∀ s ∈ signL, sb ∉ s) {l : LBy} {k : Int} {n v j : Nat} (h : one l = .tk k n v) (hj : n ≤ j) (z : LBy) : one (l.take j ++ sb :: z) = .tk k n v := by
  have hn := one_tk h
  cases l with
  | nil => cases h
  | cons c r =>
    obtain ⟨j, rfl⟩ : ∃ m, j = m + 1 := ⟨j - 1, by omega⟩
    have e0 : (c :: r).take (j + 1) ++ sb :: z = c :: (r.take j ++ sb :: z) := by rw [List.take_succ_cons]; rfl
    rw [e0]
    unfold one at h ⊢
    simp only at h ⊢
    have W : wdN (c :: r) ≤ j + 1 → wdN (c :: (r.take j ++ sb :: z)) = wdN (c :: r) := fun hh => by
      rw [← e0]; unfold wdN at hh ⊢; rw [takeWhile_takeS hh z hN]
    have D : dgN (c :: r) ≤ j + 1 → (c :: (r.take j ++ sb :: z)).takeWhile isDg = (c :: r).takeWhile isDg := fun hh => by
      rw [← e0]; exact takeWhile_takeS hh z hD
    have TK : ∀ m, m ≤ j + 1 → m ≤ r.length + 1 → (c :: (r.take j ++ sb :: z)).take m = (c :: r).take m := fun m hm hm' => by
      rw [← e0, List.take_append_of_le_length (by simp only [List.length_take, List.length_cons]; omega), List.take_take, Nat.min_eq_left hm]
    by_cases h1 : isLow c = true
    · rw [if_pos h1] at h ⊢
      by_cases h2 : 30 < wdN (c :: r)
      · rw [if_pos h2] at h; cases h
      · rw [if_neg h2] at h
        injection h with q1 q2 q3
        rw [W (by omega), if_neg h2, q1, q2, q3]
    · rw [if_neg h1] at h ⊢
      by_cases h2 : isDg c = true
      · rw [if_pos h2] at h ⊢
        by_cases h3 : wdN (c :: r) ≠ dgN (c :: r) ∨ (1 < dgN (c :: r) ∧ c = 48)
        · rw [if_pos h3] at h; cases h
        · rw [if_neg h3] at h
          by_cases h4 : 1099511627776 < rdN ((c :: r).take (dgN (c :: r)))
          · rw [if_pos h4] at h; cases h
          · rw [if_neg h4] at h
            injection h with q1 q2 q3
            have hwd : wdN (c :: r) = dgN (c :: r) := by
              by_cases hh : wdN (c :: r) = dgN (c :: r)
              · exact hh
              · exact absurd (.inl hh) h3
            have d1 : dgN (c :: (r.take j ++ sb :: z)) = dgN (c :: r) := by unfold dgN at q2 ⊢; rw [D (by unfold dgN; omega)]
            have := dgN_le (c :: r)
            simp only [List.length_cons] at this
            rw [W (by omega), d1, if_neg h3, TK _ (by omega) (by omega), if_neg h4, q3, q2, q1]
      · rw [if_neg h2] at h ⊢
        by_cases h3 : sgN (c :: r) = 0
        · rw [if_pos h3] at h; cases h
        · rw [if_neg h3] at h
          injection h with q1 q2 q3
          have : sgN (c :: (r.take j ++ sb :: z)) = sgN (c :: r) := by
            rw [← e0]
            exact sgF_cutS z signL hS (by unfold sgN at q2; omega) h3
          rw [this, if_neg h3, q1, q2, q3]

/-- The separators that the statement puts behind the tokens. -/
def kdL : List LBy := [[32], [10], [9, 32], [35, 32, 97, 32, 43, 32, 49, 10], [10, 10]]
def kd (i : Nat) : LBy := kdL[i]?.getD [32]
theorem kd_cases (i : Nat) : kd i = [32] ∨ kd i = [10] ∨ kd i = [9, 32] ∨ kd i = [35, 32, 97, 32, 43, 32, 49, 10] ∨ kd i = [10, 10] := by
  match i with
  | 0 => exact .inl rfl
  | 1 => exact .inr (.inl rfl)
  | 2 => exact .inr (.inr (.inl rfl))
  | 3 => exact .inr (.inr (.inr (.inl rfl)))
  | 4 => exact .inr (.inr (.inr (.inr rfl)))
  | n + 5 => exact .inl rfl
theorem lxx_kd (i : Nat) (r : LBy) (a : Nat) (acc : List Tk) : ∃ b, lxx (kd i ++ r) a acc = lxx r b acc := by
  rcases kd_cases i with h | h | h | h | h <;> rw [h]
  · exact ⟨_, lxx_sp (by decide) a acc⟩
  · exact ⟨_, lxx_sp (by decide) a acc⟩
  · refine ⟨a + 1 + 1, ?_⟩
    show lxx (9 :: 32 :: r) a acc = _
    rw [lxx_sp (by decide), lxx_sp (by decide)]
  · refine ⟨a + 7 + 1, ?_⟩
    show lxx (35 :: 32 :: 97 :: 32 :: 43 :: 32 :: 49 :: 10 :: r) a acc = _
    rw [lxx_cm rfl]
    have e1 : (35 :: 32 :: 97 :: 32 :: 43 :: 32 :: 49 :: 10 :: r : LBy).takeWhile isCm = [35, 32, 97, 32, 43, 32, 49] := by simp [List.takeWhile_cons, isCm]
    have e2 : (35 :: 32 :: 97 :: 32 :: 43 :: 32 :: 49 :: 10 :: r : LBy).dropWhile isCm = 10 :: r := by simp [List.dropWhile_cons, isCm]
    rw [e1, e2, lxx_sp (by decide)]
    rfl
  · refine ⟨a + 1 + 1, ?_⟩
    show lxx (10 :: 10 :: r) a acc = _
    rw [lxx_sp (by decide), lxx_sp (by decide)]
theorem kd_head (i : Nat) (r : LBy) : ∃ c z, kd i ++ r = c :: z ∧ isNmC c = false ∧ isDg c = false ∧ ∀ s ∈ signL, c ∉ s := by
  rcases kd_cases i with h | h | h | h | h <;> rw [h] <;> exact ⟨_, _, rfl, by decide, by decide, by decide⟩
/-- The text of a token, wherever it was read. -/
def FromOne (t : Tk) : Prop := ∃ l k n v, one l = .tk k n v ∧ t.k = k ∧ t.t = bB (l.take n) ∧ t.v = (v : Int)
theorem fromOne_lx {t : Tk} (h : FromOne t) (i : Nat) (r : LBy) (a : Nat) (acc : List Tk) : ∃ b u, st0 u = st0 t ∧ lxx (t.t.data.toList ++ (kd i ++ r)) a acc = lxx r b (acc ++ [u]) := by
  obtain ⟨l, k, n, v, h1, h2, h3, h4⟩ := h
  obtain ⟨c, z, e, q1, q2, q3⟩ := kd_head i r
  have hn := one_tk h1
  have hl : t.t.data.toList = l.take n := by rw [h3, bB_list]
  have hlen : (l.take n).length = n := by rw [List.length_take]; omega
  have ho := one_cutS q1 q2 q3 h1 (Nat.le_refl n) z
  have hx : ∃ c q, l.take n = c :: q ∧ isSp c = false ∧ c ≠ 35 := by
    cases l with
    | nil => cases h1
    | cons c r =>
      obtain ⟨n, rfl⟩ : ∃ m, n = m + 1 := ⟨n - 1, by omega⟩
      refine ⟨c, r.take n, by rw [List.take_succ_cons], ?_, ?_⟩
      · cases hs : isSp c with
        | false => rfl
        | true =>
          exfalso
          simp only [isSp, Bool.or_eq_true, beq_iff_eq] at hs
          rcases hs with (rfl | rfl) | rfl <;> simp [one, isLow, isDg, sgN, sgF, signL, List.find?, List.isPrefixOf] at h1
      · rintro rfl
        simp [one, isLow, isDg, sgN, sgF, signL, List.find?, List.isPrefixOf] at h1
  obtain ⟨d, q, ex, hs, h35⟩ := hx
  obtain ⟨b, hb⟩ := lxx_kd i r (a + n) (acc ++ [⟨k, bB (l.take n), v, a⟩])
  refine ⟨b, ⟨k, bB (l.take n), v, a⟩, ?_, ?_⟩
  · obtain ⟨tk, tt, tv, ta⟩ := t
    simp only at h2 h3 h4
    subst h2 h3 h4
    rfl
  · rw [hl, e]
    rw [← e] at ho ⊢
    rw [← hb]
    have e2 : l.take n ++ (kd i ++ r) = d :: (q ++ (kd i ++ r)) := by rw [ex]; rfl
    rw [e2] at ho ⊢
    rw [lxx_tk hs h35 ho, ← e2, List.drop_left' hlen, List.take_left' hlen]
/-- The tokens' texts, each with a separator behind it. -/
def joinK (f : Nat → Nat) : Nat → List Tk → LBy
  | _, [] => []
  | i, t :: ts => t.t.data.toList ++ (kd (f i) ++ joinK f (i + 1) ts)
theorem joinK_snoc (f : Nat → Nat) : ∀ (ts : List Tk) (i : Nat) (t : Tk), joinK f i (ts ++ [t]) = joinK f i ts ++ (t.t.data.toList ++ kd (f (i + ts.length))) := by
  intro ts
  induction ts with
  | nil => intro i t; simp [joinK]
  | cons x r ih =>
    intro i t
    rw [List.cons_append]
    simp only [joinK]
    rw [ih (i + 1) t, show i + 1 + r.length = i + (x :: r).length by simp only [List.length_cons]; omega]
    simp
theorem joinK_lx (f : Nat → Nat) (z : LBy) : ∀ (ts : List Tk) (i a : Nat) (acc : List Tk), (∀ t ∈ ts, FromOne t) → ∃ b us, us.map st0 = ts.map st0 ∧ lxx (joinK f i ts ++ z) a acc = lxx z b (acc ++ us) := by
  intro ts
  induction ts with
  | nil => intro i a acc _; exact ⟨a, [], rfl, by simp [joinK]⟩
  | cons t r ih =>
    intro i a acc h
    obtain ⟨b, u, h1, h2⟩ := fromOne_lx (h t (by simp)) (f i) (joinK f (i + 1) r ++ z) a acc
    obtain ⟨c, us, h3, h4⟩ := ih (i + 1) b (acc ++ [u]) (fun x hx => h x (by simp [hx]))
    refine ⟨c, u :: us, by rw [List.map_cons, List.map_cons, h1, h3], ?_⟩
    have e : joinK f i (t :: r) ++ z = t.t.data.toList ++ (kd (f i) ++ (joinK f (i + 1) r ++ z)) := by simp [joinK]
    rw [e, h2, h4]
    simp
/-- What the tokens are with other separators. -/
theorem spaces_same {s : ByteArray} {ts : List Tk} {i : Nat} (h : lexT s = (ts, i, 0)) (f : Nat → Nat) (hl : (joinK f 0 ts).length ≤ 4000) : ∃ us, lexT (bB (joinK f 0 ts)) = (us, 0, 0) ∧ us.map st0 = ts.map st0 := by
  obtain ⟨hlo, rfl⟩ := lexT_ok h
  obtain ⟨m', hm, hmk⟩ := OffR_last hlo.off
  have hs := lexT_le h
  have hall : ∀ t ∈ ts, t.k = 0 ∨ FromOne t := by
    rw [lexT_L hs] at h
    exact lx_all (fun t => t.k = 0 ∨ FromOne t) (fun a => .inl rfl) (fun l k n v a h => .inr ⟨l, k, n, v, h, rfl, rfl, rfl⟩) _ _ _ [] _ _ (fun t h => by cases h) h
  have hfr : ∀ t ∈ m', FromOne t := fun t ht => by
    rcases hall t (by rw [hm]; simp [ht]) with h0 | h0
    · exact absurd h0 (hmk t ht).1
    · exact h0
  have hv0 : (ts.getLast?.getD zTk).v = 0 := by
    have hv : ∀ t ∈ ts, t.k = 0 → t.v = 0 := by
      rw [lexT_L hs] at h
      refine lx_all (fun t => t.k = 0 → t.v = 0) (fun a _ => rfl) (fun l k n v a h h0 => ?_) _ _ _ [] _ _ (fun t h => by cases h) h
      rcases one_k h with h1 | h1 | h1 <;> (simp only at h0; omega)
    obtain ⟨x, hx⟩ : ∃ x, (⟨0, .empty, (ts.getLast?.getD zTk).v, s.data.toList.length⟩ : Tk) = x := ⟨_, rfl⟩
    rw [hx] at hm
    have hxm : x ∈ ts := by rw [hm]; simp
    have h1 := hv x hxm (by rw [← hx])
    rw [← hx] at h1
    exact h1
  rw [hv0] at hm
  subst hm
  rw [joinK_snoc] at hl ⊢
  obtain ⟨b, us, h1, h2⟩ := joinK_lx f (kd (f (0 + m'.length))) m' 0 0 [] hfr
  obtain ⟨c, hc⟩ := lxx_kd (f (0 + m'.length)) [] b us
  rw [List.append_nil, lxx_nil] at hc
  refine ⟨us ++ [⟨0, .empty, 0, c⟩], ?_, ?_⟩
  · rw [lexT_L (by rw [bB_size]; exact hl), bB_list]
    show lxx _ 0 [] = _
    have e0 : ((⟨0, ByteArray.empty, 0, s.data.toList.length⟩ : Tk).t.data.toList : LBy) = [] := rfl
    rw [e0, List.nil_append, h2, List.nil_append, hc]
  · rw [List.map_append, List.map_append, h1]
    rfl
end Go.Proofs.YtdgphhdkeikbaaaDoor
