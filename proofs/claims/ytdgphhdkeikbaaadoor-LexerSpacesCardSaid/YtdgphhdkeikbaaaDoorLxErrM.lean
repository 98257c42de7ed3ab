/-
  Errors of syntax and parentheses: the mathematics.
-/
import Derived.Test.YtdgphhdkeikbaaaDoorLxParse2
import Derived.Test.YtdgphhdkeikbaaaDoorLxCut
import Derived.Test.YtdgphhdkeikbaaaDoorLxLoc
namespace Go.Proofs.YtdgphhdkeikbaaaDoor
set_option linter.unusedSimpArgs false
set_option linter.unusedVariables false
open Go.RowKit

theorem ShE.pr {e : Ex} (h : ShE e) : prE e = 0 := by
  induction h with
  | num v h h2 => rw [prE_zero, prP_zero]; exact ⟨.inl ⟨rfl, rfl, rfl, h, h2, rfl⟩, fun a ha => by cases ha⟩
  | nam s h h2 => rw [prE_zero, prP_zero]; exact ⟨.inr (.inl ⟨rfl, rfl, h, rfl, rfl⟩), fun a ha => by cases ha⟩
  | un o a h ha ih =>
    unfold umX
    rw [prE_zero, prP_zero]
    exact ⟨.inr (.inr (.inl ⟨rfl, h, rfl, rfl, rfl⟩)), fun b hb => by
      obtain rfl : b = a := by simpa using hb
      exact ih⟩
  | bin o a b h h2 ha hb i1 i2 =>
    unfold bnX
    rw [prE_zero, prP_zero]
    exact ⟨.inr (.inr (.inr ⟨rfl, h, h2, rfl, rfl, rfl⟩)), fun c hc => by
      rcases List.mem_cons.1 hc with rfl | hc
      · exact i1
      · obtain rfl : c = b := by simpa using hc
        exact i2⟩
theorem ShE.ck {e : Ex} (h : ShE e) : ckE e = 0 ∨ ckE e = 4 ∨ ckE e = 22 := by
  unfold ckE
  rw [h.pr]
  split
  · exact .inr (.inl rfl)
  · split
    · exact .inr (.inr rfl)
    · exact .inl rfl
theorem gk_in {ts : List Tk} {n : Nat} (h : n < ts.length) : gk ts n = ts[n] := by unfold gk; rw [List.getElem?_eq_getElem h]; rfl
theorem gk_mem {ts : List Tk} {n : Nat} (h : n < ts.length) : gk ts n ∈ ts := by rw [gk_in h]; exact List.getElem_mem h
theorem gk_left {x y : List Tk} {n : Nat} (h : n < x.length) : gk (x ++ y) n = gk x n := by unfold gk; rw [List.getElem?_append_left h]
theorem OffR_asc {L : LBy} : ∀ {m : List Tk} {e : Nat}, OffR L e m → ∀ j n, j < n → n < m.length → (gk m j).a < (gk m n).a := by
  intro m
  induction m with
  | nil => intro e h; exact absurd h id
  | cons x r ih =>
    intro e h j n hj hn
    obtain ⟨h1, h2, h3, h4, h5, h6⟩ := h
    cases r with
    | nil => simp at hn; omega
    | cons y r =>
      obtain ⟨n, rfl⟩ : ∃ k, n = k + 1 := ⟨n - 1, by omega⟩
      have hn' : n < (y :: r).length := by simpa using hn
      cases j with
      | zero =>
        have hm : gk (x :: y :: r) (n + 1) = gk (y :: r) n := rfl
        have h0 : gk (x :: y :: r) 0 = x := rfl
        rw [hm, h0]
        have := OffR_ge h6.2.2 _ (gk_mem hn')
        have := size_ne h6.2.1
        omega
      | succ j => exact ih h6.2.2 j n (by omega) hn'
/-- The tokens of a text cut before a token, with others behind. -/
theorem lex_cut {L z : LBy} {m1 m2 us : List Tk} {t : Tk} (h : lexL L = (m1 ++ t :: m2, 0, 0)) (hz : lexL z = (us, 0, 0)) :
    lexL (L.take t.a ++ 10 :: z) = (m1 ++ us.map (shT (t.a + 1)), 0, 0) := by
  have h' := lxx_cut L z t.a (L.length + 1) 0 [] m1 m2 t (by omega) (Nat.zero_le _) h rfl
  rw [List.drop_zero, List.nil_append] at h'
  show lxx (L.take t.a ++ 10 :: z) 0 [] = _
  rw [h', lxx_sp (by decide), lxx_at, hz]
  rfl
theorem lexT_L {s : ByteArray} (h : s.size ≤ 4000) : lexT s = lexL s.data.toList := by unfold lexT; rw [if_neg (by omega)]
theorem lexT_le {s : ByteArray} {ts : List Tk} {i : Nat} (h : lexT s = (ts, i, 0)) : s.size ≤ 4000 := by
  unfold lexT at h
  split at h
  · injection h with _ h; injection h with _ h; exact absurd h (by decide)
  · omega
theorem pE_swap {x y y' : List Tk} {r : Rs} (h : pE (x ++ y) = r) (hb : match r with
    | .ok _ n => n < x.length ∨ (n = x.length ∧ opN (hdT y') = 0)
    | .bad n => n < x.length
    | .out => False) : pE (x ++ y') = r := by
  have hs := ps_swap y y' (8 * (x ++ y).length + 8) (.exp 1) x trivial
  change ps (8 * (x ++ y).length + 8) (.exp 1) (x ++ y) = r at h
  cases r with
  | out => exact absurd hb id
  | bad n =>
    have := hs.2 n h hb
    rw [← pE_of (by rw [this]; simp), this]
  | ok e n =>
    have := hs.1 e n h (by rcases hb with h | h <;> omega) (fun hn => by
      rcases hb with h | h
      · omega
      · exact h.2)
    rw [← pE_of (by rw [this]; simp), this]
/-- An error of syntax stands at a token; behind it other tokens change nothing. -/
theorem err_cut {s tl : ByteArray} {ts us : List Tk} (hs : s.size ≤ 300) (ht : tl.size ≤ 300) (h1 : lexT s = (ts, 0, 0)) (h2 : lexT tl = (us, 0, 0)) {p : Nat} (h3 : (psF s).2 = (p, 3)) :
    ∃ n, n < ts.length ∧ (gk ts n).a = p ∧ (∀ j, j < n → (gk ts j).a ≠ p) ∧ (n + 1 < ts.length → psF (s.extract 0 (gk ts (n + 1)).a ++ ⟨#[10]⟩ ++ tl) = (zeroX, p, 3)) := by
  obtain ⟨hlo, _⟩ := lexT_ok h1
  have hsh := pE_sh ts
  have hok := pE_ok ts
  have key : ∃ n r, pE ts = r ∧ n < ts.length ∧ (gk ts n).a = p ∧ (r = .bad n ∨ ∃ e, r = .ok e n ∧ (gk ts n).k ≠ 0) := by
    rw [psF_ok h1] at h3
    cases hp : pE ts with
    | out => exact absurd hp (pE_ne ts)
    | bad n =>
      rw [hp] at h3 hok hsh
      refine ⟨n, _, rfl, hlo.lt hok hsh, ?_, .inl rfl⟩
      have := congrArg Prod.fst h3
      exact this
    | ok e n =>
      rw [hp] at h3 hok hsh
      simp only [psH] at h3
      by_cases hk : (gk ts n).k ≠ 0
      · rw [if_pos hk] at h3
        exact ⟨n, _, rfl, hlo.lt hok.1 hsh.1, congrArg Prod.fst h3, .inr ⟨e, rfl, hk⟩⟩
      · rw [if_neg hk] at h3
        exfalso
        split at h3
        · have h4 : (0 : Int) = 3 := congrArg Prod.snd h3
          omega
        · have h4 : ckE e = 3 := congrArg Prod.snd h3
          rcases hsh.2.ck with h | h | h <;> omega
  obtain ⟨n, r, hr, hn, ha, hb⟩ := key
  refine ⟨n, hn, ha, fun j hj => ?_, fun hn1 => ?_⟩
  · have := OffR_asc hlo.off j n hj hn
    omega
  · have hta := hlo.at_ _ (gk_mem hn1)
    have hsp : ts = ts.take (n + 1) ++ gk ts (n + 1) :: ts.drop (n + 2) := by
      rw [← drop_consK ts (n + 1) hn1, List.take_append_drop]
    have hL : lexL s.data.toList = (ts.take (n + 1) ++ gk ts (n + 1) :: ts.drop (n + 2), 0, 0) := by rw [← hsp, ← lexT_L (by omega)]; exact h1
    have hz : lexL tl.data.toList = (us, 0, 0) := by rw [← lexT_L (by omega)]; exact h2
    have hc := lex_cut hL hz
    have hlist : (s.extract 0 (gk ts (n + 1)).a ++ ⟨#[10]⟩ ++ tl).data.toList = s.data.toList.take (gk ts (n + 1)).a ++ 10 :: tl.data.toList := by
      simp [ext_take]
    have hsz : (s.extract 0 (gk ts (n + 1)).a ++ ⟨#[10]⟩ ++ tl).size ≤ 4000 := by
      rw [← list_len, hlist]
      have e1 := list_len s
      have e2 := list_len tl
      simp only [List.length_append, List.length_take, List.length_cons]
      omega
    have hlt : lexT (s.extract 0 (gk ts (n + 1)).a ++ ⟨#[10]⟩ ++ tl) = (ts.take (n + 1) ++ us.map (shT ((gk ts (n + 1)).a + 1)), 0, 0) := by
      rw [lexT_L hsz, hlist, hc]
    have hx : (ts.take (n + 1)).length = n + 1 := by rw [List.length_take]; omega
    have hgk : gk (ts.take (n + 1) ++ us.map (shT ((gk ts (n + 1)).a + 1))) n = gk ts n := by
      rw [gk_left (by omega)]
      unfold gk
      rw [List.getElem?_take, if_pos (Nat.lt_succ_self n)]
    have hr2 : pE (ts.take (n + 1) ++ us.map (shT ((gk ts (n + 1)).a + 1))) = r := by
      refine pE_swap (y := ts.drop (n + 1)) (by rw [List.take_append_drop]; exact hr) ?_
      rcases hb with rfl | ⟨e, rfl, hk⟩
      · show n < _; omega
      · exact .inl (by omega)
    rw [psF_ok hlt, hr2]
    rcases hb with rfl | ⟨e, rfl, hk⟩
    · simp only [psH, hgk, ha]
    · simp only [psH, hgk, ha, if_pos hk]

/-! ### Parentheses -/
theorem exp_down {f p n : Nat} {l : List Tk} {e : Ex} (h : ps (f + 1) (.exp (p + 1)) l = .ok e n) (ho : opN (hdT (l.drop n)) = 0) (hp : p ≤ 5) : ps (f + 2) (.exp p) l = .ok e n := by
  rw [ps, if_neg (by omega), h]
  simp only [Rs.thenLop]
  have : ps (f + 1) (.lop p e) (l.drop n) = .ok e 0 := by
    rw [ps, if_pos]
    rw [ho]
    have : pcP 0 = 6 := by decide
    omega
  rw [this]
  simp [Rs.up]
theorem one_open (r : LBy) : one (40 :: r) = .tk 3 1 0 := by
  simp [one, isLow, isDg, sgN, sgF, signL, List.find?, List.isPrefixOf]
theorem map_st_shT (d : Nat) (l : List Tk) : (l.map (shT d)).map st0 = l.map st0 := by
  rw [List.map_map]
  rfl
theorem pE_paren {x : List Tk} {t P Q E : Tk} {e : Ex} (h : pE (x ++ [t]) = .ok e x.length) (hP : P.k = 3 ∧ P.t = ⟨#[40]⟩) (hQ : Q.k = 3 ∧ Q.t = ⟨#[41]⟩) (hE : E.k = 0) (d : Nat) :
    pE (P :: (x.map (shT d) ++ [Q, E])) = .ok e (x.length + 2) := by
  have hoQ : opN Q = 0 := by unfold opN; rw [if_pos hQ.1, hQ.2]; decide
  have hoE : opN E = 0 := by unfold opN; rw [if_neg (by rw [hE]; decide)]
  have h1 : pE (x ++ [Q, E]) = .ok e x.length := pE_swap h (.inr ⟨rfl, hoQ⟩)
  have h2 : ps (8 * (x ++ [Q, E]).length + 8) (.exp 1) (x.map (shT d) ++ [Q, E]) = .ok e x.length := by
    rw [← h1]
    refine ps_same ?_ _ _
    rw [List.map_append, List.map_append, map_st_shT]
  have hL : leafT P = none := by unfold leafT; rw [if_neg (by rw [hP.1]; decide), if_neg (by rw [hP.1]; decide)]
  have i1 : isS P ⟨#[45]⟩ = false := by unfold isS; rw [hP.1, hP.2]; decide
  have i2 : isS P ⟨#[33]⟩ = false := by unfold isS; rw [hP.1, hP.2]; decide
  have i3 : isS P ⟨#[40]⟩ = true := by unfold isS; rw [hP.1, hP.2]; decide
  have i4 : isS Q ⟨#[41]⟩ = true := by unfold isS; rw [hQ.1, hQ.2]; decide
  generalize 8 * (x ++ [Q, E]).length + 8 = f at h2
  have hd : (P :: (x.map (shT d) ++ [Q, E])).drop (x.length + 1) = [Q, E] := by
    rw [List.drop_succ_cons, List.drop_left' (by simp)]
  have hd2 : (P :: (x.map (shT d) ++ [Q, E])).drop (x.length + 2) = [E] := by
    rw [← List.drop_drop (i := 1) (j := x.length + 1), hd]; rfl
  have h3 : ps (f + 1) .opd (P :: (x.map (shT d) ++ [Q, E])) = .ok e (x.length + 2) := by
    rw [ps, hdT_cons, hL]
    simp only [i1, i2, i3, Bool.false_eq_true, if_false, if_true]
    rw [List.drop_succ_cons, List.drop_zero, h2]
    simp only [Rs.up, Rs.thenLop, hd, hdT_cons, i4, if_true]
  have ho : opN (hdT ((P :: (x.map (shT d) ++ [Q, E])).drop (x.length + 2))) = 0 := by rw [hd2]; exact hoE
  have h4 : ps (f + 2) (.exp 6) (P :: (x.map (shT d) ++ [Q, E])) = .ok e (x.length + 2) := by
    rw [ps, if_pos (by omega), h3]
  have h5 := exp_down (f := f + 1) (p := 5) h4 ho (by omega)
  have h6 := exp_down (f := f + 2) (p := 4) h5 ho (by omega)
  have h7 := exp_down (f := f + 3) (p := 3) h6 ho (by omega)
  have h8 := exp_down (f := f + 4) (p := 2) h7 ho (by omega)
  have h9 := exp_down (f := f + 5) (p := 1) h8 ho (by omega)
  rw [← pE_of (by rw [h9]; simp), h9]
theorem par_wrap {s : ByteArray} {e : Ex} {i : Nat} (hs : s.size ≤ 400) (h : psF s = (e, i, 0)) : ckE e = 0 ∧ ShE e ∧ psF (⟨#[40]⟩ ++ s ++ ⟨#[10, 41]⟩) = (e, 0, 0) := by
  have hle : ∃ ts, lexT s = (ts, 0, 0) := by
    obtain ⟨ts, j, q, hl⟩ : ∃ ts i q, lexT s = (ts, i, q) := ⟨_, _, _, rfl⟩
    by_cases hq : q = 0
    · subst hq
      obtain ⟨_, rfl⟩ := lexT_ok hl
      exact ⟨ts, hl⟩
    · rw [psF_er hl hq] at h
      exact absurd (congrArg (fun x => x.2.2) h) hq
  obtain ⟨ts, h1⟩ := hle
  obtain ⟨hlo, _⟩ := lexT_ok h1
  obtain ⟨m', hm, hmk⟩ := OffR_last hlo.off
  obtain ⟨t0, ht0⟩ : ∃ t : Tk, (⟨0, .empty, (ts.getLast?.getD zTk).v, s.data.toList.length⟩ : Tk) = t := ⟨_, rfl⟩
  have hk0 : t0.k = 0 ∧ t0.a = s.data.toList.length := by rw [← ht0]; exact ⟨rfl, rfl⟩
  rw [ht0] at hm
  have hsh := pE_sh ts
  have hok := pE_ok ts
  rw [psF_ok h1] at h
  cases hp : pE ts with
  | out => exact absurd hp (pE_ne ts)
  | bad n =>
    rw [hp] at h
    have h4 : (3 : Int) = 0 := congrArg (fun x => x.2.2) h
    omega
  | ok x n =>
    rw [hp] at h hsh hok
    simp only [psH] at h
    by_cases hk : (gk ts n).k ≠ 0
    · rw [if_pos hk] at h
      have h4 : (3 : Int) = 0 := congrArg (fun x => x.2.2) h
      omega
    · rw [if_neg hk] at h
      have hk : (gk ts n).k = 0 := by simpa using hk
      by_cases hc : ckE x = 0
      · rw [if_pos hc] at h
        obtain rfl : x = e := congrArg Prod.fst h
        refine ⟨hc, hsh.2, ?_⟩
        have hn : n = m'.length := by
          have hlt := hlo.lt hok.1 hsh.1
          have : n < m'.length + 1 := by rw [hm] at hlt; simpa using hlt
          rcases Nat.lt_or_ge n m'.length with h' | h'
          · exfalso
            rw [hm, gk_left h'] at hk
            exact (hmk _ (gk_mem h')).1 hk
          · omega
        subst hn
        rw [hm] at hp
        have hL : lexL s.data.toList = (m' ++ t0 :: [], 0, 0) := by rw [← lexT_L (lexT_le h1), h1, hm]
        have hz : lexL [41] = ([⟨3, bB [41], 0, 0⟩, ⟨0, .empty, 0, 1⟩], 0, 0) := by decide
        have hcut := lex_cut hL hz
        rw [hk0.2, List.take_length] at hcut
        have hlist : (⟨#[40]⟩ ++ s ++ ⟨#[10, 41]⟩ : ByteArray).data.toList = 40 :: (s.data.toList ++ [10, 41]) := by simp
        have hsz : (⟨#[40]⟩ ++ s ++ ⟨#[10, 41]⟩ : ByteArray).size ≤ 4000 := by
          rw [← list_len, hlist]
          have := list_len s
          simp only [List.length_cons, List.length_append, List.length_nil]
          omega
        have hlt : lexT (⟨#[40]⟩ ++ s ++ ⟨#[10, 41]⟩ : ByteArray) = (⟨3, bB [40], 0, 0⟩ :: ((m' ++ [⟨3, bB [41], 0, 0⟩, ⟨0, .empty, 0, 1⟩].map (shT (s.data.toList.length + 1))).map (shT 1)), 0, 0) := by
          rw [lexT_L hsz, hlist]
          show lxx (40 :: (s.data.toList ++ [10, 41])) 0 [] = _
          rw [lxx_tk (by decide) (by decide) (one_open _), List.drop_succ_cons, List.drop_zero, Nat.zero_add, lxx_at, hcut]
          rfl
        rw [List.map_append] at hlt
        have hpe := pE_paren (x := m') (t := t0) (P := ⟨3, bB [40], 0, 0⟩) (Q := ⟨3, bB [41], 0, s.data.toList.length + 1 + 1⟩) (E := ⟨0, .empty, 0, 1 + (s.data.toList.length + 1) + 1⟩) hp ⟨rfl, rfl⟩ ⟨rfl, rfl⟩ rfl 1
        have hlist2 : ([⟨3, bB [41], 0, 0⟩, ⟨0, .empty, 0, 1⟩].map (shT (s.data.toList.length + 1))).map (shT 1) = [(⟨3, bB [41], 0, s.data.toList.length + 1 + 1⟩ : Tk), ⟨0, .empty, 0, 1 + (s.data.toList.length + 1) + 1⟩] := by
          simp [shT]
        rw [hlist2] at hlt
        rw [psF_ok hlt, hpe]
        have hg : (gk ((⟨3, bB [40], 0, 0⟩ : Tk) :: (m'.map (shT 1) ++ [(⟨3, bB [41], 0, s.data.toList.length + 1 + 1⟩ : Tk), ⟨0, .empty, 0, 1 + (s.data.toList.length + 1) + 1⟩])) (m'.length + 2)).k = 0 := by
          unfold gk
          rw [List.getElem?_cons_succ, List.getElem?_append_right (by simp)]
          simp
        simp only [psH]
        rw [if_neg (by rw [hg]; simp), if_pos hc]
      · rw [if_neg hc] at h
        exact absurd (congrArg (fun x => x.2.2) h) hc
end Go.Proofs.YtdgphhdkeikbaaaDoor
