/-
  Different valid trees have different texts: a reader of texts that gives the tree back.
-/
import Derived.Test.YtfgaihajopfmfaaGreatDoorExLawTexts
namespace Go.Proofs.YtfgaihajopfmfaaGreatDoor
set_option linter.unusedSimpArgs false
set_option linter.unusedVariables false
open Go.RowKit

abbrev LB := List UInt8
/-- A tree whose leaves are their texts. -/
inductive Tr where
  | leaf (t : LB)
  | un (o : Int) (a : Tr)
  | bi (o : Int) (a b : Tr)
def sg (o : Int) : LB := (sgB o).data.toList
def opOf (x : LB) : Option Int := ([3, 4, 5, 6, 7, 8, 9, 10, 11, 12, 13, 14, 15] : List Int).find? fun o => sg o == x
inductive Md where
  | prim
  | par (p : Int)
  | loop (p : Int) (t : Tr)
/-- The reader. -/
def go : Nat → Md → LB → Option (Tr × LB)
  | 0, _, _ => none
  | n + 1, .prim, s =>
    match s with
    | [] => none
    | c :: r =>
      if c = 40 then (match go n (.par 0) r with
        | some (t, r') => some (t, r'.drop 1)
        | none => none)
      else if c = 45 then (match go n .prim r with
        | some (t, r') => some (.un 1 t, r')
        | none => none)
      else if c = 33 then (match go n .prim r with
        | some (t, r') => some (.un 2 t, r')
        | none => none)
      else some (.leaf ((c :: r).takeWhile isNmC), (c :: r).dropWhile isNmC)
  | n + 1, .par p, s => match go n .prim s with
    | some (t, r) => go n (.loop p t) r
    | none => none
  | n + 1, .loop p t, s =>
    match s with
    | [] => some (t, [])
    | c :: r =>
      if c = 32 then (match opOf (r.takeWhile fun x => decide (x ≠ 32)) with
        | some o => if p ≤ pcE o then (match go n (.par (pcE o + 1)) ((r.dropWhile fun x => decide (x ≠ 32)).drop 1) with
            | some (u, r') => go n (.loop p (.bi o t u)) r'
            | none => none) else some (t, c :: r)
        | none => some (t, c :: r))
      else some (t, c :: r)
def To (m : Md) (s : LB) (res : Tr × LB) : Prop := ∃ N, ∀ n, N ≤ n → go n m s = some res
theorem To.det {m : Md} {s : LB} {x y : Tr × LB} (h : To m s x) (k : To m s y) : x = y := by
  obtain ⟨N, h⟩ := h
  obtain ⟨M, k⟩ := k
  have := (h (max N M) (by omega)).symm.trans (k (max N M) (by omega))
  injection this
/-- What may stand behind an expression whose operator binds as q - 1. -/
def Stop (q : Int) (r : LB) : Prop := r = [] ∨ (∃ r', r = 41 :: r') ∨ ∃ o r', 3 ≤ o ∧ o ≤ 15 ∧ pcE o < q ∧ r = 32 :: (sg o ++ 32 :: r')
theorem Stop.mono {q q' : Int} {r : LB} (h : Stop q r) (hq : q ≤ q') : Stop q' r := by
  rcases h with h | h | ⟨o, r', h1, h2, h3, h4⟩
  · exact .inl h
  · exact .inr (.inl h)
  · exact .inr (.inr ⟨o, r', h1, h2, by omega, h4⟩)
theorem op_cases {o : Int} (h1 : 3 ≤ o) (h2 : o ≤ 15) : o = 3 ∨ o = 4 ∨ o = 5 ∨ o = 6 ∨ o = 7 ∨ o = 8 ∨ o = 9 ∨ o = 10 ∨ o = 11 ∨ o = 12 ∨ o = 13 ∨ o = 14 ∨ o = 15 := by omega
theorem opOf_sg {o : Int} (h1 : 3 ≤ o) (h2 : o ≤ 15) : opOf (sg o) = some o := by
  rcases op_cases h1 h2 with rfl | rfl | rfl | rfl | rfl | rfl | rfl | rfl | rfl | rfl | rfl | rfl | rfl <;> decide
theorem sg_no {o : Int} (h1 : 3 ≤ o) (h2 : o ≤ 15) : ∀ c ∈ sg o, decide (c ≠ 32) = true := by
  rcases op_cases h1 h2 with rfl | rfl | rfl | rfl | rfl | rfl | rfl | rfl | rfl | rfl | rfl | rfl | rfl <;> decide
theorem pc_op {o : Int} (h1 : 3 ≤ o) (h2 : o ≤ 15) : 1 ≤ pcE o ∧ pcE o ≤ 5 := by
  rcases op_cases h1 h2 with rfl | rfl | rfl | rfl | rfl | rfl | rfl | rfl | rfl | rfl | rfl | rfl | rfl <;> decide
theorem tok_take {o : Int} (h1 : 3 ≤ o) (h2 : o ≤ 15) (r : LB) : (sg o ++ 32 :: r).takeWhile (fun x => decide (x ≠ 32)) = sg o := by
  rw [List.takeWhile_append_of_pos (sg_no h1 h2), List.takeWhile_cons, if_neg (by decide), List.append_nil]
theorem tok_drop {o : Int} (h1 : 3 ≤ o) (h2 : o ≤ 15) (r : LB) : ((sg o ++ 32 :: r).dropWhile (fun x => decide (x ≠ 32))).drop 1 = r := by
  rw [List.dropWhile_append_of_pos (sg_no h1 h2), List.dropWhile_cons, if_neg (by decide)]
  rfl
theorem to_par {p : Int} {s s' : LB} {e : Tr} {res : Tr × LB} (h : To .prim s (e, s')) (k : To (.loop p e) s' res) : To (.par p) s res := by
  obtain ⟨N, h⟩ := h
  obtain ⟨M, k⟩ := k
  refine ⟨max N M + 1, fun n hn => ?_⟩
  obtain ⟨n, rfl⟩ : ∃ m, n = m + 1 := ⟨n - 1, by omega⟩
  simp only [go, h n (by omega)]
  exact k n (by omega)
theorem to_stop {p : Int} {t : Tr} {r : LB} (h : Stop p r) : To (.loop p t) r (t, r) := by
  refine ⟨1, fun n hn => ?_⟩
  obtain ⟨n, rfl⟩ : ∃ m, n = m + 1 := ⟨n - 1, by omega⟩
  rcases h with rfl | ⟨r', rfl⟩ | ⟨o, r', h1, h2, h3, rfl⟩
  · simp only [go]
  · simp only [go]
    rw [if_neg (by decide)]
  · simp only [go]
    rw [if_pos trivial, tok_take h1 h2, opOf_sg h1 h2]
    simp only []
    rw [if_neg (by omega)]
theorem to_op {p o : Int} {t u : Tr} {s r : LB} {res : Tr × LB} (h1 : 3 ≤ o) (h2 : o ≤ 15) (hp : p ≤ pcE o) (h : To (.par (pcE o + 1)) s (u, r)) (k : To (.loop p (.bi o t u)) r res) : To (.loop p t) (32 :: (sg o ++ 32 :: s)) res := by
  obtain ⟨N, h⟩ := h
  obtain ⟨M, k⟩ := k
  refine ⟨max N M + 1, fun n hn => ?_⟩
  obtain ⟨n, rfl⟩ : ∃ m, n = m + 1 := ⟨n - 1, by omega⟩
  simp only [go]
  rw [if_pos trivial, tok_take h1 h2, opOf_sg h1 h2, tok_drop h1 h2]
  simp only []
  rw [if_pos hp, h n (by omega)]
  exact k n (by omega)
theorem to_paren {s r : LB} {t : Tr} (h : To (.par 0) s (t, 41 :: r)) : To .prim (40 :: s) (t, r) := by
  obtain ⟨N, h⟩ := h
  refine ⟨N + 1, fun n hn => ?_⟩
  obtain ⟨n, rfl⟩ : ∃ m, n = m + 1 := ⟨n - 1, by omega⟩
  simp only [go]
  rw [if_pos trivial, h n (by omega)]
  rfl
theorem to_un {o : Int} {s r : LB} {t : Tr} (ho : o = 1 ∨ o = 2) (h : To .prim s (t, r)) : To .prim (sg o ++ s) (.un o t, r) := by
  obtain ⟨N, h⟩ := h
  refine ⟨N + 1, fun n hn => ?_⟩
  obtain ⟨n, rfl⟩ : ∃ m, n = m + 1 := ⟨n - 1, by omega⟩
  rcases ho with rfl | rfl
  · rw [show sg 1 ++ s = 45 :: s from rfl]
    simp only [go]
    rw [if_neg (by decide), if_pos trivial, h n (by omega)]
  · rw [show sg 2 ++ s = 33 :: s from rfl]
    simp only [go]
    rw [if_neg (by decide), if_neg (by decide), if_pos trivial, h n (by omega)]
theorem Stop.free {q : Int} {r : LB} (h : Stop q r) : r.takeWhile isNmC = [] ∧ r.dropWhile isNmC = r := by
  rcases h with rfl | ⟨r', rfl⟩ | ⟨o, r', _, _, _, rfl⟩
  · simp
  · rw [List.takeWhile_cons, List.dropWhile_cons]
    rw [if_neg (by decide), if_neg (by decide)]
    simp
  · rw [List.takeWhile_cons, List.dropWhile_cons]
    rw [if_neg (by decide), if_neg (by decide)]
    simp
theorem to_leaf {x r : LB} {q : Int} (h0 : x ≠ []) (hx : ∀ c ∈ x, isNmC c = true) (hr : Stop q r) : To .prim (x ++ r) (.leaf x, r) := by
  refine ⟨1, fun n hn => ?_⟩
  obtain ⟨n, rfl⟩ : ∃ m, n = m + 1 := ⟨n - 1, by omega⟩
  obtain ⟨h1, h2⟩ := hr.free
  cases x with
  | nil => exact absurd rfl h0
  | cons c y =>
    have hc := hx c (by simp)
    have e1 : ((c :: y) ++ r).takeWhile isNmC = c :: y := by rw [List.takeWhile_append_of_pos hx, h1, List.append_nil]
    have e2 : ((c :: y) ++ r).dropWhile isNmC = r := by rw [List.dropWhile_append_of_pos hx, h2]
    rw [List.cons_append] at e1 e2 ⊢
    simp only [go]
    rw [if_neg (fun e => by subst e; revert hc; decide), if_neg (fun e => by subst e; revert hc; decide), if_neg (fun e => by subst e; revert hc; decide), e1, e2]

/-! ### Valid trees -/
inductive VT : Ex → Tr → Prop where
  | num (v : Int) (h0 : 0 ≤ v) : VT (.mk 1 0 .empty v []) (.leaf (dcB v).data.toList)
  | nam (s : ByteArray) (h : nmB s = true) : VT (.mk 2 0 s 0 []) (.leaf s.data.toList)
  | un (o : Int) (a : Ex) (t : Tr) (h : o = 1 ∨ o = 2) (ha : VT a t) : VT (.mk 3 o .empty 0 [a]) (.un o t)
  | bi (o : Int) (a b : Ex) (t u : Tr) (h1 : 3 ≤ o) (h2 : o ≤ 15) (ha : VT a t) (hb : VT b u) : VT (.mk 4 o .empty 0 [a, b]) (.bi o t u)
theorem VT_of (e : Ex) : prE e = 0 → ∃ t, VT e t := by
  induction e using Ex.ind with
  | h k o s v es ih =>
  intro hP
  obtain ⟨h1, h2⟩ := prE_zero.1 hP
  rcases prP_zero.1 h1 with ⟨rfl, rfl, rfl, h3, h4, h5⟩ | ⟨rfl, rfl, h3, rfl, h5⟩ | ⟨rfl, h3, rfl, rfl, h5⟩ | ⟨rfl, h3, h4, rfl, rfl, h5⟩
  · obtain rfl := List.eq_nil_of_length_eq_zero h5
    exact ⟨_, .num v h3⟩
  · obtain rfl := List.eq_nil_of_length_eq_zero h5
    exact ⟨_, .nam s h3⟩
  · match es, h5, ih, h2 with
    | [a], _, ih, h2 =>
      obtain ⟨t, ht⟩ := ih a (by simp) (h2 a (by simp))
      exact ⟨_, .un o a t h3 ht⟩
  · match es, h5, ih, h2 with
    | [a, b], _, ih, h2 =>
      obtain ⟨t, ht⟩ := ih a (by simp) (h2 a (by simp))
      obtain ⟨u, hu⟩ := ih b (by simp) (h2 b (by simp))
      exact ⟨_, .bi o a b t u h3 h4 ht hu⟩
def tL (e : Ex) : LB := (txE e).data.toList
def pL (i : Nat) (o oa : Int) (t : LB) : LB := if pcE oa < pcE o ∨ (pcE oa = pcE o ∧ (i = 1 ∨ pcE o = 3)) then 40 :: (t ++ [41]) else t
theorem pL_eq (i : Nat) (o oa : Int) (t : ByteArray) : (paB i o oa t).data.toList = pL i o oa t.data.toList := by
  unfold paB pL
  split
  · simp
  · rfl
theorem tL_un (o : Int) (a : Ex) : tL (.mk 3 o .empty 0 [a]) = sg o ++ pL 0 o a.o (tL a) := by
  unfold tL
  rw [txE, if_neg (by decide), if_neg (by decide), if_pos rfl]
  simp only [txL, List.headD_cons]
  rw [← pL_eq]
  simp [ga, sg]
theorem tL_bi (o : Int) (a b : Ex) : tL (.mk 4 o .empty 0 [a, b]) = pL 0 o a.o (tL a) ++ (32 :: (sg o ++ 32 :: pL 1 o b.o (tL b))) := by
  unfold tL
  rw [txE, if_neg (by decide), if_neg (by decide), if_neg (by decide)]
  simp only [txL, List.headD_cons, List.tail_cons]
  rw [← pL_eq, ← pL_eq]
  simp [ga, sg]
theorem pc_pos (o : Int) : 1 ≤ pcE o := by
  unfold pcE pcO
  repeat' split
  all_goals omega
theorem pc_zero : pcE 0 = 7 := by decide
theorem pc_un {o : Int} (h : o = 1 ∨ o = 2) : pcE o = 6 := by rcases h with rfl | rfl <;> decide

/-! ### Digits -/
theorem dg_is {d : Nat} (h : d < 10) : isNmC (UInt8.ofNat (48 + d)) = true ∧ isLow (UInt8.ofNat (48 + d)) = false ∧ (UInt8.ofNat (48 + d)).toNat = 48 + d := by
  rcases (show d = 0 ∨ d = 1 ∨ d = 2 ∨ d = 3 ∨ d = 4 ∨ d = 5 ∨ d = 6 ∨ d = 7 ∨ d = 8 ∨ d = 9 by omega) with rfl | rfl | rfl | rfl | rfl | rfl | rfl | rfl | rfl | rfl <;> decide
def rdD (l : LB) : Nat := l.foldl (fun a c => a * 10 + (c.toNat - 48)) 0
theorem dec_all (u : Nat) : (∀ c ∈ Lib.decDigits u, isNmC c = true ∧ isLow c = false) ∧ rdD (Lib.decDigits u) = u ∧ Lib.decDigits u ≠ [] := by
  induction u using Nat.strongRecOn with
  | ind u ih =>
  rw [Lib.decDigits]
  by_cases h : u < 10
  · rw [dif_pos h]
    obtain ⟨d1, d2, d3⟩ := dg_is h
    refine ⟨fun c hc => ?_, ?_, by simp⟩
    · obtain rfl : c = UInt8.ofNat (48 + u) := by simpa using hc
      exact ⟨d1, d2⟩
    · simp only [rdD, List.foldl_cons, List.foldl_nil, d3]
      omega
  · rw [dif_neg h]
    obtain ⟨i1, i2, i3⟩ := ih (u / 10) (by omega)
    obtain ⟨d1, d2, d3⟩ := dg_is (show u % 10 < 10 by omega)
    refine ⟨fun c hc => ?_, ?_, by simp⟩
    · rcases List.mem_append.1 hc with hc | hc
      · exact i1 c hc
      · obtain rfl : c = UInt8.ofNat (48 + u % 10) := by simpa using hc
        exact ⟨d1, d2⟩
    · unfold rdD at i2 ⊢
      rw [List.foldl_append, i2]
      simp only [List.foldl_cons, List.foldl_nil, d3]
      omega
theorem dcB_list {v : Int} (h : 0 ≤ v) : ∃ u : Nat, v = (u : Int) ∧ (dcB v).data.toList = Lib.decDigits u := by
  obtain ⟨u, rfl⟩ := Int.eq_ofNat_of_zero_le h
  refine ⟨u, rfl, ?_⟩
  unfold dcB
  rw [Lib.itoa_nonneg]
theorem nm_list {s : ByteArray} (h : nmB s = true) : ∃ c r, s.data.toList = c :: r ∧ isLow c = true ∧ ∀ x ∈ s.data.toList, isNmC x = true := by
  unfold nmB at h
  cases hl : s.data.toList with
  | nil => rw [hl] at h; cases h
  | cons c r =>
    rw [hl] at h
    simp only [Bool.and_eq_true, decide_eq_true_eq, List.all_eq_true] at h
    refine ⟨c, r, rfl, h.1.2, fun x hx => ?_⟩
    rcases List.mem_cons.1 hx with rfl | hx
    · unfold isNmC; rw [h.1.2]; rfl
    · exact h.2 x hx

/-! ### Reading -/
theorem read_paren {e : Ex} {t : Tr} (ih : ∀ r, Stop (pcE e.o + 1) r → (6 ≤ pcE e.o → To .prim (tL e ++ r) (t, r)) ∧ ∀ p res, p ≤ pcE e.o → To (.loop p t) r res → To (.par p) (tL e ++ r) res) (r : LB) : To .prim (40 :: (tL e ++ [41]) ++ r) (t, r) := by
  have h1 := (ih (41 :: r) (.inr (.inl ⟨r, rfl⟩))).2 0 (t, 41 :: r) (by have := pc_pos e.o; omega) (to_stop (.inr (.inl ⟨r, rfl⟩)))
  have e1 : 40 :: (tL e ++ [41]) ++ r = 40 :: (tL e ++ 41 :: r) := by simp
  rw [e1]
  exact to_paren h1
theorem read_any {e : Ex} {t : Tr} (h : VT e t) : ∀ r, Stop (pcE e.o + 1) r → (6 ≤ pcE e.o → To .prim (tL e ++ r) (t, r)) ∧ ∀ p res, p ≤ pcE e.o → To (.loop p t) r res → To (.par p) (tL e ++ r) res := by
  induction h with
  | num v h0 =>
    intro r hr
    obtain ⟨u, _, hu⟩ := dcB_list h0
    obtain ⟨d1, _, d3⟩ := dec_all u
    have e1 : tL (.mk 1 0 .empty v []) = Lib.decDigits u := by unfold tL; rw [txE, if_pos rfl]; exact hu
    have hp : To .prim (tL (.mk 1 0 .empty v []) ++ r) (.leaf (dcB v).data.toList, r) := by
      rw [e1, hu]
      exact to_leaf d3 (fun c hc => (d1 c hc).1) hr
    exact ⟨fun _ => hp, fun p res _ hl => to_par hp hl⟩
  | nam s hs =>
    intro r hr
    obtain ⟨c, y, e0, _, e2⟩ := nm_list hs
    have e1 : tL (.mk 2 0 s 0 []) = s.data.toList := by unfold tL; rw [txE, if_neg (by decide), if_pos rfl]
    have hp : To .prim (tL (.mk 2 0 s 0 []) ++ r) (.leaf s.data.toList, r) := by
      rw [e1]
      exact to_leaf (by rw [e0]; simp) e2 hr
    exact ⟨fun _ => hp, fun p res _ hl => to_par hp hl⟩
  | un o a t ho ha ih =>
    intro r hr
    have h6 := pc_un ho
    change Stop (pcE o + 1) r at hr
    have ha : To .prim (pL 0 o a.o (tL a) ++ r) (t, r) := by
      unfold pL
      split
      · exact read_paren ih r
      · rename_i hc
        have h7 : 6 ≤ pcE a.o := by omega
        exact (ih r (hr.mono (by omega))).1 h7
    have hp : To .prim (tL (.mk 3 o .empty 0 [a]) ++ r) (.un o t, r) := by
      rw [tL_un, List.append_assoc]
      exact to_un ho ha
    exact ⟨fun _ => hp, fun p res _ hl => to_par hp hl⟩
  | bi o a b t u h1 h2 ha hb iha ihb =>
    intro r hr
    change Stop (pcE o + 1) r at hr
    have hpo := pc_op h1 h2
    refine ⟨fun h => ?_, fun p res hp hl => ?_⟩
    · change 6 ≤ pcE o at h
      omega
    · change p ≤ pcE o at hp
      have e1 : tL (.mk 4 o .empty 0 [a, b]) ++ r = pL 0 o a.o (tL a) ++ (32 :: (sg o ++ 32 :: (pL 1 o b.o (tL b) ++ r))) := by rw [tL_bi]; simp
      rw [e1]
      have hR : To (.par (pcE o + 1)) (pL 1 o b.o (tL b) ++ r) (u, r) := by
        unfold pL
        split
        · exact to_par (read_paren ihb r) (to_stop hr)
        · rename_i hc
          have h7 : pcE o + 1 ≤ pcE b.o := by omega
          exact (ihb r (hr.mono (by omega))).2 (pcE o + 1) (u, r) h7 (to_stop hr)
      have hL := to_op (t := t) h1 h2 hp hR hl
      unfold pL at hL ⊢
      split
      · exact to_par (read_paren iha _) hL
      · rename_i hc
        have h7 : pcE o ≤ pcE a.o := by omega
        exact (iha _ (.inr (.inr ⟨o, _, h1, h2, by omega, rfl⟩))).2 p res (by omega) hL
theorem VT_inj {a : Ex} {t : Tr} (ha : VT a t) : ∀ (b : Ex) (t' : Tr), VT b t' → t = t' → a = b := by
  induction ha with
  | num v h0 =>
    intro b t' hb ht
    obtain ⟨u, hu1, hu⟩ := dcB_list h0
    cases hb with
    | num v' h0' =>
      injection ht with ht
      obtain ⟨u', hu1', hu'⟩ := dcB_list h0'
      have := congrArg rdD ht
      rw [hu, hu', (dec_all u).2.1, (dec_all u').2.1] at this
      rw [hu1, hu1', this]
    | nam s hs =>
      injection ht with ht
      obtain ⟨c, r, e1, e2, _⟩ := nm_list hs
      have := (dec_all u).1 c (by rw [← hu, ht, e1]; simp)
      rw [e2] at this
      cases this.2
    | un o a t h ha => cases ht
    | bi o a b t u h1 h2 ha hb => cases ht
  | nam s hs =>
    intro b t' hb ht
    cases hb with
    | num v' h0' =>
      injection ht with ht
      obtain ⟨u', hu1', hu'⟩ := dcB_list h0'
      obtain ⟨c, r, e1, e2, _⟩ := nm_list hs
      have := (dec_all u').1 c (by rw [← hu', ← ht, e1]; simp)
      rw [e2] at this
      cases this.2
    | nam s' hs' =>
      injection ht with ht
      have : s = s' := by cases s; cases s'; simp at ht; rw [ht]
      rw [this]
    | un o a t h ha => cases ht
    | bi o a b t u h1 h2 ha hb => cases ht
  | un o a t ho ha ih =>
    intro b t' hb ht
    cases hb with
    | num v' h0' => cases ht
    | nam s' hs' => cases ht
    | un o' a' t2 h' ha' =>
      injection ht with e1 e2
      rw [e1, ih a' t2 ha' e2]
    | bi o a b t u h1 h2 ha hb => cases ht
  | bi o a b t u h1 h2 ha hb iha ihb =>
    intro c t' hc ht
    cases hc with
    | num v' h0' => cases ht
    | nam s' hs' => cases ht
    | un o' a' t2 h' ha' => cases ht
    | bi o' a' b' t2 u2 h1' h2' ha' hb' =>
      injection ht with e1 e2 e3
      rw [e1, iha a' t2 ha' e2, ihb b' u2 hb' e3]
theorem txInj : TxInj := by
  intro a b ha hb h
  obtain ⟨t, ht⟩ := VT_of a (ckE_ok.1 ha).2.2
  obtain ⟨u, hu⟩ := VT_of b (ckE_ok.1 hb).2.2
  have h1 := (read_any ht [] (.inl rfl)).2 0 (t, []) (by have := pc_pos a.o; omega) (to_stop (.inl rfl))
  have h2 := (read_any hu [] (.inl rfl)).2 0 (u, []) (by have := pc_pos b.o; omega) (to_stop (.inl rfl))
  rw [List.append_nil] at h1 h2
  have e : tL a = tL b := by unfold tL; rw [h]
  rw [e] at h1
  have := h1.det h2
  injection this with e1 _
  exact VT_inj ht b u hu e1

end Go.Proofs.YtfgaihajopfmfaaGreatDoor
