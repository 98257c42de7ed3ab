/-
  The text of an expression, read again; the program's text of an expression is the one that is read; names that are not reserved.
-/
import Derived.Test.YtdgphhdkeikbaaaGreatDoorLxErrM
import Derived.Test.YtdgphhdkeikbaaaGreatDoorExDevE
import Derived.Test.YtdgphhdkeikbaaaGreatDoorExNames
namespace Go.Proofs.YtdgphhdkeikbaaaGreatDoor
set_option linter.unusedSimpArgs false
set_option linter.unusedVariables false
open Go.RowKit

def sg2 (o : Int) : ByteArray := if o = 1 then ⟨#[45]⟩ else if o = 2 then ⟨#[33]⟩ else sgO o
def pc2 (o : Int) : Nat := if 1 ≤ o ∧ o ≤ 15 then (pcP o).toNat else 7
def ndP (i : Nat) (o oa : Int) : Bool := decide (pc2 oa < pc2 o) || (decide (pc2 oa = pc2 o) && (decide (i = 1) || decide (pc2 o = 3)))
def tkS (x : ByteArray) : Tk := ⟨3, x, 0, 0⟩
def wrL (i : Nat) (o oa : Int) (t : LBy) : LBy := if ndP i o oa = true then 40 :: (t ++ [41]) else t
def wrT (i : Nat) (o oa : Int) (ts : List Tk) : List Tk := if ndP i o oa = true then tkS ⟨#[40]⟩ :: (ts ++ [tkS ⟨#[41]⟩]) else ts
/-- An expression, its text, its tokens. -/
inductive TT : Ex → LBy → List Tk → Prop
  | num (v : Int) (h : 0 ≤ v) (h2 : v ≤ 1099511627776) : TT (.mk 1 0 .empty v []) (dcT v).data.toList [⟨2, dcT v, v, 0⟩]
  | nam (s : ByteArray) (h : nmB s = true) (h2 : kwB s = false) : TT (.mk 2 0 s 0 []) s.data.toList [⟨1, s, 0, 0⟩]
  | un (o : Int) (a : Ex) (t : LBy) (ts : List Tk) (h : o = 1 ∨ o = 2) (ha : TT a t ts) : TT (umX o a) ((sg2 o).data.toList ++ wrL 0 o a.o t) (tkS (sg2 o) :: wrT 0 o a.o ts)
  | bin (o : Int) (a b : Ex) (ta tb : LBy) (sa sb : List Tk) (h : 3 ≤ o) (h2 : o ≤ 15) (ha : TT a ta sa) (hb : TT b tb sb) :
      TT (bnX o a b) (wrL 0 o a.o ta ++ 32 :: ((sgO o).data.toList ++ 32 :: wrL 1 o b.o tb)) (wrT 0 o a.o sa ++ tkS (sgO o) :: wrT 1 o b.o sb)
theorem ShE.tt {e : Ex} (h : ShE e) : ∃ t ts, TT e t ts := by
  induction h with
  | num v h h2 => exact ⟨_, _, .num v h h2⟩
  | nam s h h2 => exact ⟨_, _, .nam s h h2⟩
  | un o a h ha ih => obtain ⟨t, ts, i⟩ := ih; exact ⟨_, _, .un o a t ts h i⟩
  | bin o a b h h2 ha hb i1 i2 =>
    obtain ⟨t, ts, i⟩ := i1
    obtain ⟨u, us, j⟩ := i2
    exact ⟨_, _, .bin o a b t u ts us h h2 i j⟩

/-! ### The tokens of the text -/
theorem ops_cases {o : Int} (h1 : 3 ≤ o) (h2 : o ≤ 15) : o = 3 ∨ o = 4 ∨ o = 5 ∨ o = 6 ∨ o = 7 ∨ o = 8 ∨ o = 9 ∨ o = 10 ∨ o = 11 ∨ o = 12 ∨ o = 13 ∨ o = 14 ∨ o = 15 := by omega
def Sep (r : LBy) : Prop := r = [] ∨ ∃ c q, r = c :: q ∧ (c = 32 ∨ c = 41)
theorem Sep.free {r : LBy} (h : Sep r) : r.takeWhile isNmC = [] ∧ r.takeWhile isDg = [] := by
  rcases h with rfl | ⟨c, q, rfl, rfl | rfl⟩
  · exact ⟨rfl, rfl⟩
  · rw [List.takeWhile_cons, List.takeWhile_cons, if_neg (by decide), if_neg (by decide)]
    exact ⟨rfl, rfl⟩
  · rw [List.takeWhile_cons, List.takeWhile_cons, if_neg (by decide), if_neg (by decide)]
    exact ⟨rfl, rfl⟩
theorem dig_is {d : Nat} (h : d < 10) : isDg (UInt8.ofNat (48 + d)) = true ∧ (UInt8.ofNat (48 + d)).toNat = 48 + d ∧ (UInt8.ofNat (48 + d) = 48 → d = 0) := by
  rcases (show d = 0 ∨ d = 1 ∨ d = 2 ∨ d = 3 ∨ d = 4 ∨ d = 5 ∨ d = 6 ∨ d = 7 ∨ d = 8 ∨ d = 9 by omega) with rfl | rfl | rfl | rfl | rfl | rfl | rfl | rfl | rfl | rfl <;> decide
theorem digs (u : Nat) : (∀ c ∈ Lib.decDigits u, isDg c = true) ∧ rdN (Lib.decDigits u) = u ∧ (∃ c r, Lib.decDigits u = c :: r ∧ (c = 48 → u = 0)) ∧ (u < 10 → (Lib.decDigits u).length = 1) := by
  induction u using Nat.strongRecOn with
  | ind u ih =>
  rw [Lib.decDigits]
  by_cases h : u < 10
  · rw [dif_pos h]
    obtain ⟨d1, d2, d3⟩ := dig_is h
    refine ⟨fun c hc => ?_, ?_, ⟨_, _, rfl, d3⟩, fun _ => rfl⟩
    · obtain rfl : c = UInt8.ofNat (48 + u) := by simpa using hc
      exact d1
    · simp only [rdN, List.foldl_cons, List.foldl_nil, d2]
      omega
  · rw [dif_neg h]
    obtain ⟨i1, i2, ⟨c, r, i3, i4⟩, _⟩ := ih (u / 10) (by omega)
    obtain ⟨d1, d2, d3⟩ := dig_is (show u % 10 < 10 by omega)
    refine ⟨fun c hc => ?_, ?_, ⟨c, r ++ [UInt8.ofNat (48 + u % 10)], by rw [i3]; rfl, fun e => by have := i4 e; omega⟩, fun hh => absurd hh h⟩
    · rcases List.mem_append.1 hc with hc | hc
      · exact i1 c hc
      · obtain rfl : c = UInt8.ofNat (48 + u % 10) := by simpa using hc
        exact d1
    · unfold rdN at i2 ⊢
      rw [List.foldl_append, i2]
      simp only [List.foldl_cons, List.foldl_nil, d2]
      omega
theorem dcT_list {v : Int} (h : 0 ≤ v) : ∃ u : Nat, v = (u : Int) ∧ (dcT v).data.toList = Lib.decDigits u := by
  obtain ⟨u, rfl⟩ := Int.eq_ofNat_of_zero_le h
  refine ⟨u, rfl, ?_⟩
  unfold dcT
  rw [Lib.itoa_nonneg]
theorem nmB_list {s : ByteArray} (h : nmB s = true) : ∃ c r, s.data.toList = c :: r ∧ isLow c = true ∧ (∀ x ∈ s.data.toList, isNmC x = true) ∧ s.data.toList.length ≤ 30 := by
  unfold nmB at h
  cases hl : s.data.toList with
  | nil => rw [hl] at h; cases h
  | cons c r =>
    rw [hl] at h
    simp only [Bool.and_eq_true, decide_eq_true_eq, List.all_eq_true] at h
    refine ⟨c, r, rfl, h.1.2, fun x hx => ?_, by simp only [List.length_cons]; omega⟩
    rcases List.mem_cons.1 hx with rfl | hx
    · unfold isNmC; rw [h.1.2]; rfl
    · exact h.2 x hx
theorem low_no {c : UInt8} (h : isLow c = true) : isSp c = false ∧ c ≠ 35 ∧ c ≠ 61 := by
  refine ⟨?_, fun e => by subst e; revert h; decide, fun e => by subst e; revert h; decide⟩
  cases hs : isSp c with
  | false => rfl
  | true =>
    exfalso
    simp only [isSp, Bool.or_eq_true, beq_iff_eq] at hs
    rcases hs with (rfl | rfl) | rfl <;> revert h <;> decide
theorem dig_no {c : UInt8} (h : isDg c = true) : isSp c = false ∧ c ≠ 35 ∧ c ≠ 61 := by
  refine ⟨?_, fun e => by subst e; revert h; decide, fun e => by subst e; revert h; decide⟩
  cases hs : isSp c with
  | false => rfl
  | true =>
    exfalso
    simp only [isSp, Bool.or_eq_true, beq_iff_eq] at hs
    rcases hs with (rfl | rfl) | rfl <;> revert h <;> decide
theorem tw_app {p : UInt8 → Bool} {x r : LBy} (h : ∀ c ∈ x, p c = true) (hr : r.takeWhile p = []) : (x ++ r).takeWhile p = x := by
  rw [List.takeWhile_append_of_pos h, hr, List.append_nil]
theorem one_name {s : ByteArray} (h : nmB s = true) {r : LBy} (hr : Sep r) : one (s.data.toList ++ r) = .tk 1 s.data.toList.length 0 := by
  obtain ⟨c, q, e, h1, h2, h3⟩ := nmB_list h
  have ht : wdN (s.data.toList ++ r) = s.data.toList.length := by unfold wdN; rw [tw_app h2 hr.free.1]
  rw [e] at ht h3 ⊢
  rw [List.cons_append] at ht ⊢
  unfold one
  simp only [h1, if_true, ht]
  rw [if_neg (by omega)]
theorem one_num {u : Nat} (hu : u ≤ 1099511627776) {r : LBy} (hr : Sep r) : one (Lib.decDigits u ++ r) = .tk 2 (Lib.decDigits u).length u := by
  obtain ⟨h1, h2, ⟨c, q, e, h3⟩, h4⟩ := digs u
  have hd : dgN (Lib.decDigits u ++ r) = (Lib.decDigits u).length := by unfold dgN; rw [tw_app h1 hr.free.2]
  have hw : wdN (Lib.decDigits u ++ r) = (Lib.decDigits u).length := by unfold wdN; rw [tw_app (fun c hc => dg_nm (h1 c hc)) hr.free.1]
  have htk : (Lib.decDigits u ++ r).take (Lib.decDigits u).length = Lib.decDigits u := List.take_left' rfl
  have hc : isDg c = true := h1 c (by rw [e]; simp)
  have hno : ¬ (1 < (Lib.decDigits u).length ∧ c = 48) := fun hh => by
    have := h4 (by have := h3 hh.2; omega)
    omega
  rw [e] at hd hw htk hno h2 ⊢
  rw [List.cons_append] at hd hw htk ⊢
  unfold one
  simp only [dg_low hc, hc, if_true, hd, hw, htk, h2, Bool.false_eq_true, if_false]
  rw [if_neg (by rintro (hh | hh); exact hh rfl; exact hno hh), if_neg (by omega)]
theorem one_un {o : Int} (ho : o = 1 ∨ o = 2) {c : UInt8} (hc : c ≠ 61) (r : LBy) : one ((sg2 o).data.toList ++ c :: r) = .tk 3 1 0 := by
  have h2 : ((61 : UInt8) == c) = false := by rw [beq_eq_false_iff_ne]; exact fun e => hc e.symm
  rcases ho with rfl | rfl
  · simp [sg2, one, isLow, isDg, sgN, sgF, signL, List.find?, List.isPrefixOf]
  · simp [sg2, one, isLow, isDg, sgN, sgF, signL, List.find?, List.isPrefixOf, h2]
theorem one_bin {o : Int} (h1 : 3 ≤ o) (h2 : o ≤ 15) (r : LBy) : one ((sgO o).data.toList ++ 32 :: r) = .tk 3 (sgO o).data.toList.length 0 := by
  rcases ops_cases h1 h2 with rfl | rfl | rfl | rfl | rfl | rfl | rfl | rfl | rfl | rfl | rfl | rfl | rfl <;>
    simp [sgO, one, isLow, isDg, sgN, sgF, signL, List.find?, List.isPrefixOf]
theorem one_close (r : LBy) : one (41 :: r) = .tk 3 1 0 := by
  simp [one, isLow, isDg, sgN, sgF, signL, List.find?, List.isPrefixOf]
theorem sgO_head {o : Int} (h1 : 3 ≤ o) (h2 : o ≤ 15) : ∃ c q, (sgO o).data.toList = c :: q ∧ isSp c = false ∧ c ≠ 35 := by
  rcases ops_cases h1 h2 with rfl | rfl | rfl | rfl | rfl | rfl | rfl | rfl | rfl | rfl | rfl | rfl | rfl <;> exact ⟨_, _, rfl, by decide, by decide⟩
/-- One token in front. -/
theorem lxx_one {x r : LBy} {k : Int} {v : Nat} (hx : ∃ c q, x = c :: q ∧ isSp c = false ∧ c ≠ 35) (h : one (x ++ r) = .tk k x.length v) (a : Nat) (acc : List Tk) : lxx (x ++ r) a acc = lxx r (a + x.length) (acc ++ [⟨k, bB x, v, a⟩]) := by
  obtain ⟨c, q, rfl, h1, h2⟩ := hx
  rw [List.cons_append] at h ⊢
  rw [lxx_tk h1 h2 h, ← List.cons_append, List.drop_left' rfl, List.take_left' rfl]
theorem TT.head {e : Ex} {t : LBy} {ts : List Tk} (h : TT e t ts) : ∃ c r, t = c :: r ∧ c ≠ 61 := by
  induction h with
  | num v h h2 =>
    obtain ⟨u, _, hu⟩ := dcT_list h
    obtain ⟨d1, _, ⟨c, r, e, _⟩, _⟩ := digs u
    exact ⟨c, r, by rw [hu, e], (dig_no (d1 c (by rw [e]; simp))).2.2⟩
  | nam s h h2 =>
    obtain ⟨c, r, e, h1, _⟩ := nmB_list h
    exact ⟨c, r, e, (low_no h1).2.2⟩
  | un o a t ts h ha ih =>
    rcases h with rfl | rfl
    · exact ⟨45, _, rfl, by decide⟩
    · exact ⟨33, _, rfl, by decide⟩
  | bin o a b ta tb sa sb h h2 ha hb i1 i2 =>
    obtain ⟨c, r, e, hc⟩ := i1
    unfold wrL
    split
    · exact ⟨40, _, rfl, by decide⟩
    · exact ⟨c, _, by rw [e]; rfl, hc⟩
theorem wrL_head {i : Nat} {o oa : Int} {t : LBy} (h : ∃ c r, t = c :: r ∧ c ≠ 61) : ∃ c r, wrL i o oa t = c :: r ∧ c ≠ 61 := by
  unfold wrL
  split
  · exact ⟨40, _, rfl, by decide⟩
  · exact h
/-- What lexing the text ahead of r gives. -/
def LxP (t : LBy) (ts : List Tk) : Prop := ∀ r, Sep r → ∀ a acc, ∃ us : List Tk, us.map st0 = ts ∧ lxx (t ++ r) a acc = lxx r (a + t.length) (acc ++ us)
theorem LxP.wrap {i : Nat} {o oa : Int} {t : LBy} {ts : List Tk} (h : LxP t ts) : LxP (wrL i o oa t) (wrT i o oa ts) := by
  unfold wrL wrT
  by_cases hn : ndP i o oa = true
  · rw [if_pos hn, if_pos hn]
    intro r hr a acc
    obtain ⟨us, h1, h2⟩ := h (41 :: r) (.inr ⟨41, r, rfl, .inr rfl⟩) (a + 1) (acc ++ [⟨3, bB [40], 0, a⟩])
    have e1 : (40 :: (t ++ [41]) ++ r : LBy) = [40] ++ (t ++ 41 :: r) := by simp
    refine ⟨⟨3, bB [40], 0, a⟩ :: (us ++ [⟨3, bB [41], 0, a + 1 + t.length⟩]), ?_, ?_⟩
    · rw [List.map_cons, List.map_append, h1]
      rfl
    · rw [e1, lxx_one ⟨40, [], rfl, by decide, by decide⟩ (one_open _)]
      have h2' : lxx (t ++ 41 :: r) (a + ([40] : LBy).length) (acc ++ [⟨3, bB [40], ((0 : Nat) : Int), a⟩]) = lxx (41 :: r) (a + 1 + t.length) (acc ++ [⟨3, bB [40], 0, a⟩] ++ us) := h2
      rw [h2']
      have e2 : (41 :: r : LBy) = [41] ++ r := rfl
      rw [e2, lxx_one ⟨41, [], rfl, by decide, by decide⟩ (one_close _)]
      congr 1
      · simp only [List.length_cons, List.length_append, List.length_nil]; omega
      · simp
  · rw [if_neg hn, if_neg hn]
    exact h
theorem TT.lex {e : Ex} {t : LBy} {ts : List Tk} (h : TT e t ts) : LxP t ts := by
  induction h with
  | num v h h2 =>
    obtain ⟨u, rfl, hu⟩ := dcT_list h
    obtain ⟨d1, _, ⟨c, q, e, _⟩, _⟩ := digs u
    intro r hr a acc
    have hc := dig_no (d1 c (by rw [e]; simp))
    have ho := one_num (u := u) (by omega) hr
    rw [hu]
    refine ⟨[⟨2, bB (Lib.decDigits u), u, a⟩], ?_, lxx_one ⟨c, q, e, hc.1, hc.2.1⟩ ho a acc⟩
    have : bB (Lib.decDigits u) = dcT (u : Int) := by rw [← hu]; rfl
    rw [this]; rfl
  | nam s h h2 =>
    obtain ⟨c, q, e, h1, _⟩ := nmB_list h
    intro r hr a acc
    have hc := low_no h1
    exact ⟨[⟨1, bB s.data.toList, 0, a⟩], rfl, lxx_one ⟨c, q, e, hc.1, hc.2.1⟩ (one_name h hr) a acc⟩
  | un o a t ts h ha ih =>
    have hw := LxP.wrap (i := 0) (o := o) (oa := a.o) ih
    obtain ⟨c, q, e, hc⟩ := wrL_head (i := 0) (o := o) (oa := a.o) ha.head
    intro r hr p acc
    have hl : (sg2 o).data.toList.length = 1 := by rcases h with rfl | rfl <;> rfl
    have hone : one ((sg2 o).data.toList ++ (wrL 0 o a.o t ++ r)) = .tk 3 (sg2 o).data.toList.length 0 := by
      rw [hl, e, List.cons_append]; exact one_un h hc _
    have hx : ∃ c q, (sg2 o).data.toList = c :: q ∧ isSp c = false ∧ c ≠ 35 := by rcases h with rfl | rfl <;> exact ⟨_, _, rfl, by decide, by decide⟩
    obtain ⟨us, h1, h2⟩ := hw r hr (p + (sg2 o).data.toList.length) (acc ++ [⟨3, bB (sg2 o).data.toList, 0, p⟩])
    refine ⟨⟨3, bB (sg2 o).data.toList, 0, p⟩ :: us, by rw [List.map_cons, h1]; rfl, ?_⟩
    rw [List.append_assoc, lxx_one hx hone]
    refine h2.trans ?_
    congr 1
    · rw [List.length_append]; omega
    · simp
  | bin o a b ta tb sa sb h h2 ha hb i1 i2 =>
    have hwa := LxP.wrap (i := 0) (o := o) (oa := a.o) i1
    have hwb := LxP.wrap (i := 1) (o := o) (oa := b.o) i2
    intro r hr p acc
    generalize wrL 0 o a.o ta = A at hwa
    generalize wrL 1 o b.o tb = B at hwb
    obtain ⟨us, h1, h3⟩ := hwa (32 :: ((sgO o).data.toList ++ 32 :: (B ++ r))) (.inr ⟨32, _, rfl, .inl rfl⟩) p acc
    have e1 : A ++ 32 :: ((sgO o).data.toList ++ 32 :: B) ++ r = A ++ 32 :: ((sgO o).data.toList ++ 32 :: (B ++ r)) := by simp
    rw [e1, h3, lxx_sp (by decide), lxx_one (sgO_head h h2) (one_bin h h2 _), lxx_sp (by decide)]
    obtain ⟨vs, k1, k2⟩ := hwb r hr (p + A.length + 1 + (sgO o).data.toList.length + 1) (acc ++ us ++ [⟨3, bB (sgO o).data.toList, ((0 : Nat) : Int), p + A.length + 1⟩])
    rw [k2]
    refine ⟨us ++ ⟨3, bB (sgO o).data.toList, 0, p + A.length + 1⟩ :: vs, by rw [List.map_append, List.map_cons, h1, k1]; rfl, ?_⟩
    congr 1
    · simp only [List.length_append, List.length_cons]; omega
    · simp

/-! ### Reading the tokens -/
def Rp (m : Pm) (l : List Tk) (e : Ex) (n : Nat) : Prop := ∃ f, ps f m l = .ok e n
theorem Rp.at_ {m : Pm} {l : List Tk} {e : Ex} {n f g : Nat} (h : ps f m l = .ok e n) (hg : f ≤ g) : ps g m l = .ok e n := by
  rw [ps_le hg (by rw [h]; simp), h]
theorem rp_leaf {l : List Tk} {e : Ex} (h : leafT (hdT l) = some e) : Rp .opd l e 1 := ⟨1, by rw [ps, h]⟩
theorem leafT_s (x : ByteArray) : leafT (tkS x) = none := by unfold leafT tkS; simp
theorem rp_un {o : Int} (ho : o = 1 ∨ o = 2) {l : List Tk} {e : Ex} {n : Nat} (h : Rp .opd l e n) : Rp .opd (tkS (sg2 o) :: l) (umX o e) (n + 1) := by
  obtain ⟨f, h⟩ := h
  refine ⟨f + 1, ?_⟩
  rw [ps, hdT_cons, leafT_s]
  rcases ho with rfl | rfl
  · have i1 : isS (tkS (sg2 1)) ⟨#[45]⟩ = true := by decide
    simp only [i1, if_true, List.drop_succ_cons, List.drop_zero, h, Rs.un]
  · have i1 : isS (tkS (sg2 2)) ⟨#[45]⟩ = false := by decide
    have i2 : isS (tkS (sg2 2)) ⟨#[33]⟩ = true := by decide
    simp only [i1, i2, if_true, List.drop_succ_cons, List.drop_zero, h, Rs.un, Bool.false_eq_true, if_false]
theorem rp_par {l : List Tk} {e : Ex} {n : Nat} (h : Rp (.exp 1) l e n) (hc : hdT (l.drop n) = tkS ⟨#[41]⟩) : Rp .opd (tkS ⟨#[40]⟩ :: l) e (n + 2) := by
  obtain ⟨f, h⟩ := h
  refine ⟨f + 1, ?_⟩
  have i1 : isS (tkS ⟨#[40]⟩) ⟨#[45]⟩ = false := by decide
  have i2 : isS (tkS ⟨#[40]⟩) ⟨#[33]⟩ = false := by decide
  have i3 : isS (tkS ⟨#[40]⟩) ⟨#[40]⟩ = true := by decide
  have i4 : isS (tkS ⟨#[41]⟩) ⟨#[41]⟩ = true := by decide
  rw [ps, hdT_cons, leafT_s]
  simp only [i1, i2, i3, if_true, List.drop_succ_cons, List.drop_zero, h, Rs.up, Rs.thenLop, Bool.false_eq_true, if_false, hc, i4]
theorem rp_top {l : List Tk} {e : Ex} {n : Nat} (h : Rp .opd l e n) : Rp (.exp 6) l e n := by
  obtain ⟨f, h⟩ := h
  exact ⟨f + 1, by rw [ps, if_pos (by omega), h]⟩
theorem rp_exp {p : Nat} (hp : p ≤ 5) {l : List Tk} {e x : Ex} {n m : Nat} (h : Rp (.exp (p + 1)) l e n) (k : Rp (.lop p e) (l.drop n) x m) : Rp (.exp p) l x (m + n) := by
  obtain ⟨f, h⟩ := h
  obtain ⟨g, k⟩ := k
  refine ⟨max f g + 1, ?_⟩
  rw [ps, if_neg (by omega), Rp.at_ h (Nat.le_max_left f g)]
  simp only [Rs.thenLop]
  rw [Rp.at_ k (Nat.le_max_right f g)]
  rfl
theorem rp_stop {p : Nat} {l : List Tk} {e : Ex} (h : pcP (opN (hdT l)) ≠ p) : Rp (.lop p e) l e 0 := ⟨1, by rw [ps, if_pos h]⟩
theorem opN_s {o : Int} (h1 : 3 ≤ o) (h2 : o ≤ 15) : opN (tkS (sgO o)) = o := by
  rcases ops_cases h1 h2 with rfl | rfl | rfl | rfl | rfl | rfl | rfl | rfl | rfl | rfl | rfl | rfl | rfl <;> decide
theorem pc2_op {o : Int} (h1 : 3 ≤ o) (h2 : o ≤ 15) : (pc2 o : Int) = pcP o ∧ 1 ≤ pc2 o ∧ pc2 o ≤ 5 := by
  rcases ops_cases h1 h2 with rfl | rfl | rfl | rfl | rfl | rfl | rfl | rfl | rfl | rfl | rfl | rfl | rfl <;> decide
theorem rp_op {o : Int} (h1 : 3 ≤ o) (h2 : o ≤ 15) (h3 : pc2 o ≠ 3) {l : List Tk} {e g x : Ex} {n m : Nat} (h : Rp (.exp (pc2 o + 1)) l g n) (k : Rp (.lop (pc2 o) (bnX o e g)) (l.drop n) x m) : Rp (.lop (pc2 o) e) (tkS (sgO o) :: l) x (m + (n + 1)) := by
  obtain ⟨f, h⟩ := h
  obtain ⟨f', k⟩ := k
  refine ⟨max f f' + 1, ?_⟩
  rw [ps, hdT_cons, opN_s h1 h2, if_neg (by rw [(pc2_op h1 h2).1]; simp), List.drop_succ_cons, List.drop_zero, Rp.at_ h (Nat.le_max_left f f')]
  simp only [Rs.thenLop, Rs.up, if_neg h3, List.drop_succ_cons]
  rw [Rp.at_ k (Nat.le_max_right f f')]
theorem rp_op3 {o : Int} (h1 : 3 ≤ o) (h2 : o ≤ 15) (h3 : pc2 o = 3) {l : List Tk} {e g : Ex} {n : Nat} (h : Rp (.exp (pc2 o + 1)) l g n) : Rp (.lop (pc2 o) e) (tkS (sgO o) :: l) (bnX o e g) (n + 1) := by
  obtain ⟨f, h⟩ := h
  refine ⟨f + 1, ?_⟩
  rw [ps, hdT_cons, opN_s h1 h2, if_neg (by rw [(pc2_op h1 h2).1]; simp), List.drop_succ_cons, List.drop_zero, h]
  simp only [Rs.thenLop, Rs.up, if_pos h3]
/-- What follows binds less than p. -/
def Lo (t : Tk) (p : Nat) : Prop := opN t = 0 ∨ pcP (opN t) < p
theorem Lo.ne {t : Tk} {p q : Nat} (h : Lo t p) (h1 : p ≤ q) (h2 : q ≤ 5) : pcP (opN t) ≠ q := by
  rcases h with h | h
  · rw [h]
    have : pcP 0 = 6 := by decide
    omega
  · omega
theorem Lo.mono {t : Tk} {p q : Nat} (h : Lo t p) (h1 : p ≤ q) : Lo t q := by
  rcases h with h | h
  · exact .inl h
  · exact .inr (by omega)
theorem rp_down {l : List Tk} {e : Ex} {n p : Nat} (d : Nat) : ∀ q, q = p + d → q ≤ 6 → Lo (hdT (l.drop n)) p → Rp (.exp q) l e n → Rp (.exp p) l e n := by
  induction d with
  | zero => intro q hq _ _ h; obtain rfl : q = p := by omega
            exact h
  | succ d ih =>
    intro q hq h6 hL h
    obtain ⟨q, rfl⟩ : ∃ k, q = k + 1 := ⟨q - 1, by omega⟩
    refine ih q (by omega) (by omega) hL ?_
    have := rp_exp (p := q) (by omega) h (rp_stop (hL.ne (by omega) (by omega)))
    rwa [Nat.zero_add] at this
theorem rp_paren {l r : List Tk} {e : Ex} (h : Rp (.exp 1) (l ++ tkS ⟨#[41]⟩ :: r) e l.length) : Rp .opd (tkS ⟨#[40]⟩ :: (l ++ [tkS ⟨#[41]⟩]) ++ r) e (tkS ⟨#[40]⟩ :: (l ++ [tkS ⟨#[41]⟩])).length := by
  have := rp_par h (by rw [List.drop_left' rfl]; rfl)
  have e1 : (tkS ⟨#[40]⟩ :: (l ++ [tkS ⟨#[41]⟩]) ++ r : List Tk) = tkS ⟨#[40]⟩ :: (l ++ tkS ⟨#[41]⟩ :: r) := by simp
  have e2 : (tkS ⟨#[40]⟩ :: (l ++ [tkS ⟨#[41]⟩])).length = l.length + 2 := by simp
  rw [e1, e2]
  exact this
theorem lo_close (r : List Tk) (p : Nat) : Lo (hdT (tkS ⟨#[41]⟩ :: r)) p := .inl (show opN (tkS ⟨#[41]⟩) = 0 by decide)
structure RdT (e : Ex) (ts : List Tk) : Prop where
  exp : ∀ r p, 1 ≤ p → p ≤ 6 → p ≤ pc2 e.o → Lo (hdT r) p → Rp (.exp p) (ts ++ r) e ts.length
  chn : pc2 e.o ≤ 5 → pc2 e.o ≠ 3 → ∀ r x n, Lo (hdT r) (pc2 e.o + 1) → Rp (.lop (pc2 e.o) e) r x n → Rp (.exp (pc2 e.o)) (ts ++ r) x (n + ts.length)
  opd : 6 ≤ pc2 e.o → ∀ r, Rp .opd (ts ++ r) e ts.length
theorem RdT.of_opd {e : Ex} {ts : List Tk} (h6 : 6 ≤ pc2 e.o) (h : ∀ r, Rp .opd (ts ++ r) e ts.length) : RdT e ts where
  exp := fun r p h1 h2 h3 hL => rp_down (6 - p) 6 (by omega) (by omega) (by rw [List.drop_left' rfl]; exact hL) (rp_top (h r))
  chn := fun h => by omega
  opd := fun _ => h
/-- An argument, in parentheses or not, at a level that it reaches. -/
theorem RdT.arg {i : Nat} {o : Int} {a : Ex} {ts : List Tk} (h : RdT a ts) {p : Nat} (h1 : 1 ≤ p) (h2 : p ≤ 6) (hp : ndP i o a.o = false → p ≤ pc2 a.o) (hpa : 1 ≤ pc2 a.o) (r : List Tk) (hL : Lo (hdT r) p) : Rp (.exp p) (wrT i o a.o ts ++ r) a (wrT i o a.o ts).length := by
  unfold wrT
  by_cases hn : ndP i o a.o = true
  · rw [if_pos hn]
    refine rp_down (6 - p) 6 (by omega) (by omega) (by rw [List.drop_left' rfl]; exact hL) (rp_top (rp_paren (h.exp _ 1 (by omega) (by omega) hpa (lo_close _ _))))
  · rw [if_neg hn]
    exact h.exp r p h1 h2 (hp (by simpa using hn)) hL
theorem pc2_pos (o : Int) : 1 ≤ pc2 o := by
  unfold pc2
  split
  · unfold pcP
    repeat' split
    all_goals decide
  · decide
theorem TT.rd {e : Ex} {t : LBy} {ts : List Tk} (h : TT e t ts) : RdT e ts := by
  induction h with
  | num v h h2 =>
    refine .of_opd (by show 6 ≤ pc2 0; decide) (fun r => rp_leaf ?_)
    show leafT ⟨2, dcT v, v, 0⟩ = _
    unfold leafT
    rw [if_pos rfl, if_pos ⟨rfl, h, h2⟩]
  | nam s h h2 =>
    refine .of_opd (by show 6 ≤ pc2 0; decide) (fun r => rp_leaf ?_)
    show leafT ⟨1, s, 0, 0⟩ = _
    unfold leafT
    rw [if_neg (show ¬ (1 : Int) = 2 by decide), if_pos rfl, if_pos ⟨h, h2⟩]
  | un o a t ts h ha ih =>
    have h6 : pc2 o = 6 := by rcases h with rfl | rfl <;> decide
    refine .of_opd (by show 6 ≤ pc2 o; omega) (fun r => ?_)
    rw [List.cons_append]
    refine rp_un h ?_
    unfold wrT
    by_cases hn : ndP 0 o a.o = true
    · rw [if_pos hn]
      exact rp_paren (ih.exp _ 1 (by omega) (by omega) (pc2_pos _) (lo_close _ _))
    · rw [if_neg hn]
      refine ih.opd ?_ r
      simp only [ndP, Bool.or_eq_true, decide_eq_true_eq, not_or] at hn
      omega
  | bin o a b ta tb sa sb h h2 ha hb ia ib =>
    obtain ⟨q1, q2, q3⟩ := pc2_op h h2
    have heq : pc2 (bnX o a b).o = pc2 o := rfl
    -- the argument on the right
    have hR : ∀ r, Lo (hdT r) (pc2 o + 1) → Rp (.exp (pc2 o + 1)) (wrT 1 o b.o sb ++ r) b (wrT 1 o b.o sb).length := fun r hL =>
      ib.arg (by omega) (by omega) (fun hn => by
        simp [ndP] at hn
        omega) (pc2_pos _) r hL
    have hlo : ∀ r, Lo (hdT (tkS (sgO o) :: r)) (pc2 o + 1) := fun r => .inr (by rw [hdT_cons, opN_s h h2]; omega)
    -- the argument on the left, and what is made of it
    have hLft : ∀ r x n, Rp (.lop (pc2 o) a) (tkS (sgO o) :: r) x n → Rp (.exp (pc2 o)) (wrT 0 o a.o sa ++ tkS (sgO o) :: r) x (n + (wrT 0 o a.o sa).length) := fun r x n hk => by
      by_cases hc : ndP 0 o a.o = false ∧ pc2 a.o = pc2 o
      · obtain ⟨hn, hpc⟩ := hc
        have h3 : pc2 o ≠ 3 := by
          simp only [ndP, Bool.or_eq_false_iff, decide_eq_false_iff_not, Bool.and_eq_false_iff] at hn
          omega
        have e1 : wrT 0 o a.o sa = sa := by unfold wrT; rw [if_neg (by rw [hn]; decide)]
        rw [e1]
        have := ia.chn (by omega) (by omega) (tkS (sgO o) :: r) x n (by rw [hpc]; exact hlo r) (by rw [hpc]; exact hk)
        rwa [hpc] at this
      · have hA := ia.arg (i := 0) (o := o) (p := pc2 o + 1) (by omega) (by omega) (fun hn => by
          have h4 := hn
          simp only [ndP, Bool.or_eq_false_iff, decide_eq_false_iff_not, Bool.and_eq_false_iff] at hn
          have h5 : pc2 a.o ≠ pc2 o := fun e => hc ⟨h4, e⟩
          omega) (pc2_pos _) (tkS (sgO o) :: r) (hlo r)
        exact rp_exp q3 hA (by rw [List.drop_left' rfl]; exact hk)
    have hS : ∀ r, wrT 0 o a.o sa ++ tkS (sgO o) :: wrT 1 o b.o sb ++ r = wrT 0 o a.o sa ++ tkS (sgO o) :: (wrT 1 o b.o sb ++ r) := fun r => by simp
    have hlen : (wrT 0 o a.o sa ++ tkS (sgO o) :: wrT 1 o b.o sb).length = (wrT 1 o b.o sb).length + 1 + (wrT 0 o a.o sa).length := by simp; omega
    have chn : pc2 o ≠ 3 → ∀ r x n, Lo (hdT r) (pc2 o + 1) → Rp (.lop (pc2 o) (bnX o a b)) r x n → Rp (.exp (pc2 o)) (wrT 0 o a.o sa ++ tkS (sgO o) :: wrT 1 o b.o sb ++ r) x (n + (wrT 0 o a.o sa ++ tkS (sgO o) :: wrT 1 o b.o sb).length) := fun h3 r x n hL hk => by
      rw [hS, hlen, ← Nat.add_assoc, ← Nat.add_assoc, Nat.add_assoc n]
      exact hLft _ x _ (rp_op h h2 h3 (hR r hL) (by rw [List.drop_left' rfl]; exact hk))
    have c3 : pc2 o = 3 → ∀ r, Lo (hdT r) (pc2 o + 1) → Rp (.exp (pc2 o)) (wrT 0 o a.o sa ++ tkS (sgO o) :: wrT 1 o b.o sb ++ r) (bnX o a b) (wrT 0 o a.o sa ++ tkS (sgO o) :: wrT 1 o b.o sb).length := fun h3 r hL => by
      rw [hS, hlen]
      exact hLft _ _ _ (rp_op3 h h2 h3 (hR r hL))
    refine ⟨fun r p h1 h2' hp hL => ?_, fun _ h3 r x n hL hk => chn h3 r x n hL hk, fun hh => ?_⟩
    · rw [heq] at hp
      refine rp_down (pc2 o - p) (pc2 o) (by omega) (by omega) (by rw [List.drop_left' rfl]; exact hL) ?_
      by_cases h3 : pc2 o = 3
      · exact c3 h3 r (hL.mono (by omega))
      · have := chn h3 r _ 0 (hL.mono (by omega)) (rp_stop (hL.ne hp q3))
        rwa [Nat.zero_add] at this
    · rw [heq] at hh; omega

/-! ### The text is read as the expression -/
theorem TT.parse {e : Ex} {t : LBy} {ts : List Tk} (h : TT e t ts) (hc : ckE e = 0) (hl : t.length ≤ 4000) : psF (bB t) = (e, 0, 0) := by
  obtain ⟨us, h1, h2⟩ := h.lex [] (.inl rfl) 0 []
  rw [List.append_nil, List.nil_append, Nat.zero_add] at h2
  have hL : lexT (bB t) = (us ++ [⟨0, .empty, 0, t.length⟩], 0, 0) := by
    rw [lexT_L (by rw [bB_size]; exact hl), bB_list]
    exact h2
  have hr := (h.rd).exp [st0 (⟨0, .empty, 0, t.length⟩ : Tk)] 1 (by omega) (by omega) (pc2_pos _) (.inl (show opN (⟨0, .empty, 0, 0⟩ : Tk) = 0 by decide))
  have hn : us.length = ts.length := by rw [← h1, List.length_map]
  obtain ⟨f, hf⟩ := hr
  have hp : pE (us ++ [(⟨0, .empty, 0, t.length⟩ : Tk)]) = .ok e ts.length := by
    have e1 : (us ++ [(⟨0, .empty, 0, t.length⟩ : Tk)]).map st0 = ts ++ [st0 (⟨0, .empty, 0, t.length⟩ : Tk)] := by rw [List.map_append, h1]; rfl
    rw [← e1, ps_st] at hf
    rw [← pE_of (by rw [hf]; simp), hf]
  rw [psF_ok hL, hp]
  have hg : (gk (us ++ [(⟨0, .empty, 0, t.length⟩ : Tk)]) ts.length).k = 0 := by
    unfold gk
    rw [List.getElem?_append_right (by omega), hn]
    simp
  simp only [psH]
  rw [if_neg (by rw [hg]; simp), if_pos hc]
theorem wrL_len (i : Nat) (o oa : Int) (t : LBy) : (wrL i o oa t).length ≤ t.length + 2 := by
  unfold wrL
  split
  · simp
  · omega
theorem decs_len (k : Nat) : ∀ u : Nat, u < 10 ^ (k + 1) → (Lib.decDigits u).length ≤ k + 1 := by
  induction k with
  | zero => intro u h; rw [(digs u).2.2.2 (by simpa using h)]; omega
  | succ k ih =>
    intro u h
    rw [Lib.decDigits]
    by_cases hu : u < 10
    · rw [dif_pos hu]; simp
    · rw [dif_neg hu, List.length_append]
      have := ih (u / 10) (by rw [Nat.div_lt_iff_lt_mul (by omega)]; rw [Nat.pow_succ] at h; exact h)
      simp only [List.length_cons, List.length_nil]
      omega
theorem TT.len {e : Ex} {t : LBy} {ts : List Tk} (h : TT e t ts) : t.length + 8 ≤ 19 * (szE e + 1) := by
  induction h with
  | num v h h2 =>
    obtain ⟨u, rfl, hu⟩ := dcT_list h
    have := decs_len 12 u (by omega)
    rw [hu]
    simp only [szE, szL]
    omega
  | nam s h h2 =>
    obtain ⟨_, _, _, _, _, hl⟩ := nmB_list h
    simp only [szE, szL]
    omega
  | un o a t ts h ha ih =>
    have h1 := wrL_len 0 o a.o t
    have hl : (sg2 o).data.toList.length = 1 := by rcases h with rfl | rfl <;> rfl
    rw [List.length_append, hl]
    simp only [umX, szE, szL]
    omega
  | bin o a b ta tb sa sb h h2 ha hb ia ib =>
    have h1 := wrL_len 0 o a.o ta
    have h3 := wrL_len 1 o b.o tb
    have hl : (sgO o).data.toList.length ≤ 2 := by
      rcases ops_cases h h2 with rfl | rfl | rfl | rfl | rfl | rfl | rfl | rfl | rfl | rfl | rfl | rfl | rfl <;> decide
    simp only [List.length_append, List.length_cons, bnX, szE, szL]
    omega

/-! ### LxRtZ -/

theorem pcE_pc2 (o : Int) : pcE o = (pc2 o : Int) := by
  unfold pcE pc2
  by_cases h : 1 ≤ o ∧ o ≤ 15
  · rw [if_pos h, if_pos h]
    have : pcO o = pcP o := rfl
    rw [this]
    have h0 : 0 ≤ pcP o := by
      unfold pcP
      repeat' split
      all_goals decide
    omega
  · rw [if_neg h, if_neg h]; rfl
theorem ndP_iff (i : Nat) (o oa : Int) : ndP i o oa = true ↔ (pcE oa < pcE o ∨ (pcE oa = pcE o ∧ (i = 1 ∨ pcE o = 3))) := by
  rw [pcE_pc2, pcE_pc2]
  unfold ndP
  simp only [Bool.or_eq_true, Bool.and_eq_true, decide_eq_true_eq]
  omega
theorem paB_list (i : Nat) (o oa : Int) (t : ByteArray) : (paB i o oa t).data.toList = wrL i o oa t.data.toList := by
  unfold paB wrL
  by_cases h : ndP i o oa = true
  · rw [if_pos h, if_pos ((ndP_iff i o oa).1 h)]; simp
  · rw [if_neg h, if_neg (fun k => h ((ndP_iff i o oa).2 k))]
theorem sgB_un {o : Int} (h : o = 1 ∨ o = 2) : sgB o = sg2 o := by rcases h with rfl | rfl <;> decide
theorem sgB_bin {o : Int} (h1 : 3 ≤ o) (h2 : o ≤ 15) : sgB o = sgO o := by
  rcases ops_cases h1 h2 with rfl | rfl | rfl | rfl | rfl | rfl | rfl | rfl | rfl | rfl | rfl | rfl | rfl <;> decide
theorem TT.text {e : Ex} {t : LBy} {ts : List Tk} (h : TT e t ts) : (txE e).data.toList = t := by
  induction h with
  | num v h h2 => rw [txE, if_pos rfl]; rfl
  | nam s h h2 => rw [txE, if_neg (by decide), if_pos rfl]
  | un o a t ts h ha ih =>
    rw [umX, txE, if_neg (by decide), if_neg (by decide), if_pos rfl]
    simp only [txL, List.headD_cons]
    rw [← ih, ← paB_list, sgB_un h]
    simp [ga]
  | bin o a b ta tb sa sb h h2 ha hb i1 i2 =>
    rw [bnX, txE, if_neg (by decide), if_neg (by decide), if_neg (by decide)]
    simp only [txL, List.headD_cons, List.tail_cons]
    rw [← i1, ← i2, ← paB_list, ← paB_list, sgB_bin h h2]
    simp [ga]
theorem TT.bytes {e : Ex} {t : LBy} {ts : List Tk} (h : TT e t ts) : txE e = bB t := by
  rw [← h.text]; rfl
/-- What Print returns of a valid expression is parsed to it. -/
theorem print_parse {e : Ex} (hc : ckE e = 0) (hs : ShE e) (hl : (txF e).size ≤ 4000) : psF (txF e) = (e, 0, 0) := by
  obtain ⟨t, ts, h⟩ := hs.tt
  have e1 : txF e = bB t := by unfold txF; rw [if_pos hc, h.bytes]
  rw [e1] at hl ⊢
  rw [bB_size] at hl
  exact h.parse hc hl
theorem print_size {e : Ex} (hc : ckE e = 0) (hs : ShE e) : (txF e).size ≤ 4000 := by
  obtain ⟨t, ts, h⟩ := hs.tt
  have e1 : txF e = bB t := by unfold txF; rw [if_pos hc, h.bytes]
  have := h.len
  have h2 := (ckE_ok.1 hc).1
  rw [e1, bB_size]
  omega

/-! ### Names -/
theorem mem_upTo (d : Array (List UInt8)) : ∀ m j, j < m → d[j]! ∈ Lib.compactUpTo d m := by
  intro m
  induction m with
  | zero => intro j h; omega
  | succ m ih =>
    intro j hj
    rw [Lib.compactUpTo_succ, List.mem_append]
    by_cases hjm : j = m
    · subst hjm
      by_cases hk : Lib.keeps d j = true
      · right; rw [if_pos hk]; simp
      · left
        have hk' : ¬ (j = 0 ∨ d[j]! ≠ d[j - 1]!) := by simpa [Lib.keeps] using hk
        have h0 : j ≠ 0 := fun e => hk' (.inl e)
        have h3 : d[j]! = d[j - 1]! := Decidable.byContradiction fun e => hk' (.inr e)
        rw [h3]
        exact ih (j - 1) (by omega)
    · exact .inl (ih j (by omega))
theorem mem_comp {zs : List (List UInt8)} {x : List UInt8} (h : x ∈ zs) : x ∈ Lib.compact zs := by
  obtain ⟨i, hi, rfl⟩ := List.mem_iff_getElem.1 h
  have := mem_upTo zs.toArray zs.length i hi
  unfold Lib.compact
  simpa [getElem!_pos, hi] using this
theorem nmF_has {e : Ex} (hc : ckE e = 0) {x : List UInt8} (h : x ∈ nmK (ppK 1 e)) : x ∈ nmF e := by
  unfold nmF
  rw [if_pos hc]
  refine mem_comp ?_
  unfold srt
  rw [List.mem_mergeSort]
  exact h
theorem ppKL_mem {es : List Ex} {a : Ex} {d : Nat} (h : a ∈ es) : ∀ x ∈ nmK (ppK d a), x ∈ nmK (ppKL d es) := by
  induction es with
  | nil => cases h
  | cons b r ih =>
    intro x hx
    simp only [ppKL]
    rw [nmK_app]
    rcases List.mem_cons.1 h with rfl | h
    · exact List.mem_append.2 (.inl hx)
    · exact List.mem_append.2 (.inr (ih h x hx))
theorem shE_of (e : Ex) : ∀ d, prE e = 0 → (∀ x ∈ nmK (ppK d e), kwD.contains x = false) → ShE e := by
  induction e using Ex.ind with
  | h k o s v es ih =>
  intro d hp hk
  obtain ⟨h1, h2⟩ := prE_zero.1 hp
  have hsub : ∀ a ∈ es, ShE a := fun a ha => ih a ha (d + 1) (h2 a ha) (fun x hx => hk x (by
    simp only [ppK]
    rw [show (k, o, s, v, es.length, d) :: ppKL (d + 1) es = [(k, o, s, v, es.length, d)] ++ ppKL (d + 1) es from rfl, nmK_app]
    exact List.mem_append.2 (.inr (ppKL_mem ha x hx))))
  rcases prP_zero.1 h1 with ⟨rfl, rfl, rfl, h3, h4, h5⟩ | ⟨rfl, rfl, h3, rfl, h5⟩ | ⟨rfl, h3, rfl, rfl, h5⟩ | ⟨rfl, h3, h4, rfl, rfl, h5⟩
  · obtain rfl := List.eq_nil_of_length_eq_zero h5
    exact .num v h3 h4
  · obtain rfl := List.eq_nil_of_length_eq_zero h5
    refine .nam s h3 ?_
    unfold kwB
    exact hk _ (by simp [ppK, ppKL, nmK])
  · match es, h5, hsub with
    | [a], _, hsub => exact .un o a h3 (hsub a (by simp))
  · match es, h5, hsub with
    | [a, b], _, hsub => exact .bin o a b h3 h4 (hsub a (by simp)) (hsub b (by simp))
theorem shE_names {e : Ex} (hc : ckE e = 0) (h : (nmF e).any kwD.contains = false) : ShE e := by
  refine shE_of e 1 (ckE_ok.1 hc).2.2 (fun x hx => ?_)
  rw [List.any_eq_false] at h
  simpa using h x (nmF_has hc hx)

/-! ### ContainsFunc with Keyword -/
theorem entersKw : ∀ args w, (callFunc 12 args).run Tryz.prog w = .ok (.enter 12 args) w := enters_of Tryz.func12 (by kernel_rfl) rfl
theorem kw_at (x : List UInt8) (w : World) : Calls Tryz.prog 12 #[.string ⟨x.toArray⟩] w fun e w' => e = .returned (.bool (kwD.contains x)) ∧ w' = w := by
  have := Keyword_any ⟨x.toArray⟩ w
  unfold kwB at this
  simpa using this
set_option maxRecDepth 100000 in
set_option maxHeartbeats 2000000 in
theorem ixKw_any (v : Value) (ss : List (List UInt8)) (w : World) (hK : KS w v ss) :
    Calls Tryz.prog 30 #[v, .func (.func 12) #[] #[]] w fun e w' => (∃ k : Int, e = .returned (.int .i64 k) ∧ (decide (0 ≤ k) = ss.any kwD.contains)) ∧ w' = w := by
  obtain ⟨a, c, rfl, h1, h2, h3⟩ := hK
  have HEG := entersKw
  have HL := Lib.hid h3
  clear h3
  go_enter Tryz.func30, Tryz.ntmps30
  go_wp2
  go_loopw [8] (fun x wr => ∃ k : Nat, k ≤ ss.length ∧ x = .int .i64 k ∧ Hid (∀ j, j < k → kwD.contains (gs ss j) = false) ∧ wr = w) (fun x _ => ss.length - (intOf x).toNat)
  case atStart => exact ⟨0, Nat.zero_le _, rfl, Lib.hid (fun j hj => by omega), rfl⟩
  case round =>
    obtain ⟨k, hk, rfl, HA, rfl⟩ := hrel
    by_cases hkt : k < ss.length
    · have k1 : (k : Int) < (ss.length : Int) := by omega
      obtain ⟨b, off, rfl, _, c0⟩ := HL.out k hkt
      have hm : gs ss k ∈ ss := by unfold gs; rw [List.getElem?_eq_getElem hkt]; exact List.getElem_mem hkt
      obtain ⟨x, hx⟩ : ∃ x, gs ss k = x := ⟨_, rfl⟩
      rw [hx] at c0 hm
      have HC := kw_at x wr
      cases hb : kwD.contains x with
      | true =>
        have HX : Hid (decide ((0 : Int) ≤ (k : Int)) = ss.any kwD.contains) := Lib.hid (by
          rw [List.any_eq_true.2 ⟨x, hm, hb⟩]; simp)
        rw [hb] at HC
        have HC := Lib.hid HC
        clear hb hx hm
        go_wp2_with fail
        refine HC.out.mono ?_
        rintro e w4 ⟨rfl, rfl⟩
        go_wp2
        go_ret
        exact ⟨⟨_, rfl, HX.out⟩, rfl⟩
      | false =>
        have HA' : Hid (∀ j, j < k + 1 → kwD.contains (gs ss j) = false) := Lib.hid (fun j hj => by
          by_cases e : j = k
          · rw [e, hx]; exact hb
          · exact HA.out j (by omega))
        rw [hb] at HC
        have HC := Lib.hid HC
        clear hb hx hm
        go_wp2_with fail
        refine HC.out.mono ?_
        rintro e w4 ⟨rfl, rfl⟩
        go_wp2
        go_roundw
        case rel => exact ⟨k + 1, by omega, by go_num, HA', by first | rfl | trivial⟩
        case measure => simp [intOf]; omega
    · obtain rfl : k = ss.length := by omega
      have HX : Hid (decide ((0 : Int) ≤ -1) = ss.any kwD.contains) := Lib.hid (by
        rw [List.any_eq_false.2 (fun x hx => by
          obtain ⟨j, hj, e⟩ := List.mem_iff_getElem.1 hx
          have := HA.out j hj
          unfold gs at this
          rw [List.getElem?_eq_getElem hj, Option.getD_some, e] at this
          simpa using this)]
        rfl)
      go_wp2
      go_ret
      exact ⟨⟨_, rfl, HX.out⟩, rfl⟩
set_option maxRecDepth 100000 in
theorem hasKw_any (v : Value) (ss : List (List UInt8)) (w : World) (hK : KS w v ss) :
    Calls Tryz.prog 15 #[v, .func (.func 12) #[] #[]] w fun e w' => e = .returned (.bool (ss.any kwD.contains)) ∧ w' = w := by
  have HC := Lib.hid (ixKw_any v ss w hK)
  obtain ⟨a, c, rfl, _, _, _⟩ := hK
  go_enter Tryz.func15, Tryz.ntmps15
  go_wp2_with fail
  refine HC.out.mono ?_
  rintro e w' ⟨⟨k, rfl, hk⟩, rfl⟩
  have HK := Lib.hid hk
  clear hk
  go_wp2
  go_ret
  exact ⟨by rw [← HK.out]; rfl, rfl⟩
end Go.Proofs.YtdgphhdkeikbaaaGreatDoor
