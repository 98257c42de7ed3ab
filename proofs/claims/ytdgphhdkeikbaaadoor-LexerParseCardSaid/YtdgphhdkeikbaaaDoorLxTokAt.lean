/-
  The program's tokenAt.
-/
import Derived.Deep.WholeRow
import Derived.Test.YtdgphhdkeikbaaaDoorLxShelf
import Derived.Test.YtdgphhdkeikbaaaDoorLxOff
namespace Go.Proofs.YtdgphhdkeikbaaaDoor
set_option linter.unusedSimpArgs false
set_option linter.unusedVariables false
open Go.RowKit

/-- What the package's variable signs holds. -/
def sgVs : Array Value := (signL.map fun l => Value.string (bB l)).toArray
abbrev TSg : TypeId := 106
def SgV (w : World) : Prop := ∃ ty fz, w.heap[0]? = some (.cells sgVs ty fz)
theorem SgV.lt {w : World} (h : SgV w) : 0 < w.heap.size := by
  obtain ⟨ty, fz, h⟩ := h
  exact ltH h
theorem SgV.below {w w' : World} {B : Nat} (h : SgV w) (hb : Below B w w') (hB : 0 < B) : SgV w' := by
  obtain ⟨ty, fz, h⟩ := h
  exact ⟨ty, fz, (hb.block _ hB).trans h⟩
set_option maxRecDepth 100000 in
theorem SgV.load {w : World} (h : SgV w) : (loadVar TSg ⟨0, 0, none⟩).run Tryd.prog w = .ok (.agg sgVs) w := by
  obtain ⟨ty, fz, h⟩ := h
  exact run_loadVar_row (P := Tryd.prog) w 0 ty TSg sgVs fz (.array 21 9) h Tryd.underlying106 rfl (by kernel_rfl)
theorem SgV.loadAt {w : World} (h : SgV w) : (Instr.loadAt TSg (.pointer (some ⟨0, 0, none⟩))).run Tryd.prog w = .ok (.agg sgVs) w := by
  simp only [Instr.loadAt, Instr.sureAddr, Sem.run_bind, Sem.run_pure, Result.andThen]
  exact h.load
theorem sg_index (i : Nat) (h : i < 21) (W : World) : (Instr.index TSg (.agg sgVs) (.int .i64 (i : Int))).run Tryd.prog W = .ok (.string (bB (signL[i]?.getD []))) W := match i, h with
  | 0, _ => by kernel_rfl
  | 1, _ => by kernel_rfl
  | 2, _ => by kernel_rfl
  | 3, _ => by kernel_rfl
  | 4, _ => by kernel_rfl
  | 5, _ => by kernel_rfl
  | 6, _ => by kernel_rfl
  | 7, _ => by kernel_rfl
  | 8, _ => by kernel_rfl
  | 9, _ => by kernel_rfl
  | 10, _ => by kernel_rfl
  | 11, _ => by kernel_rfl
  | 12, _ => by kernel_rfl
  | 13, _ => by kernel_rfl
  | 14, _ => by kernel_rfl
  | 15, _ => by kernel_rfl
  | 16, _ => by kernel_rfl
  | 17, _ => by kernel_rfl
  | 18, _ => by kernel_rfl
  | 19, _ => by kernel_rfl
  | 20, _ => by kernel_rfl
  | n + 21, h => absurd h (by omega)
/-- What tokenAt returns at the rest of a text. -/
def tokR (l : LBy) (a : Nat) : Tk × Int := match one l with
  | .er e => (zTk, e)
  | .tk k n v => (⟨k, bB (l.take n), v, a⟩, 0)
theorem take_wd (l : LBy) : (l.take (wdN l)) = l.takeWhile isNmC := take_tw _ _
theorem tokR_name {c : UInt8} {r : LBy} (h : isLow c = true) (a : Nat) : tokR (c :: r) a = if 30 < wdN (c :: r) then (zTk, 5) else (⟨1, bB ((c :: r).take (wdN (c :: r))), 0, a⟩, 0) := by
  unfold tokR one
  simp only [h, if_true]
  by_cases h1 : 30 < wdN (c :: r)
  · rw [if_pos h1, if_pos h1]
  · rw [if_neg h1, if_neg h1]; rfl
theorem wd_dg {l : LBy} : wdN l = dgN l ↔ (l.takeWhile isNmC).all isDg = true := by
  induction l with
  | nil => simp [wdN, dgN]
  | cons c r ih =>
    unfold wdN dgN at ih ⊢
    rw [List.takeWhile_cons, List.takeWhile_cons]
    by_cases h : isDg c = true
    · rw [if_pos (dg_nm h), if_pos h, List.all_cons, h, List.length_cons, List.length_cons, Bool.true_and, ← ih]
      omega
    · rw [if_neg h]
      by_cases h2 : isNmC c = true
      · rw [if_pos h2, List.all_cons]
        simp [h]
      · rw [if_neg h2]; simp
theorem tokR_num {c : UInt8} {r : LBy} (h : isDg c = true) (a : Nat) : tokR (c :: r) a = numR ((c :: r).take (wdN (c :: r))) (bB ((c :: r).take (wdN (c :: r)))) a := by
  unfold tokR one numR
  simp only [dg_low h, h, if_true, Bool.false_eq_true, if_false]
  rw [take_wd]
  have hhd : ((c :: r).takeWhile isNmC) = c :: r.takeWhile isNmC := by rw [List.takeWhile_cons, if_pos (dg_nm h)]
  by_cases h1 : wdN (c :: r) = dgN (c :: r)
  · have hall := wd_dg.1 h1
    have hdw : (c :: r).take (dgN (c :: r)) = (c :: r).takeWhile isNmC := by rw [← h1, take_wd]
    rw [hdw]
    have hlen : dgN (c :: r) = ((c :: r).takeWhile isNmC).length := h1.symm
    by_cases h2 : 1 < dgN (c :: r) ∧ c = 48
    · rw [if_pos (.inr h2)]
      have : nbB ((c :: r).takeWhile isNmC) = false := by
        unfold nbB
        rw [hall, hhd]
        obtain ⟨h3, rfl⟩ := h2
        rw [hlen, hhd] at h3
        have h4 : r.takeWhile isNmC ≠ [] := by
          intro e; rw [e] at h3; simp at h3
        simp [h4]
      rw [if_pos this]
    · rw [if_neg (by rintro (hh | hh); exact hh h1; exact h2 hh)]
      have : nbB ((c :: r).takeWhile isNmC) = true := by
        unfold nbB
        rw [hall, hhd]
        simp only [Bool.true_and, Bool.or_eq_true, decide_eq_true_eq, List.head?_cons, ne_eq, Option.some.injEq]
        by_cases h3 : c = 48
        · left
          subst h3
          rw [hlen, hhd] at h2
          have : r.takeWhile isNmC = [] := by
            cases hh : r.takeWhile isNmC with
            | nil => rfl
            | cons x y => rw [hh] at h2; simp at h2
          rw [this]
        · right; exact h3
      have hnf : ¬ (nbB ((c :: r).takeWhile isNmC) = false) := by rw [this]; decide
      rw [if_neg hnf]
      by_cases h3 : 1099511627776 < rdN ((c :: r).takeWhile isNmC)
      · rw [if_pos h3, if_pos h3]
      · rw [if_neg h3, if_neg h3]
        simp only [hdw]
  · rw [if_pos (.inl h1)]
    have : nbB ((c :: r).takeWhile isNmC) = false := by
      unfold nbB
      have : ¬ (((c :: r).takeWhile isNmC).all isDg = true) := fun e => h1 (wd_dg.2 e)
      simp only [Bool.not_eq_true] at this
      rw [this]; rfl
    rw [if_pos this]
theorem tokR_sign {c : UInt8} {r : LBy} (h1 : isLow c = false) (h2 : isDg c = false) (a : Nat) : tokR (c :: r) a = if sgN (c :: r) = 0 then (zTk, 3) else (⟨3, bB ((c :: r).take (sgN (c :: r))), 0, a⟩, 0) := by
  unfold tokR one
  simp only [h1, h2, Bool.false_eq_true, if_false]
  by_cases h3 : sgN (c :: r) = 0
  · rw [if_pos h3, if_pos h3]
  · rw [if_neg h3, if_neg h3]; rfl
/-- The text of a string from a place on. -/
theorem ext_drop (s : ByteArray) (a : Nat) : (s.extract a s.size).data.toList = s.data.toList.drop a := by
  simp only [ByteArray.data_extract, Array.toList_extract, List.extract_eq_take_drop]
  rw [List.take_of_length_le]
  rw [List.length_drop, list_len]; exact Nat.le_refl _
theorem ext_take (s : ByteArray) (n : Nat) : (s.extract 0 n).data.toList = s.data.toList.take n := by
  simp only [ByteArray.data_extract, Array.toList_extract, List.extract_eq_take_drop, List.drop_zero, Nat.sub_zero]
theorem ext_bB (s : ByteArray) (n : Nat) : s.extract 0 n = bB (s.data.toList.take n) := by
  rw [← ext_take]
  unfold bB
  rw [Array.toArray_toList]
theorem letC (c : UInt8) : letR (c.toNat : Int) = isLow c := by
  unfold letR isLow
  rw [Bool.eq_iff_iff]
  simp only [Bool.and_eq_true, decide_eq_true_eq, UInt8.le_iff_toNat_le]
  have : (97 : UInt8).toNat = 97 := rfl
  have : (122 : UInt8).toNat = 122 := rfl
  omega
theorem digC (c : UInt8) : digR (c.toNat : Int) = isDg c := by
  unfold digR isDg
  rw [Bool.eq_iff_iff]
  simp only [Bool.and_eq_true, decide_eq_true_eq, UInt8.le_iff_toNat_le]
  have : (48 : UInt8).toNat = 48 := rfl
  have : (57 : UInt8).toNat = 57 := rfl
  omega
theorem mem_take_wd {l : LBy} {c : UInt8} (h : c ∈ l.take (wdN l)) : isNmC c = true := by rw [take_wd] at h; exact mem_tw h
theorem sgF_hit {ss : List LBy} {x l : LBy} (h : x.isPrefixOf l = true) : sgF (x :: ss) l = x.length ∧ l.take x.length = x := by
  refine ⟨?_, ?_⟩
  · unfold sgF; rw [List.find?_cons, h]; rfl
  · have := List.isPrefixOf_iff_prefix.1 h
    exact (List.prefix_iff_eq_take.1 this).symm
theorem sgF_miss {ss : List LBy} {x l : LBy} (h : x.isPrefixOf l = false) : sgF (x :: ss) l = sgF ss l := by
  unfold sgF; rw [List.find?_cons, h]
theorem sgL_drop {i : Nat} (h : i < 21) : signL.drop i = (signL[i]?.getD []) :: signL.drop (i + 1) := by
  have hl : i < signL.length := h
  rw [List.drop_eq_getElem_cons hl, List.getElem?_eq_getElem hl]; rfl
theorem sgL_pos {i : Nat} (h : i < 21) : (signL[i]?.getD []).length ≠ 0 := by
  have : ∀ i : Fin 21, (signL[i.val]?.getD []).length ≠ 0 := by decide
  exact this ⟨i, h⟩
theorem nameAt_tok (rs : ByteArray) (c : UInt8) (r : LBy) (hrs : rs.data.toList = c :: r) (h : isLow c = true) (hn : rs.size ≤ 4000) (a : Nat) (w : World) :
    Calls Tryd.prog 86 #[.string (rs.extract 0 (wdN rs.data.toList)), .int .i64 (a : Int)] w fun x w' => x = .returned (.tuple #[tkV (tokR (c :: r) a).1, .int .i64 (tokR (c :: r) a).2]) ∧ Below w.heap.size w w' := by
  have hl : (rs.extract 0 (wdN rs.data.toList)).size = wdN (c :: r) := by
    rw [← list_len, ext_take, List.length_take, hrs]
    exact Nat.min_eq_left (wdN_le _)
  have hN := nameAt_any (rs.extract 0 (wdN rs.data.toList)) a w (by rw [hl]; have := wdN_le rs.data.toList; rw [list_len, hrs] at this; omega)
  rw [tokR_name h]
  rw [hl] at hN
  by_cases h1 : 30 < wdN (c :: r)
  · rw [if_pos h1] at hN ⊢
    exact hN
  · rw [if_neg h1] at hN ⊢
    rw [ext_bB, hrs] at hN ⊢
    exact hN
theorem numberAt_tok (rs : ByteArray) (c : UInt8) (r : LBy) (hrs : rs.data.toList = c :: r) (h : isDg c = true) (hn : rs.size ≤ 4000) (a : Nat) (w : World) (hv : ErV w) :
    Calls Tryd.prog 89 #[.string (rs.extract 0 (wdN rs.data.toList)), .int .i64 (a : Int)] w fun x w' => x = .returned (.tuple #[tkV (tokR (c :: r) a).1, .int .i64 (tokR (c :: r) a).2]) ∧ Below w.heap.size w w' := by
  have hl : (rs.extract 0 (wdN rs.data.toList)).size = wdN (c :: r) := by
    rw [← list_len, ext_take, List.length_take, hrs]
    exact Nat.min_eq_left (wdN_le _)
  have hN := numberAt_any (rs.extract 0 (wdN rs.data.toList)) a w (by rw [hl]; have := wdN_le rs.data.toList; rw [list_len, hrs] at this; omega) (by rw [hl]; exact wdN_pos (dg_nm h)) (by rw [ext_take]; exact fun x hx => mem_take_wd hx) hv
  rw [tokR_num h]
  rw [ext_take, ext_bB, hrs] at hN
  rw [ext_bB, hrs]
  exact hN
set_option maxRecDepth 100000 in
set_option maxHeartbeats 4000000 in
theorem tokenAt_any (s : ByteArray) (a : Nat) (w : World) (hs : s.size ≤ 4000) (ha : a < s.size) (hv : ErV w) (hg : SgV w) :
    Calls Tryd.prog 59 #[.string s, .int .i64 (a : Int)] w fun x w' => x = .returned (.tuple #[tkV (tokR (s.data.toList.drop a) a).1, .int .i64 (tokR (s.data.toList.drop a) a).2]) ∧ Below w.heap.size w w' := by
  have hc := get_list s a ha
  obtain ⟨rs, hrs⟩ : ∃ rs, s.extract a s.size = rs := ⟨_, rfl⟩
  have hrl := ext_drop s a
  rw [hrs] at hrl
  have hrn : rs.size ≤ 4000 := by rw [← list_len, hrl, List.length_drop, list_len]; omega
  have hr0 : 0 < rs.size := by rw [← list_len, hrl, List.length_drop, list_len]; omega
  have hcr : s.data.toList.drop a = rs[0]'hr0 :: s.data.toList.drop (a + 1) := by
    have e1 := drop_at hc
    have e2 : rs.data.toList.head? = some (rs[0]'hr0) := by
      rw [List.head?_eq_getElem?, get_list rs 0 hr0]
      exact congrArg some (get_at rs 0 hr0)
    rw [hrl, e1] at e2
    rw [e1]
    simp only [List.head?_cons, Option.some.injEq] at e2
    rw [e2]
  obtain ⟨c, hcc⟩ : ∃ c, rs[0]'hr0 = c := ⟨_, rfl⟩
  have h32 : wrap32 ((rs[0]'hr0).toNat : Int) = (c.toNat : Int) := by
    rw [hcc]
    have := c.toNat_lt
    unfold wrap32
    omega
  rw [hcc] at hcr
  obtain ⟨W, hW⟩ : ∃ W, w.alloc (.cells #[.int .i64 0, .string ⟨#[]⟩, .int .i64 0, .int .i64 0] TTk) = W := ⟨_, rfl⟩
  have hb : Below w.heap.size w W := by rw [← hW]; exact (Below.refl _ w).alloc (Nat.le_refl _) _
  have hs1 : W.heap.size = w.heap.size + 1 := by rw [← hW]; simp
  have hgg : W.heap[w.heap.size]? = some (.cells #[.int .i64 0, .string ⟨#[]⟩, .int .i64 0, .int .i64 0] TTk (0, 0)) := by rw [← hW]; exact heapNew w _
  have hltE := hv.lt
  have hltS : 0 < w.heap.size := hg.lt
  have HB := Lib.hid hb
  have HG := Lib.hid hgg
  have HW := Lib.hid hW
  have HV := Lib.hid (hv.below hb hltE)
  obtain ⟨sty, sfz, hsg⟩ := hg.below hb hltS
  have HSG := Lib.hid hsg
  clear hsg
  have HL := Lib.hid (lxLetter_any (c.toNat : Int) W)
  have HD := Lib.hid (lxDigit_any (c.toNat : Int) W)
  rw [letC] at HL
  rw [digC] at HD
  have HSZ := Lib.hid (wordSize_any rs W hrn)
  have HRL := Lib.hid hrl
  have HCR := Lib.hid hcr
  obtain ⟨R, hR⟩ : ∃ R, tokR (s.data.toList.drop a) a = R := ⟨_, rfl⟩
  rw [hR]
  have HR := Lib.hid hR
  clear hR hb hs1 hgg hv hg hrl hcr hcc hW hc
  by_cases h1 : isLow c = true
  · rw [h1] at HL
    have H1 := Lib.hid h1
    clear h1 HD
    go_enter Tryd.func59, Tryd.ntmps59
    go_wp2_with fail
    rw [HW.out]
    refine HL.out.mono ?_
    rintro x w' ⟨rfl, rfl⟩
    go_wp2_with fail
    refine HSZ.out.mono ?_
    rintro x w1 ⟨rfl, b1⟩
    have hb1 := HB.out.trans (b1.mono HB.out.size)
    have hg1 := (b1.block _ (ltH HG.out)).trans HG.out
    have HN := Lib.hid (nameAt_tok rs c _ (HRL.out.trans HCR.out) H1.out hrn a w1)
    have hnl : ((wdN rs.data.toList : Nat) : Int) ≤ (rs.size : Int) := by have := wdN_le rs.data.toList; rw [list_len] at this; omega
    rw [← HCR.out, HR.out] at HN
    obtain ⟨n, hnn⟩ : ∃ n, wdN rs.data.toList = n := ⟨_, rfl⟩
    rw [hnn] at HN hnl
    rw [hnn]
    have hnl2 : n ≤ rs.size := by omega
    have HB1 := Lib.hid hb1
    have HG1 := Lib.hid hg1
    obtain ⟨T, e⟩ := R
    clear hb1 hg1 b1 hnn
    go_wp2_with fail
    refine HN.out.mono ?_
    rintro x w2 ⟨rfl, b2⟩
    have HG2 := Lib.hid ((b2.block _ (ltH HG1.out)).trans HG1.out)
    have HB2 := Lib.hid (HB1.out.trans (b2.mono HB1.out.size))
    clear b2
    go_wp2_with (refine wpList_store_row rfl TTk (.tmp 4) (.tmp 25) rfl w.heap.size #[.int .i64 T.k, .string T.t, .int .i64 T.v, .int .i64 (T.a : Int)] rfl rfl _ _ HG2.out (by kernel_rfl) rfl (by simp [Value.oneCell']) ?_)
    try simp only [Exit.inBlock, Exit.then]
    exact bodyPost_ret (ret_tk Tryd.results59 _ w.heap.size T _ _ (setRow_heap _ _ _ _ _ _ HG2.out) rfl rfl) rfl ⟨rfl, below_setRow HB2.out (Nat.le_refl _) _⟩
  · have h1' : isLow c = false := by simpa using h1
    rw [h1'] at HL
    by_cases h2 : isDg c = true
    · rw [h2] at HD
      have H1 := Lib.hid h2
      clear h1 h1' h2
      go_enter Tryd.func59, Tryd.ntmps59
      go_wp2_with fail
      rw [HW.out]
      refine HL.out.mono ?_
      rintro x w' ⟨rfl, hw⟩
      obtain rfl := hw.symm
      go_wp2_with fail
      refine HD.out.mono ?_
      rintro x w' ⟨rfl, hw⟩
      obtain rfl := hw.symm
      go_wp2_with fail
      refine HSZ.out.mono ?_
      rintro x w1 ⟨rfl, b1⟩
      have hb1 := HB.out.trans (b1.mono HB.out.size)
      have hg1 := (b1.block _ (ltH HG.out)).trans HG.out
      have HN := Lib.hid (numberAt_tok rs c _ (HRL.out.trans HCR.out) H1.out hrn a w1 (HV.out.below b1 (by have := HB.out.size; omega)))
      have hnl : ((wdN rs.data.toList : Nat) : Int) ≤ (rs.size : Int) := by have := wdN_le rs.data.toList; rw [list_len] at this; omega
      rw [← HCR.out, HR.out] at HN
      obtain ⟨n, hnn⟩ : ∃ n, wdN rs.data.toList = n := ⟨_, rfl⟩
      rw [hnn] at HN hnl
      rw [hnn]
      have hnl2 : n ≤ rs.size := by omega
      have HB1 := Lib.hid hb1
      have HG1 := Lib.hid hg1
      obtain ⟨T, e⟩ := R
      clear hb1 hg1 b1 hnn
      go_wp2_with fail
      refine HN.out.mono ?_
      rintro x w2 ⟨rfl, b2⟩
      have HG2 := Lib.hid ((b2.block _ (ltH HG1.out)).trans HG1.out)
      have HB2 := Lib.hid (HB1.out.trans (b2.mono HB1.out.size))
      clear b2
      go_wp2_with (refine wpList_store_row rfl TTk (.tmp 4) (.tmp 36) rfl w.heap.size #[.int .i64 T.k, .string T.t, .int .i64 T.v, .int .i64 (T.a : Int)] rfl rfl _ _ HG2.out (by kernel_rfl) rfl (by simp [Value.oneCell']) ?_)
      try simp only [Exit.inBlock, Exit.then]
      exact bodyPost_ret (ret_tk Tryd.results59 _ w.heap.size T _ _ (setRow_heap _ _ _ _ _ _ HG2.out) rfl rfl) rfl ⟨rfl, below_setRow HB2.out (Nat.le_refl _) _⟩
    · have h2' : isDg c = false := by simpa using h2
      rw [h2'] at HD
      have HT := Lib.hid (tokR_sign (c := c) (r := s.data.toList.drop (a + 1)) h1' h2' a)
      clear h1 h1' h2 h2'
      have hix := Lib.hid sg_index
      have HP := Lib.hid (fun p W => hasPrefix_any rs p W)
      go_enter Tryd.func59, Tryd.ntmps59
      go_wp2_with fail
      rw [HW.out]
      refine HL.out.mono ?_
      rintro x w' ⟨rfl, hw⟩
      obtain rfl := hw.symm
      go_wp2_with fail
      refine HD.out.mono ?_
      rintro x w' ⟨rfl, hw⟩
      obtain rfl := hw.symm
      go_wp2_with (refine wpList_load_row rfl TSg (.global 0) rfl 0 rfl sty sgVs sfz (.array 21 9) HSG.out Tryd.underlying106 rfl (by kernel_rfl) ?_)
      go_loopw [39] (fun u39 w' => ∃ i : Nat, w' = W ∧ u39 = .int .i64 (i : Int) ∧ i ≤ 21 ∧ Hid (sgN rs.data.toList = sgF (signL.drop i) rs.data.toList)) (fun u39 _ => 21 - (intOf u39).toNat)
      case atStart => exact ⟨0, rfl, rfl, Nat.zero_le _, Lib.hid rfl⟩
      case round =>
        obtain ⟨i, rfl, rfl, hi, HE⟩ := hrel
        by_cases h : i < 21
        · have k1 : (i : Int) < 21 := by omega
          have hxi := hix.out i h wr
          obtain ⟨x, hx⟩ : ∃ x, signL[i]?.getD [] = x := ⟨_, rfl⟩
          have hxd := sgL_drop h
          rw [hx] at hxi hxd
          have HXD := Lib.hid hxd
          have hx0 := sgL_pos h
          rw [hx] at hx0
          have HX0 := Lib.hid hx0
          have hp := HP.out (bB x) wr
          rw [bB_list] at hp
          obtain ⟨y, hy⟩ : ∃ y, bB x = y := ⟨_, rfl⟩
          have HY := Lib.hid hy
          rw [hy] at hp hxi
          clear hx hxd hx0 hy
          cases hpp : Lib.hasPrefix rs.data.toList x with
          | true =>
            rw [hpp] at hp
            have HP1 := Lib.hid hp
            have HHit := Lib.hid (sgF_hit (ss := signL.drop (i + 1)) hpp)
            have HRE : Hid (R = (⟨3, y, 0, a⟩, 0)) := Lib.hid (by
              have e1 : sgN rs.data.toList = x.length := by rw [HE.out, HXD.out]; exact HHit.out.1
              have e2 := HT.out
              rw [← HCR.out, HR.out, ← HRL.out, e1, if_neg HX0.out, HHit.out.2, HY.out] at e2
              exact e2)
            clear hpp hp
            go_wp2_with (first | (refine HP1.out.mono ?_; rintro x w' ⟨rfl, rfl⟩) | (refine wpList_store_row rfl TTk (.tmp 4) (.tmp 47) rfl w.heap.size #[.int .i64 3, .string y, .int .i64 0, .int .i64 (a : Int)] rfl rfl _ _ HG.out (by kernel_rfl) rfl (by simp [Value.oneCell']) ?_))
            try simp only [Exit.inBlock, Exit.then]
            exact bodyPost_ret (ret_tk Tryd.results59 _ w.heap.size ⟨3, y, 0, a⟩ _ _ (setRow_heap _ _ _ _ _ _ HG.out) rfl rfl) rfl ⟨by rw [HRE.out]; rfl, below_setRow HB.out (Nat.le_refl _) _⟩
          | false =>
            rw [hpp] at hp
            have HP1 := Lib.hid hp
            have HMiss := Lib.hid (sgF_miss (ss := signL.drop (i + 1)) hpp)
            clear hpp hp
            go_wp2_with (refine HP1.out.mono ?_; rintro x w' ⟨rfl, rfl⟩)
            go_roundw
            case rel => exact ⟨i + 1, by first | trivial | rfl, by first | rfl | (congr 1), by omega, Lib.hid (by rw [HE.out, HXD.out]; exact HMiss.out)⟩
            case measure => simp [intOf]; omega
        · obtain rfl : i = 21 := by omega
          have HRE : Hid (R = (zTk, 3)) := Lib.hid (by
            have e1 : sgN rs.data.toList = 0 := HE.out
            have e2 := HT.out
            rw [← HCR.out, HR.out, ← HRL.out, e1, if_pos rfl] at e2
            exact e2)
          go_wp2_with (refine wpList_store_row rfl TTk (.tmp 4) (.tmp 49) rfl w.heap.size #[.int .i64 0, .string ⟨#[]⟩, .int .i64 0, .int .i64 0] rfl rfl _ _ HG.out (by kernel_rfl) rfl (by simp [Value.oneCell']) ?_)
          try simp only [Exit.inBlock, Exit.then]
          exact bodyPost_ret (ret_tk Tryd.results59 _ w.heap.size zTk _ _ (setRow_heap _ _ _ _ _ _ HG.out) rfl rfl) rfl ⟨by rw [HRE.out]; rfl, below_setRow HB.out (Nat.le_refl _) _⟩
end Go.Proofs.YtdgphhdkeikbaaaDoor
