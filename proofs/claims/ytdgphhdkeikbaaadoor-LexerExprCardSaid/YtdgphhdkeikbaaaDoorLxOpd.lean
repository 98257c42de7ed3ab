/-
  The program's reader: operand.
-/
import Derived.Test.YtdgphhdkeikbaaaDoorLxUn
namespace Go.Proofs.YtdgphhdkeikbaaaDoor
set_option linter.unusedSimpArgs false
set_option linter.unusedVariables false
open Go.RowKit

def OpdC (f : Nat) : Prop := ∀ (w : World) (b m : Nat) (a : Option Addr) (c : Nat) (ts : List Tk) (i : Nat), RdI w b m a c ts i → ps f .opd (ts.drop i) ≠ .out →
  Calls Tryd.prog 67 #[.pointer (some ⟨b, 0, none⟩)] w (RdPost w b m a c ts i (ps f .opd (ts.drop i)))
def ExpC (f : Nat) : Prop := ∀ (p : Nat) (w : World) (b m : Nat) (a : Option Addr) (c : Nat) (ts : List Tk) (i : Nat), 1 ≤ p → p ≤ 6 → RdI w b m a c ts i → ps f (.exp p) (ts.drop i) ≠ .out →
  Calls Tryd.prog 49 #[.pointer (some ⟨b, 0, none⟩), .int .i64 (p : Int)] w (RdPost w b m a c ts i (ps f (.exp p) (ts.drop i)))
theorem leafT_sg {t : Tk} {x : ByteArray} (h : isS t x = true) : leafT t = none := by
  have h3 : t.k = 3 := by unfold isS at h; simp only [Bool.and_eq_true, decide_eq_true_eq] at h; exact h.1
  unfold leafT
  rw [if_neg (by rw [h3]; decide), if_neg (by rw [h3]; decide)]
theorem drop1 (ts : List Tk) (i : Nat) : (ts.drop i).drop 1 = ts.drop (i + 1) := by rw [List.drop_drop]
theorem thenLop_out {g : Ex → Nat → Rs} {r : Rs} (h : r.thenLop g ≠ .out) : r ≠ .out := by
  intro e; subst e; exact h rfl
set_option maxRecDepth 100000 in
set_option maxHeartbeats 8000000 in
theorem operand_any (f : Nat) (hO : OpdC f) (hE : ExpC f) : OpdC (f + 1) := by
  intro w b m a c ts i h hne
  obtain ⟨W, hW⟩ : ∃ W, w.alloc (.cells #[.int .i64 0, .int .i64 0, .string ⟨#[]⟩, .int .i64 0, nilX] TX) = W := ⟨_, rfl⟩
  have hb : Below w.heap.size w W := by rw [← hW]; exact (Below.refl _ w).alloc (Nat.le_refl _) _
  have hg : W.heap[w.heap.size]? = some (.cells #[.int .i64 0, .int .i64 0, .string ⟨#[]⟩, .int .i64 0, nilX] TX (0, 0)) := by rw [← hW]; exact heapNew w _
  have hI := h.below hb
  have H0 := Lib.hid h
  have HG := Lib.hid hg
  have HB := Lib.hid hb
  have HBL := Lib.hid h.lt
  have HSG := Lib.hid (sign_any b i m a c ts W hI.rd (hI.tk.keep (Nat.le_refl _) (fun _ _ _ => ⟨trivial, rfl⟩)) hI.il hI.ln hI.lc)
  have HI := Lib.hid hI
  obtain ⟨S, hS⟩ : ∃ S, sgT (ts.drop i) = S := ⟨_, rfl⟩
  have key : ∀ x : UInt8, (S.toList == [x]) = isS (hdT (ts.drop i)) ⟨#[x]⟩ := fun x => by
    rw [← hS]
    have := sgT_is (ts.drop i) ⟨#[x]⟩ (by intro e; cases e)
    rw [show (⟨#[x]⟩ : ByteArray).toList = [x] from by rw [ByteArray.toList_eq]] at this
    exact this
  rw [hS] at HSG
  obtain ⟨R, hR⟩ : ∃ R, ps (f + 1) .opd (ts.drop i) = R := ⟨_, rfl⟩
  rw [hR] at hne ⊢
  have HR := Lib.hid hR
  have HO := Lib.hid hO
  have HEX := Lib.hid hE
  have HNE := Lib.hid hne
  clear hI hb hg h hS hR hO hE hne
  cases h45 : isS (hdT (ts.drop i)) ⟨#[45]⟩ with
  | true =>
    have k45 : (S.toList == [45]) = true := (key 45).trans h45
    have HLT := Lib.hid (isS_lt h45)
    have hrr : R = (ps f .opd (ts.drop (i + 1))).un 1 := by
      rw [← HR.out, ps, leafT_sg h45, ← drop1 ts i]
      simp only [h45, if_true, Bool.false_eq_true, if_false]
    have hno : ps f .opd (ts.drop (i + 1)) ≠ .out := fun e => HNE.out (by rw [hrr, e]; rfl)
    have HRE := Lib.hid hrr
    have HNO := Lib.hid hno
    clear key h45 hrr hno
    go_enter Tryd.func67, Tryd.ntmps67
    go_wp2_with fail
    try rw [hW]
    clear hW
    refine HSG.out.mono ?_
    rintro x w1 ⟨rfl, b1⟩
    have hc := unary_any w1 b m a c ts i 1 _ (HI.out.below b1) HLT.out (fun V hV => HO.out V b m a c ts (i + 1) hV HNO.out)
    rw [← HRE.out] at hc
    have HC := Lib.hid hc
    clear hc
    go_wp2_with fail
    refine HC.out.mono ?_
    rintro x w2 hp
    have HB2 := Lib.hid ((But.of HB.out).trans ((But.of b1).trans hp.1))
    have HG2 := Lib.hid (hp.1.heap (k := w.heap.size) (by have := HBL.out; omega) ((b1.block _ (ltH HG.out)).trans HG.out))
    have HGL := Lib.hid (Nat.lt_of_lt_of_le (ltH HG.out) b1.size)
    have hp2 := hp.2
    clear b1 hp
    cases R with
    | out => exact hp2.elim
    | bad n =>
      subst hp2
      go_wp2
      exact ⟨rfl, HB2.out, by first | rfl | (simp only []; rfl)⟩
    | ok e n =>
      obtain ⟨sa, sn, sc, rfl, hk, hr⟩ := hp2
      have HK := Lib.hid (kaMono hk (show w.heap.size + 1 ≤ w1.heap.size from HGL.out))
      have HRR := Lib.hid hr
      obtain ⟨k, o, s, v, es⟩ := e
      simp only [exV, Ex.k, Ex.o, Ex.s, Ex.v]
      clear hk hr
      go_wp2_with (refine wpList_store_row rfl TX (.tmp 2) (.tmp 8) rfl w.heap.size #[.int .i64 k, .int .i64 o, .string s, .int .i64 v, .slice sa sn sc] rfl rfl _ _ HG2.out (by kernel_rfl) rfl (by simp [Value.oneCell']) ?_)
      try simp only [Exit.inBlock, Exit.then]
      have hgf := setRow_heap w2 w.heap.size _ #[.int .i64 k, .int .i64 o, .string s, .int .i64 v, .slice sa sn sc] _ _ HG2.out
      have hlast := H0.out.last HB2.out HRR.out (Nat.le_refl _) #[.int .i64 k, .int .i64 o, .string s, .int .i64 v, .slice sa sn sc]
      have hka := kaMono (kaRow HK.out (Nat.lt_succ_self w.heap.size) #[.int .i64 k, .int .i64 o, .string s, .int .i64 v, .slice sa sn sc]) (Nat.le_succ w.heap.size)
      refine bodyPost_ret (v := exV (.mk k o s v es) (.slice sa sn sc)) ?_ rfl ?_
      · exact ret_x1 Tryd.results67 _ w.heap.size (.mk k o s v es) _ _ hgf rfl
      · exact ⟨HB2.out.row (Nat.le_refl _) _, _, _, _, rfl, hka, hlast⟩
  | false =>
    have k45 : (S.toList == [45]) = false := (key 45).trans h45
    cases h33 : isS (hdT (ts.drop i)) ⟨#[33]⟩ with
    | true =>
      have k33 : (S.toList == [33]) = true := (key 33).trans h33
      have HLT := Lib.hid (isS_lt h33)
      have hrr : R = (ps f .opd (ts.drop (i + 1))).un 2 := by
        rw [← HR.out, ps, leafT_sg h33, ← drop1 ts i]
        simp only [h45, h33, if_true, Bool.false_eq_true, if_false]
      have hno : ps f .opd (ts.drop (i + 1)) ≠ .out := fun e => HNE.out (by rw [hrr, e]; rfl)
      have HRE := Lib.hid hrr
      have HNO := Lib.hid hno
      clear key h33 hrr hno
      go_enter Tryd.func67, Tryd.ntmps67
      go_wp2_with fail
      try rw [hW]
      clear hW
      refine HSG.out.mono ?_
      rintro x w1 ⟨rfl, b1⟩
      have hc := unary_any w1 b m a c ts i 2 _ (HI.out.below b1) HLT.out (fun V hV => HO.out V b m a c ts (i + 1) hV HNO.out)
      rw [← HRE.out] at hc
      have HC := Lib.hid hc
      clear hc
      go_wp2_with fail
      refine HC.out.mono ?_
      rintro x w2 hp
      have HB2 := Lib.hid ((But.of HB.out).trans ((But.of b1).trans hp.1))
      have HG2 := Lib.hid (hp.1.heap (k := w.heap.size) (by have := HBL.out; omega) ((b1.block _ (ltH HG.out)).trans HG.out))
      have HGL := Lib.hid (Nat.lt_of_lt_of_le (ltH HG.out) b1.size)
      have hp2 := hp.2
      clear b1 hp
      cases R with
      | out => exact hp2.elim
      | bad n =>
        subst hp2
        go_wp2
        exact ⟨rfl, HB2.out, by first | rfl | (simp only []; rfl)⟩
      | ok e n =>
        obtain ⟨sa, sn, sc, rfl, hk, hr⟩ := hp2
        have HK := Lib.hid (kaMono hk (show w.heap.size + 1 ≤ w1.heap.size from HGL.out))
        have HRR := Lib.hid hr
        obtain ⟨k, o, s, v, es⟩ := e
        simp only [exV, Ex.k, Ex.o, Ex.s, Ex.v]
        clear hk hr
        go_wp2_with (refine wpList_store_row rfl TX (.tmp 2) (.tmp 12) rfl w.heap.size #[.int .i64 k, .int .i64 o, .string s, .int .i64 v, .slice sa sn sc] rfl rfl _ _ HG2.out (by kernel_rfl) rfl (by simp [Value.oneCell']) ?_)
        try simp only [Exit.inBlock, Exit.then]
        have hgf := setRow_heap w2 w.heap.size _ #[.int .i64 k, .int .i64 o, .string s, .int .i64 v, .slice sa sn sc] _ _ HG2.out
        have hlast := H0.out.last HB2.out HRR.out (Nat.le_refl _) #[.int .i64 k, .int .i64 o, .string s, .int .i64 v, .slice sa sn sc]
        have hka := kaMono (kaRow HK.out (Nat.lt_succ_self w.heap.size) #[.int .i64 k, .int .i64 o, .string s, .int .i64 v, .slice sa sn sc]) (Nat.le_succ w.heap.size)
        refine bodyPost_ret (v := exV (.mk k o s v es) (.slice sa sn sc)) ?_ rfl ?_
        · exact ret_x1 Tryd.results67 _ w.heap.size (.mk k o s v es) _ _ hgf rfl
        · exact ⟨HB2.out.row (Nat.le_refl _) _, _, _, _, rfl, hka, hlast⟩
    | false =>
      have k33 : (S.toList == [33]) = false := (key 33).trans h33
      cases h40 : isS (hdT (ts.drop i)) ⟨#[40]⟩ with
      | true =>
        have k40 : (S.toList == [40]) = true := (key 40).trans h40
        have HLT := Lib.hid (isS_lt h40)
        have hrr : R = parR (ts.drop i) (ps f (.exp 1) (ts.drop (i + 1))) := by
          rw [← HR.out, ps, leafT_sg h40, ← drop1 ts i]
          simp only [h45, h33, h40, if_true, Bool.false_eq_true, if_false]
          rfl
        have hno : ps f (.exp 1) (ts.drop (i + 1)) ≠ .out := fun e => HNE.out (by rw [hrr, e]; rfl)
        have HRE := Lib.hid hrr
        have HNO := Lib.hid hno
        clear key h40 h33 h45 hrr hno
        go_enter Tryd.func67, Tryd.ntmps67
        go_wp2_with fail
        try rw [hW]
        clear hW
        refine HSG.out.mono ?_
        rintro x w1 ⟨rfl, b1⟩
        have hc := paren_any w1 b m a c ts i _ (HI.out.below b1) HLT.out (fun V hV => HEX.out 1 V b m a c ts (i + 1) (by decide) (by decide) hV HNO.out)
        rw [← HRE.out] at hc
        have HC := Lib.hid hc
        clear hc
        go_wp2_with fail
        refine HC.out.mono ?_
        rintro x w2 hp
        have HB2 := Lib.hid ((But.of HB.out).trans ((But.of b1).trans hp.1))
        have HG2 := Lib.hid (hp.1.heap (k := w.heap.size) (by have := HBL.out; omega) ((b1.block _ (ltH HG.out)).trans HG.out))
        have HGL := Lib.hid (Nat.lt_of_lt_of_le (ltH HG.out) b1.size)
        have hp2 := hp.2
        clear b1 hp
        cases R with
        | out => exact hp2.elim
        | bad n =>
          subst hp2
          go_wp2
          exact ⟨rfl, HB2.out, by first | rfl | (simp only []; rfl)⟩
        | ok e n =>
          obtain ⟨sa, sn, sc, rfl, hk, hr⟩ := hp2
          have HK := Lib.hid (kaMono hk (show w.heap.size + 1 ≤ w1.heap.size from HGL.out))
          have HRR := Lib.hid hr
          obtain ⟨k, o, s, v, es⟩ := e
          simp only [exV, Ex.k, Ex.o, Ex.s, Ex.v]
          clear hk hr
          go_wp2_with (refine wpList_store_row rfl TX (.tmp 2) (.tmp 16) rfl w.heap.size #[.int .i64 k, .int .i64 o, .string s, .int .i64 v, .slice sa sn sc] rfl rfl _ _ HG2.out (by kernel_rfl) rfl (by simp [Value.oneCell']) ?_)
          try simp only [Exit.inBlock, Exit.then]
          have hgf := setRow_heap w2 w.heap.size _ #[.int .i64 k, .int .i64 o, .string s, .int .i64 v, .slice sa sn sc] _ _ HG2.out
          have hlast := H0.out.last HB2.out HRR.out (Nat.le_refl _) #[.int .i64 k, .int .i64 o, .string s, .int .i64 v, .slice sa sn sc]
          have hka := kaMono (kaRow HK.out (Nat.lt_succ_self w.heap.size) #[.int .i64 k, .int .i64 o, .string s, .int .i64 v, .slice sa sn sc]) (Nat.le_succ w.heap.size)
          refine bodyPost_ret (v := exV (.mk k o s v es) (.slice sa sn sc)) ?_ rfl ?_
          · exact ret_x1 Tryd.results67 _ w.heap.size (.mk k o s v es) _ _ hgf rfl
          · exact ⟨HB2.out.row (Nat.le_refl _) _, _, _, _, rfl, hka, hlast⟩
      | false =>
        have k40 : (S.toList == [40]) = false := (key 40).trans h40
        have hrr : R = leafR (ts.drop i) := by
          rw [← HR.out, ps]
          unfold leafR
          cases hl : leafT (hdT (ts.drop i)) with
          | some e => rfl
          | none => simp only [h45, h33, h40, if_true, Bool.false_eq_true, if_false]
        have HRE := Lib.hid hrr
        clear key h40 h33 h45 hrr
        go_enter Tryd.func67, Tryd.ntmps67
        go_wp2_with fail
        try rw [hW]
        clear hW
        refine HSG.out.mono ?_
        rintro x w1 ⟨rfl, b1⟩
        have hc := leaf_any w1 b m a c ts i (HI.out.below b1)
        rw [← HRE.out] at hc
        have HC := Lib.hid hc
        clear hc
        go_wp2_with fail
        refine HC.out.mono ?_
        rintro x w2 hp
        have HB2 := Lib.hid ((But.of HB.out).trans ((But.of b1).trans hp.1))
        have HG2 := Lib.hid (hp.1.heap (k := w.heap.size) (by have := HBL.out; omega) ((b1.block _ (ltH HG.out)).trans HG.out))
        have HGL := Lib.hid (Nat.lt_of_lt_of_le (ltH HG.out) b1.size)
        have hp2 := hp.2
        clear b1 hp
        cases R with
        | out => exact hp2.elim
        | bad n =>
          subst hp2
          go_wp2
          exact ⟨rfl, HB2.out, by first | rfl | (simp only []; rfl)⟩
        | ok e n =>
          obtain ⟨sa, sn, sc, rfl, hk, hr⟩ := hp2
          have HK := Lib.hid (kaMono hk (show w.heap.size + 1 ≤ w1.heap.size from HGL.out))
          have HRR := Lib.hid hr
          obtain ⟨k, o, s, v, es⟩ := e
          simp only [exV, Ex.k, Ex.o, Ex.s, Ex.v]
          clear hk hr
          go_wp2_with (refine wpList_store_row rfl TX (.tmp 2) (.tmp 18) rfl w.heap.size #[.int .i64 k, .int .i64 o, .string s, .int .i64 v, .slice sa sn sc] rfl rfl _ _ HG2.out (by kernel_rfl) rfl (by simp [Value.oneCell']) ?_)
          try simp only [Exit.inBlock, Exit.then]
          have hgf := setRow_heap w2 w.heap.size _ #[.int .i64 k, .int .i64 o, .string s, .int .i64 v, .slice sa sn sc] _ _ HG2.out
          have hlast := H0.out.last HB2.out HRR.out (Nat.le_refl _) #[.int .i64 k, .int .i64 o, .string s, .int .i64 v, .slice sa sn sc]
          have hka := kaMono (kaRow HK.out (Nat.lt_succ_self w.heap.size) #[.int .i64 k, .int .i64 o, .string s, .int .i64 v, .slice sa sn sc]) (Nat.le_succ w.heap.size)
          refine bodyPost_ret (v := exV (.mk k o s v es) (.slice sa sn sc)) ?_ rfl ?_
          · exact ret_x1 Tryd.results67 _ w.heap.size (.mk k o s v es) _ _ hgf rfl
          · exact ⟨HB2.out.row (Nat.le_refl _) _, _, _, _, rfl, hka, hlast⟩
end Go.Proofs.YtdgphhdkeikbaaaDoor
