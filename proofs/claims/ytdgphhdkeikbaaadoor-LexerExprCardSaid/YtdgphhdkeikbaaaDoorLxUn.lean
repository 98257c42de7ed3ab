/-
  The program's reader: unary, inParentheses, operand.
-/
import Derived.Test.YtdgphhdkeikbaaaDoorLxLeaf
namespace Go.Proofs.YtdgphhdkeikbaaaDoor
set_option linter.unusedSimpArgs false
set_option linter.unusedVariables false
open Go.RowKit

theorem RdI.first {w : World} {b m : Nat} {a : Option Addr} {c : Nat} {ts : List Tk} {i : Nat} (h : RdI w b m a c ts i) (hi : i < ts.length) :
    ∃ X, w.setCell ⟨b, 1, none⟩ (.int .i64 ((i : Int) + 1)) = X ∧ RdI X b m a c ts (i + 1) ∧ But b w X ∧ (i : Int) ≤ 4001 ∧ w.frozen? ⟨b, 1, none⟩ = false ∧ w.cell? ⟨b, 1, none⟩ = some (.int .i64 (i : Int)) := by
  obtain ⟨h1, h2⟩ := h.step hi (.int .i64 ((i : Int) + 1)) (by simp)
  exact ⟨_, rfl, h1, h2, by have := h.ln; omega, h.rd.fz 1, h.rd.c1⟩
theorem bad_eq (i n : Nat) : (i : Int) + 1 + (n : Int) = ((i + (n + 1) : Nat) : Int) := by omega
theorem sgT_is (l : List Tk) (x : ByteArray) (hx : x ≠ .empty) : ((sgT l).toList == x.toList) = isS (hdT l) x := by
  rw [strEq]
  unfold sgT isS
  by_cases h : (hdT l).k = 3
  · rw [if_pos h]; simp [h]
  · rw [if_neg h]; simp only [h, decide_false, Bool.false_and, decide_eq_false_iff_not]; exact fun e => hx e.symm
theorem isS_lt {ts : List Tk} {i : Nat} {x : ByteArray} (h : isS (hdT (ts.drop i)) x = true) : i < ts.length := by
  rcases Nat.lt_or_ge i ts.length with hh | hh
  · exact hh
  · rw [hdT_end hh, isS_z] at h; cases h
set_option maxRecDepth 100000 in
set_option maxHeartbeats 8000000 in
theorem unary_any (w : World) (b m : Nat) (a : Option Addr) (c : Nat) (ts : List Tk) (i : Nat) (op : Int) (r : Rs) (h : RdI w b m a c ts i) (hi : i < ts.length)
    (HC : ∀ V, RdI V b m a c ts (i + 1) → Calls Tryd.prog 67 #[.pointer (some ⟨b, 0, none⟩)] V (RdPost V b m a c ts (i + 1) r)) :
    Calls Tryd.prog 91 #[.pointer (some ⟨b, 0, none⟩), .int .i64 op] w (RdPost w b m a c ts i (r.un op)) := by
  obtain ⟨W, hW⟩ : ∃ W, w.alloc (.cells #[.int .i64 0, .int .i64 0, .string ⟨#[]⟩, .int .i64 0, nilX] TX) = W := ⟨_, rfl⟩
  have hb : Below w.heap.size w W := by rw [← hW]; exact (Below.refl _ w).alloc (Nat.le_refl _) _
  have hg : W.heap[w.heap.size]? = some (.cells #[.int .i64 0, .int .i64 0, .string ⟨#[]⟩, .int .i64 0, nilX] TX (0, 0)) := by rw [← hW]; exact heapNew w _
  have hI := h.below hb
  obtain ⟨X, hX, hIX, hBX, hi40, hfz, hc1⟩ := hI.first hi
  have H0 := Lib.hid h
  have HG := Lib.hid (hBX.heap (k := w.heap.size) (by have := h.lt; omega) hg)
  have HB := Lib.hid ((But.of hb).trans hBX)
  have HX := Lib.hid (HC X hIX)
  have HBL := Lib.hid h.lt
  clear HC hI hIX hBX hb hg h
  go_enter Tryd.func91, Tryd.ntmps91
  go_wp2_with fail
  try rw [hW]
  go_wp2_with fail
  try rw [hX]
  clear hW hX
  refine HX.out.mono ?_
  rintro x w2 ⟨hb2, hp2⟩
  have HB2 := Lib.hid (HB.out.trans hb2)
  have HG2 := Lib.hid (hb2.heap (k := w.heap.size) (by have := HBL.out; omega) HG.out)
  have HS2 := Lib.hid hb2.size
  have HGL := Lib.hid (ltH HG.out)
  clear hb2
  cases r with
  | out => exact hp2.elim
  | bad n =>
    subst hp2
    go_wp2
    exact ⟨rfl, HB2.out, by rw [bad_eq]; rfl⟩
  | ok e n =>
    obtain ⟨sa, sn, sc, rfl, hk, hr⟩ := hp2
    have HK := Lib.hid hk
    have HR := Lib.hid hr
    obtain ⟨k, o, s, v, es⟩ := e
    simp only [exV, Ex.k, Ex.o, Ex.s, Ex.v]
    clear hk hr
    obtain ⟨W3, hW3⟩ : ∃ V, w2.alloc (.cells #[.int .i64 k, .int .i64 o, .string s, .int .i64 v, .slice sa sn sc] TX) = V := ⟨_, rfl⟩
    have hb3 : Below w2.heap.size w2 W3 := by rw [← hW3]; exact (Below.refl _ _).alloc (Nat.le_refl _) _
    have hE : W3.heap[w2.heap.size]? = some (.cells #[.int .i64 k, .int .i64 o, .string s, .int .i64 v, .slice sa sn sc] TX (0, 0)) := by rw [← hW3]; exact heapNew _ _
    have HG3 := Lib.hid ((hb3.block _ (ltH HG2.out)).trans HG2.out)
    have HB3 := Lib.hid (HB2.out.trans (But.of hb3))
    have HR3 := Lib.hid (HR.out.below hb3)
    have HK3 := Lib.hid (kaMono (KA.carry HK.out hb3) (show w.heap.size + 1 ≤ X.heap.size from HGL.out))
    have HA3 := Lib.hid (ka_one (B := w.heap.size + 1) (x := .mk k o s v es) (by have := HGL.out; have := HS2.out; omega) HK3.out hE)
    have HW3 := Lib.hid hW3
    clear hb3 hE hW3
    go_wp2_with (first | (rw [HW3.out]; refine wpList_store_row rfl TX (.tmp 4) (.tmp 16) rfl w.heap.size #[.int .i64 3, .int .i64 op, .string ⟨#[]⟩, .int .i64 0, .slice (some ⟨w2.heap.size, 0, none⟩) 1 1] rfl rfl _ _ HG3.out (by kernel_rfl) rfl (by simp [Value.oneCell']) ?_))
    try simp only [Exit.inBlock, Exit.then]
    have hgf := setRow_heap W3 w.heap.size _ #[.int .i64 3, .int .i64 op, .string ⟨#[]⟩, .int .i64 0, .slice (some ⟨w2.heap.size, 0, none⟩) 1 1] _ _ HG3.out
    have hlast := H0.out.last HB3.out HR3.out (Nat.le_refl _) #[.int .i64 3, .int .i64 op, .string ⟨#[]⟩, .int .i64 0, .slice (some ⟨w2.heap.size, 0, none⟩) 1 1]
    have hka := kaMono (kaRow HA3.out (Nat.lt_succ_self w.heap.size) #[.int .i64 3, .int .i64 op, .string ⟨#[]⟩, .int .i64 0, .slice (some ⟨w2.heap.size, 0, none⟩) 1 1]) (Nat.le_succ w.heap.size)
    refine bodyPost_ret (v := exV (umX op (.mk k o s v es)) (.slice (some ⟨w2.heap.size, 0, none⟩) 1 1)) ?_ rfl ?_
    · exact ret_x1 Tryd.results91 _ w.heap.size (umX op (.mk k o s v es)) _ _ hgf rfl
    · exact ⟨HB3.out.row (Nat.le_refl _) _, _, _, _, rfl, hka, by rw [show i + (n + 1) = i + 1 + n by omega]; exact hlast⟩
def parR (l : List Tk) (r : Rs) : Rs := (r.up 1).thenLop fun e n => if isS (hdT (l.drop n)) ⟨#[41]⟩ = true then .ok e (n + 1) else .bad n
set_option maxRecDepth 100000 in
set_option maxHeartbeats 8000000 in
theorem paren_any (w : World) (b m : Nat) (a : Option Addr) (c : Nat) (ts : List Tk) (i : Nat) (r : Rs) (h : RdI w b m a c ts i) (hi : i < ts.length)
    (HC : ∀ V, RdI V b m a c ts (i + 1) → Calls Tryd.prog 49 #[.pointer (some ⟨b, 0, none⟩), .int .i64 1] V (RdPost V b m a c ts (i + 1) r)) :
    Calls Tryd.prog 92 #[.pointer (some ⟨b, 0, none⟩)] w (RdPost w b m a c ts i (parR (ts.drop i) r)) := by
  obtain ⟨W, hW⟩ : ∃ W, w.alloc (.cells #[.int .i64 0, .int .i64 0, .string ⟨#[]⟩, .int .i64 0, nilX] TX) = W := ⟨_, rfl⟩
  have hb : Below w.heap.size w W := by rw [← hW]; exact (Below.refl _ w).alloc (Nat.le_refl _) _
  have hg : W.heap[w.heap.size]? = some (.cells #[.int .i64 0, .int .i64 0, .string ⟨#[]⟩, .int .i64 0, nilX] TX (0, 0)) := by rw [← hW]; exact heapNew w _
  have hI := h.below hb
  obtain ⟨X, hX, hIX, hBX, hi40, hfz, hc1⟩ := hI.first hi
  have H0 := Lib.hid h
  have HG := Lib.hid (hBX.heap (k := w.heap.size) (by have := h.lt; omega) hg)
  have HB := Lib.hid ((But.of hb).trans hBX)
  have HX := Lib.hid (HC X hIX)
  have HBL := Lib.hid h.lt
  clear HC hI hIX hBX hb hg h
  go_enter Tryd.func92, Tryd.ntmps92
  go_wp2_with fail
  try rw [hW]
  go_wp2_with fail
  try rw [hX]
  clear hW hX
  refine HX.out.mono ?_
  rintro x w2 ⟨hb2, hp2⟩
  have HB2 := Lib.hid (HB.out.trans hb2)
  have HG2 := Lib.hid (hb2.heap (k := w.heap.size) (by have := HBL.out; omega) HG.out)
  have HS2 := Lib.hid hb2.size
  have HGL := Lib.hid (ltH HG.out)
  clear hb2 hfz hc1 hi40
  cases r with
  | out => exact hp2.elim
  | bad n =>
    subst hp2
    go_wp2
    exact ⟨rfl, HB2.out, by rw [bad_eq]; rfl⟩
  | ok e n =>
    obtain ⟨sa, sn, sc, rfl, hk, hr⟩ := hp2
    obtain ⟨k, o, s, v, es⟩ := e
    obtain ⟨j, hj⟩ : ∃ j, i + 1 + n = j := ⟨_, rfl⟩
    rw [hj] at hr
    have HJ := Lib.hid hj
    simp only [exV, Ex.k, Ex.o, Ex.s, Ex.v]
    obtain ⟨W3, hW3⟩ : ∃ V, w2.alloc (.cells #[.int .i64 k, .int .i64 o, .string s, .int .i64 v, .slice sa sn sc] TX) = V := ⟨_, rfl⟩
    have hb3 : Below w2.heap.size w2 W3 := by rw [← hW3]; exact (Below.refl _ _).alloc (Nat.le_refl _) _
    have hE : W3.heap[w2.heap.size]? = some (.cells #[.int .i64 k, .int .i64 o, .string s, .int .i64 v, .slice sa sn sc] TX (0, 0)) := by rw [← hW3]; exact heapNew _ _
    have HG3 := Lib.hid ((hb3.block _ (ltH HG2.out)).trans HG2.out)
    have HB3 := Lib.hid (HB2.out.trans (But.of hb3))
    have HR3 := Lib.hid (hr.below hb3)
    have HK3 := Lib.hid (kaMono (KA.carry hk hb3) (show w.heap.size + 1 ≤ X.heap.size from HGL.out))
    have HE3 := Lib.hid hE
    have hgl : w.heap.size < w2.heap.size := ltH HG2.out
    have HSG := Lib.hid (sign_any b j m a c ts W3 HR3.out.rd (HR3.out.tk.keep (Nat.le_refl _) (fun _ _ _ => ⟨trivial, rfl⟩)) HR3.out.il HR3.out.ln HR3.out.lc)
    obtain ⟨S, hS⟩ : ∃ S, sgT (ts.drop j) = S := ⟨_, rfl⟩
    have hq : (S.toList == [41]) = isS (hdT (ts.drop j)) ⟨#[41]⟩ := by
      rw [← hS]
      have := sgT_is (ts.drop j) ⟨#[41]⟩ (by decide)
      rw [show (⟨#[41]⟩ : ByteArray).toList = [41] from by rw [ByteArray.toList_eq]] at this
      exact this
    have hdd : (ts.drop i).drop (n + 1) = ts.drop j := by rw [List.drop_drop, ← hj]; congr 1; omega
    clear hj
    rw [hS] at HSG
    clear hb3 hE hk hr hS
    cases hQ : isS (hdT (ts.drop j)) ⟨#[41]⟩ with
    | false =>
      have HE : Hid (parR (ts.drop i) (.ok (.mk k o s v es) n) = .bad (n + 1)) := Lib.hid (by
        unfold parR; simp only [Rs.up, Rs.thenLop]; rw [hdd, hQ]; rfl)
      have k1 : (S.toList == [41]) = false := hq.trans hQ
      have k2 : (S.toList != [41]) = true := by simp only [bne, k1]; rfl
      have HGU := Lib.hid (fun V hh => giveUp_any b j m (.slice a ts.length c) V hh)
      clear hq hQ hdd
      go_wp2_with fail
      try rw [hW3]
      clear hW3
      refine HSG.out.mono ?_
      rintro x w4 ⟨rfl, b4⟩
      have HR4 := Lib.hid (HR3.out.below b4)
      have HB4 := Lib.hid (HB3.out.trans (But.of b4))
      clear b4
      go_wp2_with fail
      refine (HGU.out w4 HR4.out.rd).mono ?_
      rintro x w5 ⟨rfl, rfl⟩
      go_wp2
      exact ⟨rfl, HB4.out, by rw [HE.out]; simp only [RdPost]; rw [show i + (n + 1) = j by have := HJ.out; omega]⟩
    | true =>
      have HE : Hid (parR (ts.drop i) (.ok (.mk k o s v es) n) = .ok (.mk k o s v es) (n + 2)) := Lib.hid (by
        unfold parR; simp only [Rs.up, Rs.thenLop]; rw [hdd, hQ]; rfl)
      have k1 : (S.toList == [41]) = true := hq.trans hQ
      have k2 : (S.toList != [41]) = false := by simp only [bne, k1]; rfl
      have HLT := Lib.hid (isS_lt hQ)
      clear hq hQ hdd
      go_wp2_with fail
      try rw [hW3]
      clear hW3
      refine HSG.out.mono ?_
      rintro x w4 ⟨rfl, b4⟩
      have HR4 := Lib.hid (HR3.out.below b4)
      have HB4 := Lib.hid (HB3.out.trans (But.of b4))
      have HG4 := Lib.hid ((b4.block _ (ltH HG3.out)).trans HG3.out)
      have HE4 := Lib.hid ((b4.block _ (ltH HE3.out)).trans HE3.out)
      have HK4 := Lib.hid (KA.carry HK3.out b4)
      clear b4
      obtain ⟨Y, hY, hIY, hBY, hi41, hfz, hc1⟩ := HR4.out.first HLT.out
      have hEY := hBY.heap (k := w2.heap.size) (by have := HBL.out; omega) HE4.out
      obtain ⟨d0, d1, d2, d3, d4⟩ := cells5 hEY
      have HGY := Lib.hid (hBY.heap (k := w.heap.size) (by have := HBL.out; omega) HG4.out)
      have HBY := Lib.hid (HB4.out.trans hBY)
      have HIY := Lib.hid hIY
      have HKY := Lib.hid (kaBut HK4.out hBY (by have := HBL.out; omega))
      clear hIY hBY hEY
      go_wp2_with (refine wpList_store_row rfl TX (.tmp 2) (.tmp 25) rfl w.heap.size #[.int .i64 k, .int .i64 o, .string s, .int .i64 v, .slice sa sn sc] rfl rfl _ _ HGY.out (by kernel_rfl) rfl (by simp [Value.oneCell']) ?_)
      try simp only [Exit.inBlock, Exit.then]
      have hgf := setRow_heap Y w.heap.size _ #[.int .i64 k, .int .i64 o, .string s, .int .i64 v, .slice sa sn sc] _ _ HGY.out
      have hlast := H0.out.last HBY.out HIY.out (Nat.le_refl _) #[.int .i64 k, .int .i64 o, .string s, .int .i64 v, .slice sa sn sc]
      have hka := kaMono (kaRow HKY.out (Nat.lt_succ_self w.heap.size) #[.int .i64 k, .int .i64 o, .string s, .int .i64 v, .slice sa sn sc]) (Nat.le_succ w.heap.size)
      refine bodyPost_ret (v := exV (.mk k o s v es) (.slice sa sn sc)) ?_ rfl ?_
      · exact ret_x1 Tryd.results92 _ w.heap.size (.mk k o s v es) _ _ hgf rfl
      · rw [HE.out]
        exact ⟨HBY.out.row (Nat.le_refl _) _, _, _, _, rfl, hka, by rw [show i + (n + 2) = j + 1 by have := HJ.out; omega]; exact hlast⟩
end Go.Proofs.YtdgphhdkeikbaaaDoor
