/-
  The reference's operand and expression.
-/
import Derived.Test.YtdgphhdkeikbaaaDoorLxRef7
import Derived.Test.YtdgphhdkeikbaaaDoorLxParse
namespace Go.Proofs.YtdgphhdkeikbaaaDoor
set_option linter.unusedSimpArgs false
set_option linter.unusedVariables false
open Go.RowKit

/-- What operand and expression of the reference return. -/
def RxP (w : World) (k : Nat) (r : Rs) (x : Ending) (w' : World) : Prop := Below w.heap.size w w' ∧ (match r with
  | .ok e n => ∃ sa sn sc, x = .returned (.tuple #[exV e (.slice sa sn sc), .int .i64 ((k + n : Nat) : Int), .bool true]) ∧ KA (fun b => w.heap.size ≤ b) w' e.es (.slice sa sn sc)
  | .bad n => x = .returned (.tuple #[exV zeroX nilX, .int .i64 ((k + n : Nat) : Int), .bool false])
  | .out => False)
structure RxI (w : World) (a : Option Addr) (ts : List Tk) (k : Nat) : Prop where
  tk : TkA anyB w a ts
  ok : TokOk ts
  ln : ts.length ≤ 4001
  kl : k ≤ ts.length
theorem RxI.below {w w' : World} {a : Option Addr} {ts : List Tk} {k : Nat} (h : RxI w a ts k) (hb : Below w.heap.size w w') : RxI w' a ts k := ⟨h.tk.below hb, h.ok, h.ln, h.kl⟩
theorem RxI.at {w : World} {a : Option Addr} {ts : List Tk} {k j : Nat} (h : RxI w a ts k) (hj : j ≤ ts.length) : RxI w a ts j := ⟨h.tk, h.ok, h.ln, hj⟩
def ROpd (f : Nat) : Prop := ∀ (w : World) (a : Option Addr) (c : Nat) (ts : List Tk) (k : Nat), RxI w a ts k → ps f .opd (ts.drop k) ≠ .out →
  Calls Tryd.prog 52 #[.slice a ts.length c, .int .i64 (k : Int)] w (RxP w k (ps f .opd (ts.drop k)))
def RExp (f : Nat) : Prop := ∀ (p : Nat) (w : World) (a : Option Addr) (c : Nat) (ts : List Tk) (k : Nat), 1 ≤ p → p ≤ 6 → RxI w a ts k → ps f (.exp p) (ts.drop k) ≠ .out →
  Calls Tryd.prog 35 #[.slice a ts.length c, .int .i64 (k : Int), .int .i64 (p : Int)] w (RxP w k (ps f (.exp p) (ts.drop k)))
theorem hdT_gk (ts : List Tk) (k : Nat) : hdT (ts.drop k) = gk ts k := by
  rcases Nat.lt_or_ge k ts.length with h | h
  · exact hdT_drop h
  · rw [hdT_end h, gk_none h]
theorem gk_sz {ts : List Tk} (h : TokOk ts) (k : Nat) : (gk ts k).t.size ≤ 9223372036854775807 := by
  rcases Nat.lt_or_ge k ts.length with h1 | h1
  · exact (h k h1).1
  · rw [gk_none h1]; exact emp_sz
theorem cells4 {w : World} {g : Nat} {a b c d : Value} {t : TypeId} (h : w.heap[g]? = some (.cells #[a, b, c, d] t (0, 0))) : w.cell? ⟨g, 0, none⟩ = some a ∧ w.cell? ⟨g, 1, none⟩ = some b ∧ w.cell? ⟨g, 2, none⟩ = some c ∧ w.cell? ⟨g, 3, none⟩ = some d := by
  refine ⟨?_, ?_, ?_, ?_⟩ <;> (rw [Lib.cell_of_heap h]; rfl)
theorem ret_x3 {fn : Func} {p u v : Tmp} (hf : fn.results = #[.cell p TX, .tmp u, .tmp v]) (W : World) (g : Nat) (e : Ex) (sl x y : Value) (tmps : Array Value) (hg : W.heap[g]? = some (.cells #[.int .i64 e.k, .int .i64 e.o, .string e.s, .int .i64 e.v, sl] TX (0, 0)))
    (hp : tmps.getD p undef = .pointer (some ⟨g, 0, none⟩)) (hu : tmps.getD u undef = x) (hv : tmps.getD v undef = y) : (results fn tmps).run Tryd.prog W = .ok (.tuple #[exV e sl, x, y]) W := ret_ex hf W g e sl x y tmps hg hp hu hv
theorem varKi (w : World) (k : Int) (t : ByteArray) (v a : Int) (W : World) (hW : w.alloc (.cells #[.int .i64 k, .string t, .int .i64 v, .int .i64 a] TTk) = W) : W.heap[w.heap.size]? = some (.cells #[.int .i64 k, .string t, .int .i64 v, .int .i64 a] TTk (0, 0)) ∧ Below w.heap.size w W := ⟨by rw [← hW]; exact heapNew w _, by rw [← hW]; exact (Below.refl _ w).alloc (Nat.le_refl _) _⟩
set_option maxRecDepth 100000 in
set_option maxHeartbeats 8000000 in
theorem roperand_dig (w : World) (a : Option Addr) (c : Nat) (ts : List Tk) (k : Nat) (h : RxI w a ts k) (x1 : ByteArray) (x2 : Int) (x3 : Nat) (hx : gk ts k = ⟨2, x1, x2, x3⟩) (hd : dgB x1 x2 = true) :
    Calls Tryd.prog 52 #[.slice a ts.length c, .int .i64 (k : Int)] w (RxP w k (.ok (.mk 1 0 .empty x2 []) 1)) := by
  obtain ⟨W, hW⟩ : ∃ W, w.alloc (.cells #[.int .i64 0, .int .i64 0, .string ⟨#[]⟩, .int .i64 0, nilX] TX) = W := ⟨_, rfl⟩
  have hb : Below w.heap.size w W := by rw [← hW]; exact (Below.refl _ w).alloc (Nat.le_refl _) _
  have hg : W.heap[w.heap.size]? = some (.cells #[.int .i64 0, .int .i64 0, .string ⟨#[]⟩, .int .i64 0, nilX] TX (0, 0)) := by rw [← hW]; exact heapNew w _
  have hI := h.below hb
  have hsz := gk_sz h.ok k
  have hN := rnext_any a c ts k W hI.tk (by have := hI.ln; omega)
  rw [hx] at hN hsz
  simp only [tkW] at hN
  simp only at hsz
  have hk40 : (k : Int) ≤ 4001 := by have := h.ln; have := h.kl; omega
  have HN := Lib.hid hN
  have H0 := Lib.hid h
  have HG := Lib.hid hg
  have HB := Lib.hid hb
  have HI := Lib.hid hI
  have HX := Lib.hid hx
  have HW := Lib.hid hW
  clear hI hb hg h hN hx hW
  go_enter Tryd.func52, Tryd.ntmps52
  go_wp2_with fail
  try rw [HW.out]
  refine HN.out.mono ?_
  rintro e w1 ⟨⟨av, rfl⟩, b1⟩
  obtain ⟨W1, hW1⟩ : ∃ V, w1.alloc (.cells #[.int .i64 2, .string x1, .int .i64 x2, .int .i64 av] TTk) = V := ⟨_, rfl⟩
  obtain ⟨g1, g2⟩ := varKi w1 _ _ _ _ W1 hW1
  obtain ⟨c0, c1, c2, c3⟩ := cells4 g1
  have HW1 := Lib.hid hW1
  have HT1 := Lib.hid g1
  have bb := b1.trans (g2.mono b1.size)
  have HB1 := Lib.hid (HB.out.trans (bb.mono HB.out.size))
  have HG1 := Lib.hid ((bb.block _ (ltH HG.out)).trans HG.out)
  have HI1 := Lib.hid (HI.out.below bb)
  have HGT := Lib.hid (Nat.lt_of_lt_of_le (ltH HG.out) b1.size)
  have hc := fun V => rdigits_any ⟨2, x1, x2, x3⟩ av V hsz
  simp only [tkW, hd] at hc
  have HC := Lib.hid hc
  clear hc
  
  clear hW1 b1 g1 g2 bb
  go_wp2_with (first | rw [HW1.out] | fail)
  refine (HC.out _).mono ?_
  rintro e w2 ⟨rfl, b2⟩
  clear c0 c1 c2 c3
  have HT2 := Lib.hid ((b2.block _ (ltH HT1.out)).trans HT1.out)
  obtain ⟨c0, c1, c2, c3⟩ := cells4 HT2.out
  have HB2 := Lib.hid (HB1.out.trans (b2.mono HB1.out.size))
  have HG2 := Lib.hid ((b2.block _ (ltH HG1.out)).trans HG1.out)
  have HI2 := Lib.hid (HI1.out.below b2)
  clear b2
  go_wp2_with (refine wpList_store_row rfl TX (.tmp 4) (.tmp 27) rfl w.heap.size #[.int .i64 1, .int .i64 0, .string ⟨#[]⟩, .int .i64 x2, nilX] rfl rfl _ _ HG2.out (by kernel_rfl) rfl (by simp [Value.oneCell']) ?_)
  try simp only [Exit.inBlock, Exit.then]
  have hgf := setRow_heap _ w.heap.size _ #[.int .i64 1, .int .i64 0, .string ⟨#[]⟩, .int .i64 x2, nilX] _ _ HG2.out
  refine bodyPost_ret (ret_x3 Tryd.results52 _ w.heap.size (.mk 1 0 .empty x2 []) nilX _ _ _ hgf rfl rfl rfl) rfl ?_
  exact ⟨below_setRow HB2.out (Nat.le_refl _) _, none, 0, 0, by simp, KA.nil0 _ _⟩
set_option maxRecDepth 100000 in
set_option maxHeartbeats 8000000 in
theorem roperand_bad2 (w : World) (a : Option Addr) (c : Nat) (ts : List Tk) (k : Nat) (h : RxI w a ts k) (x1 : ByteArray) (x2 : Int) (x3 : Nat) (hx : gk ts k = ⟨2, x1, x2, x3⟩) (hd : dgB x1 x2 = false) (m45 : isS ⟨2, x1, x2, x3⟩ ⟨#[45]⟩ = false) (m33 : isS ⟨2, x1, x2, x3⟩ ⟨#[33]⟩ = false) (m40 : isS ⟨2, x1, x2, x3⟩ ⟨#[40]⟩ = false) :
    Calls Tryd.prog 52 #[.slice a ts.length c, .int .i64 (k : Int)] w (RxP w k (.bad 0)) := by
  obtain ⟨W, hW⟩ : ∃ W, w.alloc (.cells #[.int .i64 0, .int .i64 0, .string ⟨#[]⟩, .int .i64 0, nilX] TX) = W := ⟨_, rfl⟩
  have hb : Below w.heap.size w W := by rw [← hW]; exact (Below.refl _ w).alloc (Nat.le_refl _) _
  have hg : W.heap[w.heap.size]? = some (.cells #[.int .i64 0, .int .i64 0, .string ⟨#[]⟩, .int .i64 0, nilX] TX (0, 0)) := by rw [← hW]; exact heapNew w _
  have hI := h.below hb
  have hsz := gk_sz h.ok k
  have hN := rnext_any a c ts k W hI.tk (by have := hI.ln; omega)
  rw [hx] at hN hsz
  simp only [tkW] at hN
  simp only at hsz
  have hk40 : (k : Int) ≤ 4001 := by have := h.ln; have := h.kl; omega
  have HN := Lib.hid hN
  have H0 := Lib.hid h
  have HG := Lib.hid hg
  have HB := Lib.hid hb
  have HI := Lib.hid hI
  have HX := Lib.hid hx
  have HW := Lib.hid hW
  clear hI hb hg h hN hx hW
  go_enter Tryd.func52, Tryd.ntmps52
  go_wp2_with fail
  try rw [HW.out]
  refine HN.out.mono ?_
  rintro e w1 ⟨⟨av, rfl⟩, b1⟩
  obtain ⟨W1, hW1⟩ : ∃ V, w1.alloc (.cells #[.int .i64 2, .string x1, .int .i64 x2, .int .i64 av] TTk) = V := ⟨_, rfl⟩
  obtain ⟨g1, g2⟩ := varKi w1 _ _ _ _ W1 hW1
  obtain ⟨c0, c1, c2, c3⟩ := cells4 g1
  have HW1 := Lib.hid hW1
  have HT1 := Lib.hid g1
  have bb := b1.trans (g2.mono b1.size)
  have HB1 := Lib.hid (HB.out.trans (bb.mono HB.out.size))
  have HG1 := Lib.hid ((bb.block _ (ltH HG.out)).trans HG.out)
  have HI1 := Lib.hid (HI.out.below bb)
  have HGT := Lib.hid (Nat.lt_of_lt_of_le (ltH HG.out) b1.size)
  have hc := fun V => rdigits_any ⟨2, x1, x2, x3⟩ av V hsz
  simp only [tkW, hd] at hc
  have HC := Lib.hid hc
  clear hc
  have hq := fun V => ris_any ⟨2, x1, x2, x3⟩ av ⟨#[45]⟩ V
  simp only [tkW, m45] at hq
  have HS45 := Lib.hid hq
  clear hq
  have hq := fun V => ris_any ⟨2, x1, x2, x3⟩ av ⟨#[33]⟩ V
  simp only [tkW, m33] at hq
  have HS33 := Lib.hid hq
  clear hq
  have hq := fun V => ris_any ⟨2, x1, x2, x3⟩ av ⟨#[40]⟩ V
  simp only [tkW, m40] at hq
  have HS40 := Lib.hid hq
  clear hq
  
  clear hW1 b1 g1 g2 bb
  go_wp2_with (first | rw [HW1.out] | fail)
  refine (HC.out _).mono ?_
  rintro e w2 ⟨rfl, b2⟩
  clear c0 c1 c2 c3
  have HT2 := Lib.hid ((b2.block _ (ltH HT1.out)).trans HT1.out)
  obtain ⟨c0, c1, c2, c3⟩ := cells4 HT2.out
  have HB2 := Lib.hid (HB1.out.trans (b2.mono HB1.out.size))
  have HG2 := Lib.hid ((b2.block _ (ltH HG1.out)).trans HG1.out)
  have HI2 := Lib.hid (HI1.out.below b2)
  clear b2
  go_wp2_with (first | rw [HW1.out] | fail)
  refine (HS45.out _).mono ?_
  rintro e w3 ⟨rfl, b3⟩
  clear c0 c1 c2 c3
  have HT3 := Lib.hid ((b3.block _ (ltH HT2.out)).trans HT2.out)
  obtain ⟨c0, c1, c2, c3⟩ := cells4 HT3.out
  have HB3 := Lib.hid (HB2.out.trans (b3.mono HB2.out.size))
  have HG3 := Lib.hid ((b3.block _ (ltH HG2.out)).trans HG2.out)
  have HI3 := Lib.hid (HI2.out.below b3)
  clear b3
  go_wp2_with (first | rw [HW1.out] | fail)
  refine (HS33.out _).mono ?_
  rintro e w4 ⟨rfl, b4⟩
  clear c0 c1 c2 c3
  have HT4 := Lib.hid ((b4.block _ (ltH HT3.out)).trans HT3.out)
  obtain ⟨c0, c1, c2, c3⟩ := cells4 HT4.out
  have HB4 := Lib.hid (HB3.out.trans (b4.mono HB3.out.size))
  have HG4 := Lib.hid ((b4.block _ (ltH HG3.out)).trans HG3.out)
  have HI4 := Lib.hid (HI3.out.below b4)
  clear b4
  go_wp2_with (first | rw [HW1.out] | fail)
  refine (HS40.out _).mono ?_
  rintro e w5 ⟨rfl, b5⟩
  clear c0 c1 c2 c3
  have HT5 := Lib.hid ((b5.block _ (ltH HT4.out)).trans HT4.out)
  obtain ⟨c0, c1, c2, c3⟩ := cells4 HT5.out
  have HB5 := Lib.hid (HB4.out.trans (b5.mono HB4.out.size))
  have HG5 := Lib.hid ((b5.block _ (ltH HG4.out)).trans HG4.out)
  have HI5 := Lib.hid (HI4.out.below b5)
  clear b5
  go_wp2_with (refine wpList_store_row rfl TX (.tmp 4) (.tmp 77) rfl w.heap.size #[.int .i64 0, .int .i64 0, .string ⟨#[]⟩, .int .i64 0, nilX] rfl rfl _ _ HG5.out (by kernel_rfl) rfl (by simp [Value.oneCell']) ?_)
  try simp only [Exit.inBlock, Exit.then]
  have hgf := setRow_heap _ w.heap.size _ #[.int .i64 0, .int .i64 0, .string ⟨#[]⟩, .int .i64 0, nilX] _ _ HG5.out
  refine bodyPost_ret (ret_x3 Tryd.results52 _ w.heap.size zeroX nilX _ _ _ hgf rfl rfl rfl) rfl ?_
  exact ⟨below_setRow HB5.out (Nat.le_refl _) _, by simp⟩
set_option maxRecDepth 100000 in
set_option maxHeartbeats 8000000 in
theorem roperand_nam (w : World) (a : Option Addr) (c : Nat) (ts : List Tk) (k : Nat) (h : RxI w a ts k) (x1 : ByteArray) (x2 : Int) (x3 : Nat) (hx : gk ts k = ⟨1, x1, x2, x3⟩) (hn : nmB x1 = true) (hw : kwB x1 = false) :
    Calls Tryd.prog 52 #[.slice a ts.length c, .int .i64 (k : Int)] w (RxP w k (.ok (.mk 2 0 x1 0 []) 1)) := by
  obtain ⟨W, hW⟩ : ∃ W, w.alloc (.cells #[.int .i64 0, .int .i64 0, .string ⟨#[]⟩, .int .i64 0, nilX] TX) = W := ⟨_, rfl⟩
  have hb : Below w.heap.size w W := by rw [← hW]; exact (Below.refl _ w).alloc (Nat.le_refl _) _
  have hg : W.heap[w.heap.size]? = some (.cells #[.int .i64 0, .int .i64 0, .string ⟨#[]⟩, .int .i64 0, nilX] TX (0, 0)) := by rw [← hW]; exact heapNew w _
  have hI := h.below hb
  have hsz := gk_sz h.ok k
  have hN := rnext_any a c ts k W hI.tk (by have := hI.ln; omega)
  rw [hx] at hN hsz
  simp only [tkW] at hN
  simp only at hsz
  have hk40 : (k : Int) ≤ 4001 := by have := h.ln; have := h.kl; omega
  have HN := Lib.hid hN
  have H0 := Lib.hid h
  have HG := Lib.hid hg
  have HB := Lib.hid hb
  have HI := Lib.hid hI
  have HX := Lib.hid hx
  have HW := Lib.hid hW
  clear hI hb hg h hN hx hW
  go_enter Tryd.func52, Tryd.ntmps52
  go_wp2_with fail
  try rw [HW.out]
  refine HN.out.mono ?_
  rintro e w1 ⟨⟨av, rfl⟩, b1⟩
  obtain ⟨W1, hW1⟩ : ∃ V, w1.alloc (.cells #[.int .i64 1, .string x1, .int .i64 x2, .int .i64 av] TTk) = V := ⟨_, rfl⟩
  obtain ⟨g1, g2⟩ := varKi w1 _ _ _ _ W1 hW1
  obtain ⟨c0, c1, c2, c3⟩ := cells4 g1
  have HW1 := Lib.hid hW1
  have HT1 := Lib.hid g1
  have bb := b1.trans (g2.mono b1.size)
  have HB1 := Lib.hid (HB.out.trans (bb.mono HB.out.size))
  have HG1 := Lib.hid ((bb.block _ (ltH HG.out)).trans HG.out)
  have HI1 := Lib.hid (HI.out.below bb)
  have HGT := Lib.hid (Nat.lt_of_lt_of_le (ltH HG.out) b1.size)
  have hc := fun V => rname_any x1 V hsz
  rw [hn] at hc
  have HNM := Lib.hid hc
  clear hc
  have hc := fun V => rKeyword_any x1 V
  rw [hw] at hc
  have HKW := Lib.hid hc
  clear hc
  
  clear hW1 b1 g1 g2 bb
  go_wp2_with (first | rw [HW1.out] | fail)
  refine (HNM.out _).mono ?_
  rintro e w' ⟨rfl, hw'⟩
  subst hw'
  go_wp2_with (first | rw [HW1.out] | fail)
  refine (HKW.out _).mono ?_
  rintro e w2 ⟨rfl, b2⟩
  clear c0 c1 c2 c3
  have HT2 := Lib.hid ((b2.block _ (ltH HT1.out)).trans HT1.out)
  obtain ⟨c0, c1, c2, c3⟩ := cells4 HT2.out
  have HB2 := Lib.hid (HB1.out.trans (b2.mono HB1.out.size))
  have HG2 := Lib.hid ((b2.block _ (ltH HG1.out)).trans HG1.out)
  have HI2 := Lib.hid (HI1.out.below b2)
  clear b2
  go_wp2_with (refine wpList_store_row rfl TX (.tmp 4) (.tmp 46) rfl w.heap.size #[.int .i64 2, .int .i64 0, .string x1, .int .i64 0, nilX] rfl rfl _ _ HG2.out (by kernel_rfl) rfl (by simp [Value.oneCell']) ?_)
  try simp only [Exit.inBlock, Exit.then]
  have hgf := setRow_heap _ w.heap.size _ #[.int .i64 2, .int .i64 0, .string x1, .int .i64 0, nilX] _ _ HG2.out
  refine bodyPost_ret (ret_x3 Tryd.results52 _ w.heap.size (.mk 2 0 x1 0 []) nilX _ _ _ hgf rfl rfl rfl) rfl ?_
  exact ⟨below_setRow HB2.out (Nat.le_refl _) _, none, 0, 0, by simp, KA.nil0 _ _⟩
set_option maxRecDepth 100000 in
set_option maxHeartbeats 8000000 in
theorem roperand_badk (w : World) (a : Option Addr) (c : Nat) (ts : List Tk) (k : Nat) (h : RxI w a ts k) (x1 : ByteArray) (x2 : Int) (x3 : Nat) (hx : gk ts k = ⟨1, x1, x2, x3⟩) (hn : nmB x1 = true) (hw : kwB x1 = true) (m45 : isS ⟨1, x1, x2, x3⟩ ⟨#[45]⟩ = false) (m33 : isS ⟨1, x1, x2, x3⟩ ⟨#[33]⟩ = false) (m40 : isS ⟨1, x1, x2, x3⟩ ⟨#[40]⟩ = false) :
    Calls Tryd.prog 52 #[.slice a ts.length c, .int .i64 (k : Int)] w (RxP w k (.bad 0)) := by
  obtain ⟨W, hW⟩ : ∃ W, w.alloc (.cells #[.int .i64 0, .int .i64 0, .string ⟨#[]⟩, .int .i64 0, nilX] TX) = W := ⟨_, rfl⟩
  have hb : Below w.heap.size w W := by rw [← hW]; exact (Below.refl _ w).alloc (Nat.le_refl _) _
  have hg : W.heap[w.heap.size]? = some (.cells #[.int .i64 0, .int .i64 0, .string ⟨#[]⟩, .int .i64 0, nilX] TX (0, 0)) := by rw [← hW]; exact heapNew w _
  have hI := h.below hb
  have hsz := gk_sz h.ok k
  have hN := rnext_any a c ts k W hI.tk (by have := hI.ln; omega)
  rw [hx] at hN hsz
  simp only [tkW] at hN
  simp only at hsz
  have hk40 : (k : Int) ≤ 4001 := by have := h.ln; have := h.kl; omega
  have HN := Lib.hid hN
  have H0 := Lib.hid h
  have HG := Lib.hid hg
  have HB := Lib.hid hb
  have HI := Lib.hid hI
  have HX := Lib.hid hx
  have HW := Lib.hid hW
  clear hI hb hg h hN hx hW
  go_enter Tryd.func52, Tryd.ntmps52
  go_wp2_with fail
  try rw [HW.out]
  refine HN.out.mono ?_
  rintro e w1 ⟨⟨av, rfl⟩, b1⟩
  obtain ⟨W1, hW1⟩ : ∃ V, w1.alloc (.cells #[.int .i64 1, .string x1, .int .i64 x2, .int .i64 av] TTk) = V := ⟨_, rfl⟩
  obtain ⟨g1, g2⟩ := varKi w1 _ _ _ _ W1 hW1
  obtain ⟨c0, c1, c2, c3⟩ := cells4 g1
  have HW1 := Lib.hid hW1
  have HT1 := Lib.hid g1
  have bb := b1.trans (g2.mono b1.size)
  have HB1 := Lib.hid (HB.out.trans (bb.mono HB.out.size))
  have HG1 := Lib.hid ((bb.block _ (ltH HG.out)).trans HG.out)
  have HI1 := Lib.hid (HI.out.below bb)
  have HGT := Lib.hid (Nat.lt_of_lt_of_le (ltH HG.out) b1.size)
  have hc := fun V => rname_any x1 V hsz
  rw [hn] at hc
  have HNM := Lib.hid hc
  clear hc
  have hc := fun V => rKeyword_any x1 V
  rw [hw] at hc
  have HKW := Lib.hid hc
  clear hc
  have hq := fun V => ris_any ⟨1, x1, x2, x3⟩ av ⟨#[45]⟩ V
  simp only [tkW, m45] at hq
  have HS45 := Lib.hid hq
  clear hq
  have hq := fun V => ris_any ⟨1, x1, x2, x3⟩ av ⟨#[33]⟩ V
  simp only [tkW, m33] at hq
  have HS33 := Lib.hid hq
  clear hq
  have hq := fun V => ris_any ⟨1, x1, x2, x3⟩ av ⟨#[40]⟩ V
  simp only [tkW, m40] at hq
  have HS40 := Lib.hid hq
  clear hq
  
  clear hW1 b1 g1 g2 bb
  go_wp2_with (first | rw [HW1.out] | fail)
  refine (HNM.out _).mono ?_
  rintro e w' ⟨rfl, hw'⟩
  subst hw'
  go_wp2_with (first | rw [HW1.out] | fail)
  refine (HKW.out _).mono ?_
  rintro e w2 ⟨rfl, b2⟩
  clear c0 c1 c2 c3
  have HT2 := Lib.hid ((b2.block _ (ltH HT1.out)).trans HT1.out)
  obtain ⟨c0, c1, c2, c3⟩ := cells4 HT2.out
  have HB2 := Lib.hid (HB1.out.trans (b2.mono HB1.out.size))
  have HG2 := Lib.hid ((b2.block _ (ltH HG1.out)).trans HG1.out)
  have HI2 := Lib.hid (HI1.out.below b2)
  clear b2
  go_wp2_with (first | rw [HW1.out] | fail)
  refine (HS45.out _).mono ?_
  rintro e w3 ⟨rfl, b3⟩
  clear c0 c1 c2 c3
  have HT3 := Lib.hid ((b3.block _ (ltH HT2.out)).trans HT2.out)
  obtain ⟨c0, c1, c2, c3⟩ := cells4 HT3.out
  have HB3 := Lib.hid (HB2.out.trans (b3.mono HB2.out.size))
  have HG3 := Lib.hid ((b3.block _ (ltH HG2.out)).trans HG2.out)
  have HI3 := Lib.hid (HI2.out.below b3)
  clear b3
  go_wp2_with (first | rw [HW1.out] | fail)
  refine (HS33.out _).mono ?_
  rintro e w4 ⟨rfl, b4⟩
  clear c0 c1 c2 c3
  have HT4 := Lib.hid ((b4.block _ (ltH HT3.out)).trans HT3.out)
  obtain ⟨c0, c1, c2, c3⟩ := cells4 HT4.out
  have HB4 := Lib.hid (HB3.out.trans (b4.mono HB3.out.size))
  have HG4 := Lib.hid ((b4.block _ (ltH HG3.out)).trans HG3.out)
  have HI4 := Lib.hid (HI3.out.below b4)
  clear b4
  go_wp2_with (first | rw [HW1.out] | fail)
  refine (HS40.out _).mono ?_
  rintro e w5 ⟨rfl, b5⟩
  clear c0 c1 c2 c3
  have HT5 := Lib.hid ((b5.block _ (ltH HT4.out)).trans HT4.out)
  obtain ⟨c0, c1, c2, c3⟩ := cells4 HT5.out
  have HB5 := Lib.hid (HB4.out.trans (b5.mono HB4.out.size))
  have HG5 := Lib.hid ((b5.block _ (ltH HG4.out)).trans HG4.out)
  have HI5 := Lib.hid (HI4.out.below b5)
  clear b5
  go_wp2_with (refine wpList_store_row rfl TX (.tmp 4) (.tmp 77) rfl w.heap.size #[.int .i64 0, .int .i64 0, .string ⟨#[]⟩, .int .i64 0, nilX] rfl rfl _ _ HG5.out (by kernel_rfl) rfl (by simp [Value.oneCell']) ?_)
  try simp only [Exit.inBlock, Exit.then]
  have hgf := setRow_heap _ w.heap.size _ #[.int .i64 0, .int .i64 0, .string ⟨#[]⟩, .int .i64 0, nilX] _ _ HG5.out
  refine bodyPost_ret (ret_x3 Tryd.results52 _ w.heap.size zeroX nilX _ _ _ hgf rfl rfl rfl) rfl ?_
  exact ⟨below_setRow HB5.out (Nat.le_refl _) _, by simp⟩
set_option maxRecDepth 100000 in
set_option maxHeartbeats 8000000 in
theorem roperand_badn (w : World) (a : Option Addr) (c : Nat) (ts : List Tk) (k : Nat) (h : RxI w a ts k) (x1 : ByteArray) (x2 : Int) (x3 : Nat) (hx : gk ts k = ⟨1, x1, x2, x3⟩) (hn : nmB x1 = false) (m45 : isS ⟨1, x1, x2, x3⟩ ⟨#[45]⟩ = false) (m33 : isS ⟨1, x1, x2, x3⟩ ⟨#[33]⟩ = false) (m40 : isS ⟨1, x1, x2, x3⟩ ⟨#[40]⟩ = false) :
    Calls Tryd.prog 52 #[.slice a ts.length c, .int .i64 (k : Int)] w (RxP w k (.bad 0)) := by
  obtain ⟨W, hW⟩ : ∃ W, w.alloc (.cells #[.int .i64 0, .int .i64 0, .string ⟨#[]⟩, .int .i64 0, nilX] TX) = W := ⟨_, rfl⟩
  have hb : Below w.heap.size w W := by rw [← hW]; exact (Below.refl _ w).alloc (Nat.le_refl _) _
  have hg : W.heap[w.heap.size]? = some (.cells #[.int .i64 0, .int .i64 0, .string ⟨#[]⟩, .int .i64 0, nilX] TX (0, 0)) := by rw [← hW]; exact heapNew w _
  have hI := h.below hb
  have hsz := gk_sz h.ok k
  have hN := rnext_any a c ts k W hI.tk (by have := hI.ln; omega)
  rw [hx] at hN hsz
  simp only [tkW] at hN
  simp only at hsz
  have hk40 : (k : Int) ≤ 4001 := by have := h.ln; have := h.kl; omega
  have HN := Lib.hid hN
  have H0 := Lib.hid h
  have HG := Lib.hid hg
  have HB := Lib.hid hb
  have HI := Lib.hid hI
  have HX := Lib.hid hx
  have HW := Lib.hid hW
  clear hI hb hg h hN hx hW
  go_enter Tryd.func52, Tryd.ntmps52
  go_wp2_with fail
  try rw [HW.out]
  refine HN.out.mono ?_
  rintro e w1 ⟨⟨av, rfl⟩, b1⟩
  obtain ⟨W1, hW1⟩ : ∃ V, w1.alloc (.cells #[.int .i64 1, .string x1, .int .i64 x2, .int .i64 av] TTk) = V := ⟨_, rfl⟩
  obtain ⟨g1, g2⟩ := varKi w1 _ _ _ _ W1 hW1
  obtain ⟨c0, c1, c2, c3⟩ := cells4 g1
  have HW1 := Lib.hid hW1
  have HT1 := Lib.hid g1
  have bb := b1.trans (g2.mono b1.size)
  have HB1 := Lib.hid (HB.out.trans (bb.mono HB.out.size))
  have HG1 := Lib.hid ((bb.block _ (ltH HG.out)).trans HG.out)
  have HI1 := Lib.hid (HI.out.below bb)
  have HGT := Lib.hid (Nat.lt_of_lt_of_le (ltH HG.out) b1.size)
  have hc := fun V => rname_any x1 V hsz
  rw [hn] at hc
  have HNM := Lib.hid hc
  clear hc
  have hq := fun V => ris_any ⟨1, x1, x2, x3⟩ av ⟨#[45]⟩ V
  simp only [tkW, m45] at hq
  have HS45 := Lib.hid hq
  clear hq
  have hq := fun V => ris_any ⟨1, x1, x2, x3⟩ av ⟨#[33]⟩ V
  simp only [tkW, m33] at hq
  have HS33 := Lib.hid hq
  clear hq
  have hq := fun V => ris_any ⟨1, x1, x2, x3⟩ av ⟨#[40]⟩ V
  simp only [tkW, m40] at hq
  have HS40 := Lib.hid hq
  clear hq
  
  clear hW1 b1 g1 g2 bb
  go_wp2_with (first | rw [HW1.out] | fail)
  refine (HNM.out _).mono ?_
  rintro e w' ⟨rfl, hw'⟩
  subst hw'
  go_wp2_with (first | rw [HW1.out] | fail)
  refine (HS45.out _).mono ?_
  rintro e w2 ⟨rfl, b2⟩
  clear c0 c1 c2 c3
  have HT2 := Lib.hid ((b2.block _ (ltH HT1.out)).trans HT1.out)
  obtain ⟨c0, c1, c2, c3⟩ := cells4 HT2.out
  have HB2 := Lib.hid (HB1.out.trans (b2.mono HB1.out.size))
  have HG2 := Lib.hid ((b2.block _ (ltH HG1.out)).trans HG1.out)
  have HI2 := Lib.hid (HI1.out.below b2)
  clear b2
  go_wp2_with (first | rw [HW1.out] | fail)
  refine (HS33.out _).mono ?_
  rintro e w3 ⟨rfl, b3⟩
  clear c0 c1 c2 c3
  have HT3 := Lib.hid ((b3.block _ (ltH HT2.out)).trans HT2.out)
  obtain ⟨c0, c1, c2, c3⟩ := cells4 HT3.out
  have HB3 := Lib.hid (HB2.out.trans (b3.mono HB2.out.size))
  have HG3 := Lib.hid ((b3.block _ (ltH HG2.out)).trans HG2.out)
  have HI3 := Lib.hid (HI2.out.below b3)
  clear b3
  go_wp2_with (first | rw [HW1.out] | fail)
  refine (HS40.out _).mono ?_
  rintro e w4 ⟨rfl, b4⟩
  clear c0 c1 c2 c3
  have HT4 := Lib.hid ((b4.block _ (ltH HT3.out)).trans HT3.out)
  obtain ⟨c0, c1, c2, c3⟩ := cells4 HT4.out
  have HB4 := Lib.hid (HB3.out.trans (b4.mono HB3.out.size))
  have HG4 := Lib.hid ((b4.block _ (ltH HG3.out)).trans HG3.out)
  have HI4 := Lib.hid (HI3.out.below b4)
  clear b4
  go_wp2_with (refine wpList_store_row rfl TX (.tmp 4) (.tmp 77) rfl w.heap.size #[.int .i64 0, .int .i64 0, .string ⟨#[]⟩, .int .i64 0, nilX] rfl rfl _ _ HG4.out (by kernel_rfl) rfl (by simp [Value.oneCell']) ?_)
  try simp only [Exit.inBlock, Exit.then]
  have hgf := setRow_heap _ w.heap.size _ #[.int .i64 0, .int .i64 0, .string ⟨#[]⟩, .int .i64 0, nilX] _ _ HG4.out
  refine bodyPost_ret (ret_x3 Tryd.results52 _ w.heap.size zeroX nilX _ _ _ hgf rfl rfl rfl) rfl ?_
  exact ⟨below_setRow HB4.out (Nat.le_refl _) _, by simp⟩
set_option maxRecDepth 100000 in
set_option maxHeartbeats 8000000 in
theorem roperand_badx (w : World) (a : Option Addr) (c : Nat) (ts : List Tk) (k : Nat) (h : RxI w a ts k) (x0 : Int) (x1 : ByteArray) (x2 : Int) (x3 : Nat) (hx : gk ts k = ⟨x0, x1, x2, x3⟩) (k2 : (x0 == 2) = false) (k1 : (x0 == 1) = false) (m45 : isS ⟨x0, x1, x2, x3⟩ ⟨#[45]⟩ = false) (m33 : isS ⟨x0, x1, x2, x3⟩ ⟨#[33]⟩ = false) (m40 : isS ⟨x0, x1, x2, x3⟩ ⟨#[40]⟩ = false) :
    Calls Tryd.prog 52 #[.slice a ts.length c, .int .i64 (k : Int)] w (RxP w k (.bad 0)) := by
  obtain ⟨W, hW⟩ : ∃ W, w.alloc (.cells #[.int .i64 0, .int .i64 0, .string ⟨#[]⟩, .int .i64 0, nilX] TX) = W := ⟨_, rfl⟩
  have hb : Below w.heap.size w W := by rw [← hW]; exact (Below.refl _ w).alloc (Nat.le_refl _) _
  have hg : W.heap[w.heap.size]? = some (.cells #[.int .i64 0, .int .i64 0, .string ⟨#[]⟩, .int .i64 0, nilX] TX (0, 0)) := by rw [← hW]; exact heapNew w _
  have hI := h.below hb
  have hsz := gk_sz h.ok k
  have hN := rnext_any a c ts k W hI.tk (by have := hI.ln; omega)
  rw [hx] at hN hsz
  simp only [tkW] at hN
  simp only at hsz
  have hk40 : (k : Int) ≤ 4001 := by have := h.ln; have := h.kl; omega
  have HN := Lib.hid hN
  have H0 := Lib.hid h
  have HG := Lib.hid hg
  have HB := Lib.hid hb
  have HI := Lib.hid hI
  have HX := Lib.hid hx
  have HW := Lib.hid hW
  clear hI hb hg h hN hx hW
  go_enter Tryd.func52, Tryd.ntmps52
  go_wp2_with fail
  try rw [HW.out]
  refine HN.out.mono ?_
  rintro e w1 ⟨⟨av, rfl⟩, b1⟩
  obtain ⟨W1, hW1⟩ : ∃ V, w1.alloc (.cells #[.int .i64 x0, .string x1, .int .i64 x2, .int .i64 av] TTk) = V := ⟨_, rfl⟩
  obtain ⟨g1, g2⟩ := varKi w1 _ _ _ _ W1 hW1
  obtain ⟨c0, c1, c2, c3⟩ := cells4 g1
  have HW1 := Lib.hid hW1
  have HT1 := Lib.hid g1
  have bb := b1.trans (g2.mono b1.size)
  have HB1 := Lib.hid (HB.out.trans (bb.mono HB.out.size))
  have HG1 := Lib.hid ((bb.block _ (ltH HG.out)).trans HG.out)
  have HI1 := Lib.hid (HI.out.below bb)
  have HGT := Lib.hid (Nat.lt_of_lt_of_le (ltH HG.out) b1.size)
  have hq := fun V => ris_any ⟨x0, x1, x2, x3⟩ av ⟨#[45]⟩ V
  simp only [tkW, m45] at hq
  have HS45 := Lib.hid hq
  clear hq
  have hq := fun V => ris_any ⟨x0, x1, x2, x3⟩ av ⟨#[33]⟩ V
  simp only [tkW, m33] at hq
  have HS33 := Lib.hid hq
  clear hq
  have hq := fun V => ris_any ⟨x0, x1, x2, x3⟩ av ⟨#[40]⟩ V
  simp only [tkW, m40] at hq
  have HS40 := Lib.hid hq
  clear hq
  
  clear hW1 b1 g1 g2 bb
  go_wp2_with (first | rw [HW1.out] | fail)
  refine (HS45.out _).mono ?_
  rintro e w2 ⟨rfl, b2⟩
  clear c0 c1 c2 c3
  have HT2 := Lib.hid ((b2.block _ (ltH HT1.out)).trans HT1.out)
  obtain ⟨c0, c1, c2, c3⟩ := cells4 HT2.out
  have HB2 := Lib.hid (HB1.out.trans (b2.mono HB1.out.size))
  have HG2 := Lib.hid ((b2.block _ (ltH HG1.out)).trans HG1.out)
  have HI2 := Lib.hid (HI1.out.below b2)
  clear b2
  go_wp2_with (first | rw [HW1.out] | fail)
  refine (HS33.out _).mono ?_
  rintro e w3 ⟨rfl, b3⟩
  clear c0 c1 c2 c3
  have HT3 := Lib.hid ((b3.block _ (ltH HT2.out)).trans HT2.out)
  obtain ⟨c0, c1, c2, c3⟩ := cells4 HT3.out
  have HB3 := Lib.hid (HB2.out.trans (b3.mono HB2.out.size))
  have HG3 := Lib.hid ((b3.block _ (ltH HG2.out)).trans HG2.out)
  have HI3 := Lib.hid (HI2.out.below b3)
  clear b3
  go_wp2_with (first | rw [HW1.out] | fail)
  refine (HS40.out _).mono ?_
  rintro e w4 ⟨rfl, b4⟩
  clear c0 c1 c2 c3
  have HT4 := Lib.hid ((b4.block _ (ltH HT3.out)).trans HT3.out)
  obtain ⟨c0, c1, c2, c3⟩ := cells4 HT4.out
  have HB4 := Lib.hid (HB3.out.trans (b4.mono HB3.out.size))
  have HG4 := Lib.hid ((b4.block _ (ltH HG3.out)).trans HG3.out)
  have HI4 := Lib.hid (HI3.out.below b4)
  clear b4
  go_wp2_with (refine wpList_store_row rfl TX (.tmp 4) (.tmp 77) rfl w.heap.size #[.int .i64 0, .int .i64 0, .string ⟨#[]⟩, .int .i64 0, nilX] rfl rfl _ _ HG4.out (by kernel_rfl) rfl (by simp [Value.oneCell']) ?_)
  try simp only [Exit.inBlock, Exit.then]
  have hgf := setRow_heap _ w.heap.size _ #[.int .i64 0, .int .i64 0, .string ⟨#[]⟩, .int .i64 0, nilX] _ _ HG4.out
  refine bodyPost_ret (ret_x3 Tryd.results52 _ w.heap.size zeroX nilX _ _ _ hgf rfl rfl rfl) rfl ?_
  exact ⟨below_setRow HB4.out (Nat.le_refl _) _, by simp⟩
set_option maxRecDepth 100000 in
set_option maxHeartbeats 8000000 in
theorem roperand_min (w : World) (a : Option Addr) (c : Nat) (ts : List Tk) (k : Nat) (h : RxI w a ts k) (r : Rs) (hlt : k + 1 ≤ ts.length) (hC : ∀ V, RxI V a ts (k + 1) → Calls Tryd.prog 52 #[.slice a ts.length c, .int .i64 ((k : Int) + 1)] V (RxP V (k + 1) r)) (x0 : Int) (x1 : ByteArray) (x2 : Int) (x3 : Nat) (hx : gk ts k = ⟨x0, x1, x2, x3⟩) (k2 : (x0 == 2) = false) (k1 : (x0 == 1) = false) (m45 : isS ⟨x0, x1, x2, x3⟩ ⟨#[45]⟩ = true) (m33 : isS ⟨x0, x1, x2, x3⟩ ⟨#[33]⟩ = false) :
    Calls Tryd.prog 52 #[.slice a ts.length c, .int .i64 (k : Int)] w (RxP w k (r.un 1)) := by
  obtain ⟨W, hW⟩ : ∃ W, w.alloc (.cells #[.int .i64 0, .int .i64 0, .string ⟨#[]⟩, .int .i64 0, nilX] TX) = W := ⟨_, rfl⟩
  have hb : Below w.heap.size w W := by rw [← hW]; exact (Below.refl _ w).alloc (Nat.le_refl _) _
  have hg : W.heap[w.heap.size]? = some (.cells #[.int .i64 0, .int .i64 0, .string ⟨#[]⟩, .int .i64 0, nilX] TX (0, 0)) := by rw [← hW]; exact heapNew w _
  have hI := h.below hb
  have hsz := gk_sz h.ok k
  have hN := rnext_any a c ts k W hI.tk (by have := hI.ln; omega)
  rw [hx] at hN hsz
  simp only [tkW] at hN
  simp only at hsz
  have hk40 : (k : Int) ≤ 4001 := by have := h.ln; have := h.kl; omega
  have HN := Lib.hid hN
  have H0 := Lib.hid h
  have HG := Lib.hid hg
  have HB := Lib.hid hb
  have HI := Lib.hid hI
  have HX := Lib.hid hx
  have HW := Lib.hid hW
  clear hI hb hg h hN hx hW
  go_enter Tryd.func52, Tryd.ntmps52
  go_wp2_with fail
  try rw [HW.out]
  refine HN.out.mono ?_
  rintro e w1 ⟨⟨av, rfl⟩, b1⟩
  obtain ⟨W1, hW1⟩ : ∃ V, w1.alloc (.cells #[.int .i64 x0, .string x1, .int .i64 x2, .int .i64 av] TTk) = V := ⟨_, rfl⟩
  obtain ⟨g1, g2⟩ := varKi w1 _ _ _ _ W1 hW1
  obtain ⟨c0, c1, c2, c3⟩ := cells4 g1
  have HW1 := Lib.hid hW1
  have HT1 := Lib.hid g1
  have bb := b1.trans (g2.mono b1.size)
  have HB1 := Lib.hid (HB.out.trans (bb.mono HB.out.size))
  have HG1 := Lib.hid ((bb.block _ (ltH HG.out)).trans HG.out)
  have HI1 := Lib.hid (HI.out.below bb)
  have HGT := Lib.hid (Nat.lt_of_lt_of_le (ltH HG.out) b1.size)
  have hq := fun V => ris_any ⟨x0, x1, x2, x3⟩ av ⟨#[45]⟩ V
  simp only [tkW, m45] at hq
  have HS45 := Lib.hid hq
  clear hq
  have hq := fun V => ris_any ⟨x0, x1, x2, x3⟩ av ⟨#[33]⟩ V
  simp only [tkW, m33] at hq
  have HS33 := Lib.hid hq
  clear hq
  have HC0 := Lib.hid hC
  have HLT := Lib.hid hlt
  clear hC hlt
  clear hW1 b1 g1 g2 bb
  go_wp2_with (first | rw [HW1.out] | fail)
  refine (HS45.out _).mono ?_
  rintro e w2 ⟨rfl, b2⟩
  clear c0 c1 c2 c3
  have HT2 := Lib.hid ((b2.block _ (ltH HT1.out)).trans HT1.out)
  obtain ⟨c0, c1, c2, c3⟩ := cells4 HT2.out
  have HB2 := Lib.hid (HB1.out.trans (b2.mono HB1.out.size))
  have HG2 := Lib.hid ((b2.block _ (ltH HG1.out)).trans HG1.out)
  have HI2 := Lib.hid (HI1.out.below b2)
  clear b2
  have HR := Lib.hid (HC0.out w2 (HI2.out.at HLT.out))
  go_wp2_with fail
  refine HR.out.mono ?_
  rintro x w3 ⟨b3, hp⟩
  clear c0 c1 c2 c3
  have HT3 := Lib.hid ((b3.block _ (ltH HT2.out)).trans HT2.out)
  obtain ⟨c0, c1, c2, c3⟩ := cells4 HT3.out
  have HB3 := Lib.hid (HB2.out.trans (b3.mono HB2.out.size))
  have HG3 := Lib.hid ((b3.block _ (ltH HG2.out)).trans HG2.out)
  have HI3 := Lib.hid (HI2.out.below b3)
  have HZ3 := Lib.hid b3.size
  clear b3
  cases r with
  | out => exact hp.elim
  | bad n =>
    subst hp
    simp only [exV]
    obtain ⟨w4, hVB⟩ : ∃ V, w3.alloc (.cells #[.int .i64 zeroX.k, .int .i64 zeroX.o, .string zeroX.s, .int .i64 zeroX.v, nilX] TX) = V := ⟨_, rfl⟩
    have b4 : Below w3.heap.size w3 w4 := by rw [← hVB]; exact (Below.refl _ _).alloc (Nat.le_refl _) _
    have HE4 : Hid (w4.heap[w3.heap.size]? = some (.cells #[.int .i64 zeroX.k, .int .i64 zeroX.o, .string zeroX.s, .int .i64 zeroX.v, nilX] TX (0, 0))) := Lib.hid (by rw [← hVB]; exact heapNew _ _)
    have HT4 := Lib.hid ((b4.block _ (ltH HT3.out)).trans HT3.out)
    have HB4 := Lib.hid (HB3.out.trans (b4.mono HB3.out.size))
    have HG4 := Lib.hid ((b4.block _ (ltH HG3.out)).trans HG3.out)
    have HI4 := Lib.hid (HI3.out.below b4)
    have HVB := Lib.hid hVB
    clear b4 hVB
    go_wp2_with (first | rw [HVB.out] | refine wpList_store_row rfl TX (.tmp 4) (.tmp 65) rfl w.heap.size #[.int .i64 0, .int .i64 0, .string ⟨#[]⟩, .int .i64 0, nilX] rfl rfl _ _ HG4.out (by kernel_rfl) rfl (by simp [Value.oneCell']) ?_)
    try simp only [Exit.inBlock, Exit.then]
    have hgf := setRow_heap _ w.heap.size _ #[.int .i64 0, .int .i64 0, .string ⟨#[]⟩, .int .i64 0, nilX] _ _ HG4.out
    refine bodyPost_ret (ret_x3 Tryd.results52 _ w.heap.size zeroX nilX _ _ _ hgf rfl rfl rfl) rfl ?_
    exact ⟨below_setRow HB4.out (Nat.le_refl _) _, by show Ending.returned _ = Ending.returned _; rw [show k + (n + 1) = k + 1 + n by omega]; rfl⟩
  | ok e n =>
    obtain ⟨sa, sn, sc, rfl, hk⟩ := hp
    obtain ⟨k', o', s', v', es⟩ := e
    simp only [exV, Ex.k, Ex.o, Ex.s, Ex.v]
    obtain ⟨w4, hVE⟩ : ∃ V, w3.alloc (.cells #[.int .i64 k', .int .i64 o', .string s', .int .i64 v', .slice sa sn sc] TX) = V := ⟨_, rfl⟩
    have b4 : Below w3.heap.size w3 w4 := by rw [← hVE]; exact (Below.refl _ _).alloc (Nat.le_refl _) _
    have HE4 : Hid (w4.heap[w3.heap.size]? = some (.cells #[.int .i64 k', .int .i64 o', .string s', .int .i64 v', .slice sa sn sc] TX (0, 0))) := Lib.hid (by rw [← hVE]; exact heapNew _ _)
    have HT4 := Lib.hid ((b4.block _ (ltH HT3.out)).trans HT3.out)
    have HB4 := Lib.hid (HB3.out.trans (b4.mono HB3.out.size))
    have HG4 := Lib.hid ((b4.block _ (ltH HG3.out)).trans HG3.out)
    have HI4 := Lib.hid (HI3.out.below b4)
    have HVE := Lib.hid hVE
    have HK4 := Lib.hid (kaMono (KA.carry hk b4) (show w.heap.size + 1 ≤ w2.heap.size from ltH HG2.out))
    have HKZ := Lib.hid (show w.heap.size + 1 ≤ w3.heap.size from ltH HG3.out)
    clear b4 hVE hk c0 c1 c2 c3
    obtain ⟨c0, c1, c2, c3⟩ := cells4 HT4.out
    go_wp2_with (first | rw [HVE.out] | fail)
    refine (HS33.out _).mono ?_
    rintro e w5 ⟨rfl, b5⟩
    have HE5 := Lib.hid ((b5.block _ (ltH HE4.out)).trans HE4.out)
    obtain ⟨d0, d1, d2, d3, d4⟩ := cells5 HE5.out
    have HB5 := Lib.hid (HB4.out.trans (b5.mono HB4.out.size))
    have HG5 := Lib.hid ((b5.block _ (ltH HG4.out)).trans HG4.out)
    have HK5 := Lib.hid (KA.carry HK4.out b5)
    have HKY := Lib.hid (show w.heap.size + 1 ≤ w5.heap.size from ltH HG5.out)
    clear b5
    obtain ⟨w6, hVS⟩ : ∃ V, w5.alloc (.cells #[.int .i64 k', .int .i64 o', .string s', .int .i64 v', .slice sa sn sc] TX) = V := ⟨_, rfl⟩
    have b6 : Below w5.heap.size w5 w6 := by rw [← hVS]; exact (Below.refl _ _).alloc (Nat.le_refl _) _
    have hE : w6.heap[w5.heap.size]? = some (.cells #[.int .i64 k', .int .i64 o', .string s', .int .i64 v', .slice sa sn sc] TX (0, 0)) := by rw [← hVS]; exact heapNew _ _
    have HB6 := Lib.hid (HB5.out.trans (b6.mono HB5.out.size))
    have HG6 := Lib.hid ((b6.block _ (ltH HG5.out)).trans HG5.out)
    have HA := Lib.hid (ka_one (B := w.heap.size + 1) (x := .mk k' o' s' v' es) HKY.out (KA.carry HK5.out b6) hE)
    have HVS := Lib.hid hVS
    clear b6 hE hVS
    go_wp2_with (first | rw [HVS.out]; refine wpList_store_row rfl TX (.tmp 4) (.tmp 72) rfl w.heap.size #[.int .i64 3, .int .i64 1, .string ⟨#[]⟩, .int .i64 0, .slice (some ⟨w5.heap.size, 0, none⟩) 1 1] rfl rfl _ _ HG6.out (by kernel_rfl) rfl (by simp [Value.oneCell']) ?_)
    try simp only [Exit.inBlock, Exit.then]
    have hgf := setRow_heap _ w.heap.size _ #[.int .i64 3, .int .i64 1, .string ⟨#[]⟩, .int .i64 0, .slice (some ⟨w5.heap.size, 0, none⟩) 1 1] _ _ HG6.out
    refine bodyPost_ret (ret_x3 Tryd.results52 _ w.heap.size (umX 1 (.mk k' o' s' v' es)) (.slice (some ⟨w5.heap.size, 0, none⟩) 1 1) _ _ _ hgf rfl rfl rfl) rfl ?_
    refine ⟨below_setRow HB6.out (Nat.le_refl _) _, _, _, _, by show Ending.returned _ = Ending.returned _; rw [show k + (n + 1) = k + 1 + n by omega]; rfl, ?_⟩
    exact kaMono (kaRow HA.out (Nat.lt_succ_self w.heap.size) _) (Nat.le_succ w.heap.size)
set_option maxRecDepth 100000 in
set_option maxHeartbeats 8000000 in
theorem roperand_not (w : World) (a : Option Addr) (c : Nat) (ts : List Tk) (k : Nat) (h : RxI w a ts k) (r : Rs) (hlt : k + 1 ≤ ts.length) (hC : ∀ V, RxI V a ts (k + 1) → Calls Tryd.prog 52 #[.slice a ts.length c, .int .i64 ((k : Int) + 1)] V (RxP V (k + 1) r)) (x0 : Int) (x1 : ByteArray) (x2 : Int) (x3 : Nat) (hx : gk ts k = ⟨x0, x1, x2, x3⟩) (k2 : (x0 == 2) = false) (k1 : (x0 == 1) = false) (m45 : isS ⟨x0, x1, x2, x3⟩ ⟨#[45]⟩ = false) (m33 : isS ⟨x0, x1, x2, x3⟩ ⟨#[33]⟩ = true) :
    Calls Tryd.prog 52 #[.slice a ts.length c, .int .i64 (k : Int)] w (RxP w k (r.un 2)) := by
  obtain ⟨W, hW⟩ : ∃ W, w.alloc (.cells #[.int .i64 0, .int .i64 0, .string ⟨#[]⟩, .int .i64 0, nilX] TX) = W := ⟨_, rfl⟩
  have hb : Below w.heap.size w W := by rw [← hW]; exact (Below.refl _ w).alloc (Nat.le_refl _) _
  have hg : W.heap[w.heap.size]? = some (.cells #[.int .i64 0, .int .i64 0, .string ⟨#[]⟩, .int .i64 0, nilX] TX (0, 0)) := by rw [← hW]; exact heapNew w _
  have hI := h.below hb
  have hsz := gk_sz h.ok k
  have hN := rnext_any a c ts k W hI.tk (by have := hI.ln; omega)
  rw [hx] at hN hsz
  simp only [tkW] at hN
  simp only at hsz
  have hk40 : (k : Int) ≤ 4001 := by have := h.ln; have := h.kl; omega
  have HN := Lib.hid hN
  have H0 := Lib.hid h
  have HG := Lib.hid hg
  have HB := Lib.hid hb
  have HI := Lib.hid hI
  have HX := Lib.hid hx
  have HW := Lib.hid hW
  clear hI hb hg h hN hx hW
  go_enter Tryd.func52, Tryd.ntmps52
  go_wp2_with fail
  try rw [HW.out]
  refine HN.out.mono ?_
  rintro e w1 ⟨⟨av, rfl⟩, b1⟩
  obtain ⟨W1, hW1⟩ : ∃ V, w1.alloc (.cells #[.int .i64 x0, .string x1, .int .i64 x2, .int .i64 av] TTk) = V := ⟨_, rfl⟩
  obtain ⟨g1, g2⟩ := varKi w1 _ _ _ _ W1 hW1
  obtain ⟨c0, c1, c2, c3⟩ := cells4 g1
  have HW1 := Lib.hid hW1
  have HT1 := Lib.hid g1
  have bb := b1.trans (g2.mono b1.size)
  have HB1 := Lib.hid (HB.out.trans (bb.mono HB.out.size))
  have HG1 := Lib.hid ((bb.block _ (ltH HG.out)).trans HG.out)
  have HI1 := Lib.hid (HI.out.below bb)
  have HGT := Lib.hid (Nat.lt_of_lt_of_le (ltH HG.out) b1.size)
  have hq := fun V => ris_any ⟨x0, x1, x2, x3⟩ av ⟨#[45]⟩ V
  simp only [tkW, m45] at hq
  have HS45 := Lib.hid hq
  clear hq
  have hq := fun V => ris_any ⟨x0, x1, x2, x3⟩ av ⟨#[33]⟩ V
  simp only [tkW, m33] at hq
  have HS33 := Lib.hid hq
  clear hq
  have HC0 := Lib.hid hC
  have HLT := Lib.hid hlt
  clear hC hlt
  clear hW1 b1 g1 g2 bb
  go_wp2_with (first | rw [HW1.out] | fail)
  refine (HS45.out _).mono ?_
  rintro e w2 ⟨rfl, b2⟩
  clear c0 c1 c2 c3
  have HT2 := Lib.hid ((b2.block _ (ltH HT1.out)).trans HT1.out)
  obtain ⟨c0, c1, c2, c3⟩ := cells4 HT2.out
  have HB2 := Lib.hid (HB1.out.trans (b2.mono HB1.out.size))
  have HG2 := Lib.hid ((b2.block _ (ltH HG1.out)).trans HG1.out)
  have HI2 := Lib.hid (HI1.out.below b2)
  clear b2
  go_wp2_with (first | rw [HW1.out] | fail)
  refine (HS33.out _).mono ?_
  rintro e w3 ⟨rfl, b3⟩
  clear c0 c1 c2 c3
  have HT3 := Lib.hid ((b3.block _ (ltH HT2.out)).trans HT2.out)
  obtain ⟨c0, c1, c2, c3⟩ := cells4 HT3.out
  have HB3 := Lib.hid (HB2.out.trans (b3.mono HB2.out.size))
  have HG3 := Lib.hid ((b3.block _ (ltH HG2.out)).trans HG2.out)
  have HI3 := Lib.hid (HI2.out.below b3)
  clear b3
  have HR := Lib.hid (HC0.out w3 (HI3.out.at HLT.out))
  go_wp2_with fail
  refine HR.out.mono ?_
  rintro x w4 ⟨b4, hp⟩
  clear c0 c1 c2 c3
  have HT4 := Lib.hid ((b4.block _ (ltH HT3.out)).trans HT3.out)
  obtain ⟨c0, c1, c2, c3⟩ := cells4 HT4.out
  have HB4 := Lib.hid (HB3.out.trans (b4.mono HB3.out.size))
  have HG4 := Lib.hid ((b4.block _ (ltH HG3.out)).trans HG3.out)
  have HI4 := Lib.hid (HI3.out.below b4)
  have HZ4 := Lib.hid b4.size
  clear b4
  cases r with
  | out => exact hp.elim
  | bad n =>
    subst hp
    simp only [exV]
    obtain ⟨w5, hVB⟩ : ∃ V, w4.alloc (.cells #[.int .i64 zeroX.k, .int .i64 zeroX.o, .string zeroX.s, .int .i64 zeroX.v, nilX] TX) = V := ⟨_, rfl⟩
    have b5 : Below w4.heap.size w4 w5 := by rw [← hVB]; exact (Below.refl _ _).alloc (Nat.le_refl _) _
    have HE5 : Hid (w5.heap[w4.heap.size]? = some (.cells #[.int .i64 zeroX.k, .int .i64 zeroX.o, .string zeroX.s, .int .i64 zeroX.v, nilX] TX (0, 0))) := Lib.hid (by rw [← hVB]; exact heapNew _ _)
    have HT5 := Lib.hid ((b5.block _ (ltH HT4.out)).trans HT4.out)
    have HB5 := Lib.hid (HB4.out.trans (b5.mono HB4.out.size))
    have HG5 := Lib.hid ((b5.block _ (ltH HG4.out)).trans HG4.out)
    have HI5 := Lib.hid (HI4.out.below b5)
    have HVB := Lib.hid hVB
    clear b5 hVB
    go_wp2_with (first | rw [HVB.out] | refine wpList_store_row rfl TX (.tmp 4) (.tmp 65) rfl w.heap.size #[.int .i64 0, .int .i64 0, .string ⟨#[]⟩, .int .i64 0, nilX] rfl rfl _ _ HG5.out (by kernel_rfl) rfl (by simp [Value.oneCell']) ?_)
    try simp only [Exit.inBlock, Exit.then]
    have hgf := setRow_heap _ w.heap.size _ #[.int .i64 0, .int .i64 0, .string ⟨#[]⟩, .int .i64 0, nilX] _ _ HG5.out
    refine bodyPost_ret (ret_x3 Tryd.results52 _ w.heap.size zeroX nilX _ _ _ hgf rfl rfl rfl) rfl ?_
    exact ⟨below_setRow HB5.out (Nat.le_refl _) _, by show Ending.returned _ = Ending.returned _; rw [show k + (n + 1) = k + 1 + n by omega]; rfl⟩
  | ok e n =>
    obtain ⟨sa, sn, sc, rfl, hk⟩ := hp
    obtain ⟨k', o', s', v', es⟩ := e
    simp only [exV, Ex.k, Ex.o, Ex.s, Ex.v]
    obtain ⟨w5, hVE⟩ : ∃ V, w4.alloc (.cells #[.int .i64 k', .int .i64 o', .string s', .int .i64 v', .slice sa sn sc] TX) = V := ⟨_, rfl⟩
    have b5 : Below w4.heap.size w4 w5 := by rw [← hVE]; exact (Below.refl _ _).alloc (Nat.le_refl _) _
    have HE5 : Hid (w5.heap[w4.heap.size]? = some (.cells #[.int .i64 k', .int .i64 o', .string s', .int .i64 v', .slice sa sn sc] TX (0, 0))) := Lib.hid (by rw [← hVE]; exact heapNew _ _)
    have HT5 := Lib.hid ((b5.block _ (ltH HT4.out)).trans HT4.out)
    have HB5 := Lib.hid (HB4.out.trans (b5.mono HB4.out.size))
    have HG5 := Lib.hid ((b5.block _ (ltH HG4.out)).trans HG4.out)
    have HI5 := Lib.hid (HI4.out.below b5)
    have HVE := Lib.hid hVE
    have HK5 := Lib.hid (kaMono (KA.carry hk b5) (show w.heap.size + 1 ≤ w3.heap.size from ltH HG3.out))
    have HKZ := Lib.hid (show w.heap.size + 1 ≤ w4.heap.size from ltH HG4.out)
    clear b5 hVE hk c0 c1 c2 c3
    obtain ⟨c0, c1, c2, c3⟩ := cells4 HT5.out
    go_wp2_with (first | rw [HVE.out] | fail)
    refine (HS33.out _).mono ?_
    rintro e w6 ⟨rfl, b6⟩
    have HE6 := Lib.hid ((b6.block _ (ltH HE5.out)).trans HE5.out)
    obtain ⟨d0, d1, d2, d3, d4⟩ := cells5 HE6.out
    have HB6 := Lib.hid (HB5.out.trans (b6.mono HB5.out.size))
    have HG6 := Lib.hid ((b6.block _ (ltH HG5.out)).trans HG5.out)
    have HK6 := Lib.hid (KA.carry HK5.out b6)
    have HKY := Lib.hid (show w.heap.size + 1 ≤ w6.heap.size from ltH HG6.out)
    clear b6
    obtain ⟨w7, hVS⟩ : ∃ V, w6.alloc (.cells #[.int .i64 k', .int .i64 o', .string s', .int .i64 v', .slice sa sn sc] TX) = V := ⟨_, rfl⟩
    have b7 : Below w6.heap.size w6 w7 := by rw [← hVS]; exact (Below.refl _ _).alloc (Nat.le_refl _) _
    have hE : w7.heap[w6.heap.size]? = some (.cells #[.int .i64 k', .int .i64 o', .string s', .int .i64 v', .slice sa sn sc] TX (0, 0)) := by rw [← hVS]; exact heapNew _ _
    have HB7 := Lib.hid (HB6.out.trans (b7.mono HB6.out.size))
    have HG7 := Lib.hid ((b7.block _ (ltH HG6.out)).trans HG6.out)
    have HA := Lib.hid (ka_one (B := w.heap.size + 1) (x := .mk k' o' s' v' es) HKY.out (KA.carry HK6.out b7) hE)
    have HVS := Lib.hid hVS
    clear b7 hE hVS
    go_wp2_with (first | rw [HVS.out]; refine wpList_store_row rfl TX (.tmp 4) (.tmp 72) rfl w.heap.size #[.int .i64 3, .int .i64 2, .string ⟨#[]⟩, .int .i64 0, .slice (some ⟨w6.heap.size, 0, none⟩) 1 1] rfl rfl _ _ HG7.out (by kernel_rfl) rfl (by simp [Value.oneCell']) ?_)
    try simp only [Exit.inBlock, Exit.then]
    have hgf := setRow_heap _ w.heap.size _ #[.int .i64 3, .int .i64 2, .string ⟨#[]⟩, .int .i64 0, .slice (some ⟨w6.heap.size, 0, none⟩) 1 1] _ _ HG7.out
    refine bodyPost_ret (ret_x3 Tryd.results52 _ w.heap.size (umX 2 (.mk k' o' s' v' es)) (.slice (some ⟨w6.heap.size, 0, none⟩) 1 1) _ _ _ hgf rfl rfl rfl) rfl ?_
    refine ⟨below_setRow HB7.out (Nat.le_refl _) _, _, _, _, by show Ending.returned _ = Ending.returned _; rw [show k + (n + 1) = k + 1 + n by omega]; rfl, ?_⟩
    exact kaMono (kaRow HA.out (Nat.lt_succ_self w.heap.size) _) (Nat.le_succ w.heap.size)
set_option maxRecDepth 100000 in
set_option maxHeartbeats 8000000 in
theorem roperand_par (w : World) (a : Option Addr) (c : Nat) (ts : List Tk) (k : Nat) (h : RxI w a ts k) (r : Rs) (hlt : k + 1 ≤ ts.length) (hokn : ∀ n, (∃ e, r = .ok e n) → k + 1 + n ≤ ts.length) (hC : ∀ V, RxI V a ts (k + 1) → Calls Tryd.prog 35 #[.slice a ts.length c, .int .i64 ((k : Int) + 1), .int .i64 1] V (RxP V (k + 1) r)) (x0 : Int) (x1 : ByteArray) (x2 : Int) (x3 : Nat) (hx : gk ts k = ⟨x0, x1, x2, x3⟩) (k2 : (x0 == 2) = false) (k1 : (x0 == 1) = false) (m45 : isS ⟨x0, x1, x2, x3⟩ ⟨#[45]⟩ = false) (m33 : isS ⟨x0, x1, x2, x3⟩ ⟨#[33]⟩ = false) (m40 : isS ⟨x0, x1, x2, x3⟩ ⟨#[40]⟩ = true) :
    Calls Tryd.prog 52 #[.slice a ts.length c, .int .i64 (k : Int)] w (RxP w k (parR (ts.drop k) r)) := by
  obtain ⟨W, hW⟩ : ∃ W, w.alloc (.cells #[.int .i64 0, .int .i64 0, .string ⟨#[]⟩, .int .i64 0, nilX] TX) = W := ⟨_, rfl⟩
  have hb : Below w.heap.size w W := by rw [← hW]; exact (Below.refl _ w).alloc (Nat.le_refl _) _
  have hg : W.heap[w.heap.size]? = some (.cells #[.int .i64 0, .int .i64 0, .string ⟨#[]⟩, .int .i64 0, nilX] TX (0, 0)) := by rw [← hW]; exact heapNew w _
  have hI := h.below hb
  have hsz := gk_sz h.ok k
  have hN := rnext_any a c ts k W hI.tk (by have := hI.ln; omega)
  rw [hx] at hN hsz
  simp only [tkW] at hN
  simp only at hsz
  have hk40 : (k : Int) ≤ 4001 := by have := h.ln; have := h.kl; omega
  have HN := Lib.hid hN
  have H0 := Lib.hid h
  have HG := Lib.hid hg
  have HB := Lib.hid hb
  have HI := Lib.hid hI
  have HX := Lib.hid hx
  have HW := Lib.hid hW
  clear hI hb hg h hN hx hW
  go_enter Tryd.func52, Tryd.ntmps52
  go_wp2_with fail
  try rw [HW.out]
  refine HN.out.mono ?_
  rintro e w1 ⟨⟨av, rfl⟩, b1⟩
  obtain ⟨W1, hW1⟩ : ∃ V, w1.alloc (.cells #[.int .i64 x0, .string x1, .int .i64 x2, .int .i64 av] TTk) = V := ⟨_, rfl⟩
  obtain ⟨g1, g2⟩ := varKi w1 _ _ _ _ W1 hW1
  obtain ⟨c0, c1, c2, c3⟩ := cells4 g1
  have HW1 := Lib.hid hW1
  have HT1 := Lib.hid g1
  have bb := b1.trans (g2.mono b1.size)
  have HB1 := Lib.hid (HB.out.trans (bb.mono HB.out.size))
  have HG1 := Lib.hid ((bb.block _ (ltH HG.out)).trans HG.out)
  have HI1 := Lib.hid (HI.out.below bb)
  have HGT := Lib.hid (Nat.lt_of_lt_of_le (ltH HG.out) b1.size)
  have hq := fun V => ris_any ⟨x0, x1, x2, x3⟩ av ⟨#[45]⟩ V
  simp only [tkW, m45] at hq
  have HS45 := Lib.hid hq
  clear hq
  have hq := fun V => ris_any ⟨x0, x1, x2, x3⟩ av ⟨#[33]⟩ V
  simp only [tkW, m33] at hq
  have HS33 := Lib.hid hq
  clear hq
  have hq := fun V => ris_any ⟨x0, x1, x2, x3⟩ av ⟨#[40]⟩ V
  simp only [tkW, m40] at hq
  have HS40 := Lib.hid hq
  clear hq
  have HC0 := Lib.hid hC
  have HLT := Lib.hid hlt
  have HOKN := Lib.hid hokn
  clear hC hlt hokn
  clear hW1 b1 g1 g2 bb
  go_wp2_with (first | rw [HW1.out] | fail)
  refine (HS45.out _).mono ?_
  rintro e w2 ⟨rfl, b2⟩
  clear c0 c1 c2 c3
  have HT2 := Lib.hid ((b2.block _ (ltH HT1.out)).trans HT1.out)
  obtain ⟨c0, c1, c2, c3⟩ := cells4 HT2.out
  have HB2 := Lib.hid (HB1.out.trans (b2.mono HB1.out.size))
  have HG2 := Lib.hid ((b2.block _ (ltH HG1.out)).trans HG1.out)
  have HI2 := Lib.hid (HI1.out.below b2)
  clear b2
  go_wp2_with (first | rw [HW1.out] | fail)
  refine (HS33.out _).mono ?_
  rintro e w3 ⟨rfl, b3⟩
  clear c0 c1 c2 c3
  have HT3 := Lib.hid ((b3.block _ (ltH HT2.out)).trans HT2.out)
  obtain ⟨c0, c1, c2, c3⟩ := cells4 HT3.out
  have HB3 := Lib.hid (HB2.out.trans (b3.mono HB2.out.size))
  have HG3 := Lib.hid ((b3.block _ (ltH HG2.out)).trans HG2.out)
  have HI3 := Lib.hid (HI2.out.below b3)
  clear b3
  go_wp2_with (first | rw [HW1.out] | fail)
  refine (HS40.out _).mono ?_
  rintro e w4 ⟨rfl, b4⟩
  clear c0 c1 c2 c3
  have HT4 := Lib.hid ((b4.block _ (ltH HT3.out)).trans HT3.out)
  obtain ⟨c0, c1, c2, c3⟩ := cells4 HT4.out
  have HB4 := Lib.hid (HB3.out.trans (b4.mono HB3.out.size))
  have HG4 := Lib.hid ((b4.block _ (ltH HG3.out)).trans HG3.out)
  have HI4 := Lib.hid (HI3.out.below b4)
  clear b4
  have HR := Lib.hid (HC0.out w4 (HI4.out.at HLT.out))
  go_wp2_with fail
  refine HR.out.mono ?_
  rintro x w5 ⟨b5, hp⟩
  clear c0 c1 c2 c3
  have HT5 := Lib.hid ((b5.block _ (ltH HT4.out)).trans HT4.out)
  obtain ⟨c0, c1, c2, c3⟩ := cells4 HT5.out
  have HB5 := Lib.hid (HB4.out.trans (b5.mono HB4.out.size))
  have HG5 := Lib.hid ((b5.block _ (ltH HG4.out)).trans HG4.out)
  have HI5 := Lib.hid (HI4.out.below b5)
  have HZ5 := Lib.hid b5.size
  clear b5
  cases r with
  | out => exact hp.elim
  | bad n =>
    subst hp
    simp only [exV]
    obtain ⟨w6, hVB⟩ : ∃ V, w5.alloc (.cells #[.int .i64 zeroX.k, .int .i64 zeroX.o, .string zeroX.s, .int .i64 zeroX.v, nilX] TX) = V := ⟨_, rfl⟩
    have b6 : Below w5.heap.size w5 w6 := by rw [← hVB]; exact (Below.refl _ _).alloc (Nat.le_refl _) _
    have HE6 : Hid (w6.heap[w5.heap.size]? = some (.cells #[.int .i64 zeroX.k, .int .i64 zeroX.o, .string zeroX.s, .int .i64 zeroX.v, nilX] TX (0, 0))) := Lib.hid (by rw [← hVB]; exact heapNew _ _)
    have HT6 := Lib.hid ((b6.block _ (ltH HT5.out)).trans HT5.out)
    have HB6 := Lib.hid (HB5.out.trans (b6.mono HB5.out.size))
    have HG6 := Lib.hid ((b6.block _ (ltH HG5.out)).trans HG5.out)
    have HI6 := Lib.hid (HI5.out.below b6)
    have HVB := Lib.hid hVB
    clear b6 hVB
    go_wp2_with (first | rw [HVB.out] | refine wpList_store_row rfl TX (.tmp 4) (.tmp 89) rfl w.heap.size #[.int .i64 0, .int .i64 0, .string ⟨#[]⟩, .int .i64 0, nilX] rfl rfl _ _ HG6.out (by kernel_rfl) rfl (by simp [Value.oneCell']) ?_)
    try simp only [Exit.inBlock, Exit.then]
    have hgf := setRow_heap _ w.heap.size _ #[.int .i64 0, .int .i64 0, .string ⟨#[]⟩, .int .i64 0, nilX] _ _ HG6.out
    refine bodyPost_ret (ret_x3 Tryd.results52 _ w.heap.size zeroX nilX _ _ _ hgf rfl rfl rfl) rfl ?_
    exact ⟨below_setRow HB6.out (Nat.le_refl _) _, by show Ending.returned _ = Ending.returned _; rw [show k + (n + 1) = k + 1 + n by omega]; rfl⟩
  | ok e n =>
    obtain ⟨sa, sn, sc, rfl, hk⟩ := hp
    obtain ⟨k', o', s', v', es⟩ := e
    simp only [exV, Ex.k, Ex.o, Ex.s, Ex.v]
    obtain ⟨w6, hVE⟩ : ∃ V, w5.alloc (.cells #[.int .i64 k', .int .i64 o', .string s', .int .i64 v', .slice sa sn sc] TX) = V := ⟨_, rfl⟩
    have b6 : Below w5.heap.size w5 w6 := by rw [← hVE]; exact (Below.refl _ _).alloc (Nat.le_refl _) _
    have HE6 : Hid (w6.heap[w5.heap.size]? = some (.cells #[.int .i64 k', .int .i64 o', .string s', .int .i64 v', .slice sa sn sc] TX (0, 0))) := Lib.hid (by rw [← hVE]; exact heapNew _ _)
    have HT6 := Lib.hid ((b6.block _ (ltH HT5.out)).trans HT5.out)
    have HB6 := Lib.hid (HB5.out.trans (b6.mono HB5.out.size))
    have HG6 := Lib.hid ((b6.block _ (ltH HG5.out)).trans HG5.out)
    have HI6 := Lib.hid (HI5.out.below b6)
    have HVE := Lib.hid hVE
    have HK6 := Lib.hid (kaMono (KA.carry hk b6) (show w.heap.size + 1 ≤ w4.heap.size from ltH HG4.out))
    obtain ⟨q, hq⟩ : ∃ q, k + 1 + n = q := ⟨_, rfl⟩
    have hn := rnext_any a c ts q w6 HI6.out.tk (by have := HI6.out.ln; omega)
    obtain ⟨⟨y0, y1, y2, y3⟩, hy⟩ : ∃ y, gk ts q = y := ⟨_, rfl⟩
    have hdd : (ts.drop k).drop (n + 1) = ts.drop q := by rw [List.drop_drop, ← hq]; congr 1; omega
    have hpar : parR (ts.drop k) (.ok (.mk k' o' s' v' es) n) = if isS ⟨y0, y1, y2, y3⟩ ⟨#[41]⟩ = true then .ok (.mk k' o' s' v' es) (n + 1 + 1) else .bad (n + 1) := by
      unfold parR; simp only [Rs.up, Rs.thenLop]; rw [hdd, hdT_gk, hy]
    rw [hy] at hn
    simp only [tkW] at hn
    have HNQ := Lib.hid hn
    have hq40 : (q : Int) ≤ 4001 := by have := HOKN.out n ⟨_, rfl⟩; have := HI6.out.ln; omega
    have HQ := Lib.hid hq
    rw [hq]
    have HPAR := Lib.hid hpar
    clear b6 hVE hk c0 c1 c2 c3 hn hdd hpar hy hq
    go_wp2_with (first | rw [HVE.out] | fail)
    refine HNQ.out.mono ?_
    rintro e w7 ⟨⟨av2, rfl⟩, b7⟩
    have HE7 := Lib.hid ((b7.block _ (ltH HE6.out)).trans HE6.out)
    have HB7 := Lib.hid (HB6.out.trans (b7.mono HB6.out.size))
    have HG7 := Lib.hid ((b7.block _ (ltH HG6.out)).trans HG6.out)
    have HK7 := Lib.hid (KA.carry HK6.out b7)
    clear b7
    have hq2 := fun V => ris_any ⟨y0, y1, y2, y3⟩ av2 ⟨#[41]⟩ V
    simp only [tkW] at hq2
    cases h41 : isS ⟨y0, y1, y2, y3⟩ ⟨#[41]⟩ with
    | true =>
      simp only [h41] at hq2
      have HQ2 := Lib.hid hq2
      have H41 := Lib.hid h41
      clear hq2 h41
      go_wp2_with fail
      refine (HQ2.out _).mono ?_
      rintro e w8 ⟨rfl, b8⟩
      have HE8 := Lib.hid ((b8.block _ (ltH HE7.out)).trans HE7.out)
      obtain ⟨d0, d1, d2, d3, d4⟩ := cells5 HE8.out
      have HB8 := Lib.hid (HB7.out.trans (b8.mono HB7.out.size))
      have HG8 := Lib.hid ((b8.block _ (ltH HG7.out)).trans HG7.out)
      have HK8 := Lib.hid (KA.carry HK7.out b8)
      clear b8
      go_wp2_with (refine wpList_store_row rfl TX (.tmp 4) (.tmp 98) rfl w.heap.size #[.int .i64 k', .int .i64 o', .string s', .int .i64 v', .slice sa sn sc] rfl rfl _ _ HG8.out (by kernel_rfl) rfl (by simp [Value.oneCell']) ?_)
      try simp only [Exit.inBlock, Exit.then]
      have hgf := setRow_heap _ w.heap.size _ #[.int .i64 k', .int .i64 o', .string s', .int .i64 v', .slice sa sn sc] _ _ HG8.out
      refine bodyPost_ret (ret_x3 Tryd.results52 _ w.heap.size (.mk k' o' s' v' es) (.slice sa sn sc) _ _ _ hgf rfl rfl rfl) rfl ?_
      rw [HPAR.out, if_pos H41.out]
      refine ⟨below_setRow HB8.out (Nat.le_refl _) _, _, _, _, by show Ending.returned _ = Ending.returned _; rw [show k + (n + 1 + 1) = q + 1 by have := HQ.out; omega]; rfl, ?_⟩
      exact kaMono (kaRow HK8.out (Nat.lt_succ_self w.heap.size) _) (Nat.le_succ w.heap.size)
    | false =>
      simp only [h41] at hq2
      have HQ2 := Lib.hid hq2
      have H41 := Lib.hid h41
      clear hq2 h41
      go_wp2_with fail
      refine (HQ2.out _).mono ?_
      rintro e w8 ⟨rfl, b8⟩
      have HE8 := Lib.hid ((b8.block _ (ltH HE7.out)).trans HE7.out)
      obtain ⟨d0, d1, d2, d3, d4⟩ := cells5 HE8.out
      have HB8 := Lib.hid (HB7.out.trans (b8.mono HB7.out.size))
      have HG8 := Lib.hid ((b8.block _ (ltH HG7.out)).trans HG7.out)
      have HK8 := Lib.hid (KA.carry HK7.out b8)
      clear b8
      go_wp2_with (refine wpList_store_row rfl TX (.tmp 4) (.tmp 96) rfl w.heap.size #[.int .i64 0, .int .i64 0, .string ⟨#[]⟩, .int .i64 0, nilX] rfl rfl _ _ HG8.out (by kernel_rfl) rfl (by simp [Value.oneCell']) ?_)
      try simp only [Exit.inBlock, Exit.then]
      have hgf := setRow_heap _ w.heap.size _ #[.int .i64 0, .int .i64 0, .string ⟨#[]⟩, .int .i64 0, nilX] _ _ HG8.out
      refine bodyPost_ret (ret_x3 Tryd.results52 _ w.heap.size zeroX nilX _ _ _ hgf rfl rfl rfl) rfl ?_
      rw [HPAR.out, if_neg (by rw [H41.out]; decide)]
      refine ⟨below_setRow HB8.out (Nat.le_refl _) _, by show Ending.returned _ = Ending.returned _; rw [show k + (n + 1) = q by have := HQ.out; omega]; rfl⟩

theorem roperand_any (f : Nat) (hO : ROpd f) (hE : RExp f) : ROpd (f + 1) := by
  intro w a c ts k h hne
  obtain ⟨⟨x0, x1, x2, x3⟩, hx⟩ : ∃ x, gk ts k = x := ⟨_, rfl⟩
  have hhd : hdT (ts.drop k) = ⟨x0, x1, x2, x3⟩ := by rw [hdT_gk, hx]
  have hlt : ∀ y, isS ⟨x0, x1, x2, x3⟩ y = true → k + 1 ≤ ts.length := fun y hy => isS_lt (x := y) (by rw [hhd]; exact hy)
  have hno : ∀ y, x0 ≠ 3 → isS ⟨x0, x1, x2, x3⟩ y = false := fun y hy => by unfold isS; simp [hy]
  rw [ps, hhd, drop1] at hne ⊢
  by_cases h2 : x0 = 2
  · have hs : ∀ y, isS ⟨x0, x1, x2, x3⟩ y = false := fun y => hno y (by omega)
    subst h2
    cases hd : dgB x1 x2 with
    | true =>
      have hl : leafT ⟨2, x1, x2, x3⟩ = some (.mk 1 0 .empty x2 []) := by unfold leafT; rw [if_pos rfl, if_pos (by simpa [dgB] using hd)]
      rw [hl]
      exact roperand_dig w a c ts k h x1 x2 x3 hx hd
    | false =>
      have hl : leafT ⟨2, x1, x2, x3⟩ = none := by unfold leafT; rw [if_pos rfl, if_neg (by simpa [dgB] using hd)]
      rw [hl]
      simp only [hs, Bool.false_eq_true, if_false]
      exact roperand_bad2 w a c ts k h x1 x2 x3 hx hd (hs _) (hs _) (hs _)
  · by_cases h1 : x0 = 1
    · have hs : ∀ y, isS ⟨x0, x1, x2, x3⟩ y = false := fun y => hno y (by omega)
      subst h1
      cases hn : nmB x1 with
      | true =>
        cases hw : kwB x1 with
        | false =>
          have hl : leafT ⟨1, x1, x2, x3⟩ = some (.mk 2 0 x1 0 []) := by unfold leafT; rw [if_neg (by simp), if_pos rfl, if_pos ⟨hn, hw⟩]
          rw [hl]
          exact roperand_nam w a c ts k h x1 x2 x3 hx hn hw
        | true =>
          have hl : leafT ⟨1, x1, x2, x3⟩ = none := by unfold leafT; rw [if_neg (by simp), if_pos rfl, if_neg (by rw [hw]; simp)]
          rw [hl]
          simp only [hs, Bool.false_eq_true, if_false]
          exact roperand_badk w a c ts k h x1 x2 x3 hx hn hw (hs _) (hs _) (hs _)
      | false =>
        have hl : leafT ⟨1, x1, x2, x3⟩ = none := by unfold leafT; rw [if_neg (by simp), if_pos rfl, if_neg (by rw [hn]; simp)]
        rw [hl]
        simp only [hs, Bool.false_eq_true, if_false]
        exact roperand_badn w a c ts k h x1 x2 x3 hx hn (hs _) (hs _) (hs _)
    · have hl : leafT ⟨x0, x1, x2, x3⟩ = none := by unfold leafT; rw [if_neg h2, if_neg h1]
      have k2 : (x0 == 2) = false := by simpa using h2
      have k1 : (x0 == 1) = false := by simpa using h1
      rw [hl] at hne ⊢
      simp only at hne ⊢
      cases m45 : isS ⟨x0, x1, x2, x3⟩ ⟨#[45]⟩ with
      | true =>
        have m33 : isS ⟨x0, x1, x2, x3⟩ ⟨#[33]⟩ = false := by
          unfold isS at m45 ⊢
          simp only [Bool.and_eq_true, decide_eq_true_eq] at m45
          rw [m45.2]; simp
        rw [m45, if_pos rfl] at hne
        rw [if_pos rfl]
        exact roperand_min w a c ts k h _ (hlt _ m45) (fun V hV => hO V a c ts (k + 1) hV (fun e => hne (by rw [e]; rfl))) x0 x1 x2 x3 hx k2 k1 m45 m33
      | false =>
        rw [m45, if_neg (by simp)] at hne
        rw [if_neg (by simp)]
        cases m33 : isS ⟨x0, x1, x2, x3⟩ ⟨#[33]⟩ with
        | true =>
          rw [m33, if_pos rfl] at hne
          rw [if_pos rfl]
          exact roperand_not w a c ts k h _ (hlt _ m33) (fun V hV => hO V a c ts (k + 1) hV (fun e => hne (by rw [e]; rfl))) x0 x1 x2 x3 hx k2 k1 m45 m33
        | false =>
          rw [m33, if_neg (by simp)] at hne
          rw [if_neg (by simp)]
          cases m40 : isS ⟨x0, x1, x2, x3⟩ ⟨#[40]⟩ with
          | true =>
            rw [m40, if_pos rfl] at hne
            rw [if_pos rfl]
            refine roperand_par w a c ts k h _ (hlt _ m40) ?_ (fun V hV => hE 1 V a c ts (k + 1) (by omega) (by omega) hV (fun e => hne (by rw [e]; rfl))) x0 x1 x2 x3 hx k2 k1 m45 m33 m40
            rintro n ⟨e, he⟩
            have := ps_ok f (.exp 1) (ts.drop (k + 1)) trivial
            rw [he] at this
            have h3 := this.1
            have h4 := hlt _ m40
            simp only [List.length_drop] at h3
            omega
          | false =>
            rw [if_neg (by simp)]
            exact roperand_badx w a c ts k h x0 x1 x2 x3 hx k2 k1 m45 m33 m40

/-! ### expression -/
/-- What the loop has before a round. -/
structure RLo (w : World) (ts : List Tk) (k p G : Nat) (Rr : Rs) (f : Nat) (wr : World) (j : Nat) (e : Ex) (sa : Option Addr) (sn sc : Nat) : Prop where
  jl : j ≤ ts.length
  ce : wr.heap[G]? = some (.cells #[.int .i64 e.k, .int .i64 e.o, .string e.s, .int .i64 e.v, .slice sa sn sc] TX (0, 0))
  ka : KA (Ph w.heap.size G) wr e.es (.slice sa sn sc)
  bu : Below w.heap.size w wr
  rs : wr.heap[w.heap.size]? = some (.cells #[.int .i64 0, .int .i64 0, .string ⟨#[]⟩, .int .i64 0, nilX] TX (0, 0))
  gl : w.heap.size < G
  ij : k ≤ j
  pss : ∃ g r, g ≤ f ∧ ps g (.lop p e) (ts.drop j) = r ∧ r ≠ .out ∧ Rr = r.up (j - k)
section
variable {w : World} {ts : List Tk} {i p G : Nat} {Rr : Rs} {f : Nat} {wr V : World} {j : Nat} {e : Ex} {sa : Option Addr} {sn sc : Nat}
theorem RLo.below (h : RLo w ts i p G Rr f wr j e sa sn sc) (hb : Below wr.heap.size wr V) : RLo w ts i p G Rr f V j e sa sn sc :=
  ⟨h.jl, (hb.block _ (ltH h.ce)).trans h.ce, KA.carry h.ka hb, h.bu.trans (hb.mono h.bu.size), (hb.block _ (ltH h.rs)).trans h.rs, h.gl, h.ij, h.pss⟩
theorem RLo.stop (h : RLo w ts i p G Rr f wr j e sa sn sc) (hp : pcP (opN (hdT (ts.drop j))) ≠ p) : Rr = .ok e (j - i) := by
  obtain ⟨g, r, hg, h1, h2, h3⟩ := h.pss
  cases g with
  | zero => exact absurd h1.symm h2
  | succ g =>
    rw [ps, if_pos hp] at h1
    rw [h3, ← h1]
    simp [Rs.up]
theorem RLo.more (h : RLo w ts i p G Rr f wr j e sa sn sc) (hp : pcP (opN (hdT (ts.drop j))) = p) :
    ∃ g q, g ≤ f ∧ ps g (.exp (p + 1)) (ts.drop (j + 1)) = q ∧ q ≠ .out ∧ (∀ n, q = .bad n → Rr = .bad (j + 1 + n - i)) ∧
      (∀ x n, q = .ok x n → p = 3 → Rr = .ok (bnX (opN (hdT (ts.drop j))) e x) (j + 1 + n - i)) ∧
      (∀ x n, q = .ok x n → p ≠ 3 → ∃ r, ps g (.lop p (bnX (opN (hdT (ts.drop j))) e x)) (ts.drop (j + 1 + n)) = r ∧ r ≠ .out ∧ Rr = r.up (j + 1 + n - i)) := by
  obtain ⟨g, r, hg, h1, h2, h3⟩ := h.pss
  cases g with
  | zero => exact absurd h1.symm h2
  | succ g =>
    have hij := h.ij
    rw [ps, if_neg (by rw [hp]; simp), drop1] at h1
    refine ⟨g, _, by omega, rfl, ?_, ?_, ?_, ?_⟩
    · intro hh; rw [hh] at h1; exact h2 h1.symm
    · intro n hh
      rw [hh] at h1
      rw [h3, ← h1]
      show Rs.bad _ = _
      congr 1; omega
    · intro x n hh h33
      rw [hh] at h1
      simp only [Rs.up, Rs.thenLop, if_pos h33] at h1
      rw [h3, ← h1]
      show Rs.ok _ _ = _
      congr 1; omega
    · intro x n hh h33
      rw [hh] at h1
      simp only [Rs.up, Rs.thenLop, if_neg h33] at h1
      rw [show (ts.drop j).drop (n + 1) = ts.drop (j + 1 + n) by rw [List.drop_drop]; congr 1; omega] at h1
      refine ⟨_, rfl, ?_, ?_⟩
      · intro hh2; rw [hh2] at h1; exact h2 h1.symm
      · rw [h3, ← h1]
        cases ps g (.lop p (bnX (opN (hdT (ts.drop j))) e x)) (ts.drop (j + 1 + n)) with
        | ok y k => show Rs.ok _ _ = Rs.ok _ _; congr 1; omega
        | bad k => show Rs.bad _ = Rs.bad _; congr 1; omega
        | out => rfl
end
theorem prN_no {t : Tk} {p : Nat} (hp : p ≤ 5) (h : prN t ≠ p) : pcP (opN t) ≠ p := by
  unfold prN at h
  by_cases h0 : opN t = 0
  · rw [h0]
    have h6 : pcP 0 = 6 := by decide
    rw [h6]; omega
  · rwa [if_neg h0] at h
theorem prN_yes {t : Tk} {p : Nat} (hp : 1 ≤ p) (h : prN t = p) : pcP (opN t) = p ∧ opN t ≠ 0 := by
  unfold prN at h
  by_cases h0 : opN t = 0
  · rw [if_pos h0] at h; omega
  · rw [if_neg h0] at h; exact ⟨h, h0⟩

set_option maxRecDepth 100000 in
set_option maxHeartbeats 16000000 in
theorem rexpression_any (f : Nat) (hH : ∀ g, g ≤ f → ROpd g ∧ RExp g) : RExp (f + 1) := by
  intro p w a c ts k hp1 hp6 h hne
  obtain ⟨W, hW⟩ : ∃ W, w.alloc (.cells #[.int .i64 0, .int .i64 0, .string ⟨#[]⟩, .int .i64 0, nilX] TX) = W := ⟨_, rfl⟩
  have hb : Below w.heap.size w W := by rw [← hW]; exact (Below.refl _ w).alloc (Nat.le_refl _) _
  have hg : W.heap[w.heap.size]? = some (.cells #[.int .i64 0, .int .i64 0, .string ⟨#[]⟩, .int .i64 0, nilX] TX (0, 0)) := by rw [← hW]; exact heapNew w _
  have hI := h.below hb
  have hk40 : (k : Int) ≤ 4001 := by have := h.ln; have := h.kl; omega
  have H0 := Lib.hid h
  have HG := Lib.hid hg
  have HB := Lib.hid hb
  have HI := Lib.hid hI
  have HW := Lib.hid hW
  obtain ⟨R, hR⟩ : ∃ R, ps (f + 1) (.exp p) (ts.drop k) = R := ⟨_, rfl⟩
  rw [hR] at hne ⊢
  have HR := Lib.hid hR
  have HH := Lib.hid hH
  have HNE := Lib.hid hne
  clear hI hb hg h hR hH hne hW
  by_cases h5 : 5 < p
  · have k5 : ((p : Int) == 6) = true := by rw [beq_iff_eq]; omega
    have hrr : ps f .opd (ts.drop k) = R := by rw [← HR.out, ps, if_pos h5]
    have hop := (HH.out f (Nat.le_refl _)).1 W a c ts k HI.out (by rw [hrr]; exact HNE.out)
    rw [hrr] at hop
    have HOP := Lib.hid hop
    clear hrr hop h5
    go_enter Tryd.func35, Tryd.ntmps35
    go_wp2_with fail
    try rw [HW.out]
    refine HOP.out.mono ?_
    rintro x w2 ⟨b2, hp⟩
    have HB2 := Lib.hid (HB.out.trans (b2.mono HB.out.size))
    have HG2 := Lib.hid ((b2.block _ (ltH HG.out)).trans HG.out)
    clear b2
    cases R with
    | out => exact hp.elim
    | bad n =>
      subst hp
      simp only [exV]
      go_wp2_with (refine wpList_store_row rfl TX (.tmp 6) (.tmp 22) rfl w.heap.size #[.int .i64 zeroX.k, .int .i64 zeroX.o, .string zeroX.s, .int .i64 zeroX.v, nilX] rfl rfl _ _ HG2.out (by kernel_rfl) rfl (by simp [Value.oneCell']) ?_)
      try simp only [Exit.inBlock, Exit.then]
      have hgf := setRow_heap _ w.heap.size _ #[.int .i64 zeroX.k, .int .i64 zeroX.o, .string zeroX.s, .int .i64 zeroX.v, nilX] _ _ HG2.out
      refine bodyPost_ret (ret_x3 Tryd.results35 _ w.heap.size zeroX (nilX) _ _ _ hgf rfl rfl rfl) rfl ?_
      exact ⟨below_setRow HB2.out (Nat.le_refl _) _, rfl⟩
    | ok e n =>
      obtain ⟨sa, sn, sc, rfl, hk⟩ := hp
      have HK := Lib.hid (kaMono hk (show w.heap.size + 1 ≤ W.heap.size from ltH HG.out))
      simp only [exV]
      clear hk
      go_wp2_with (refine wpList_store_row rfl TX (.tmp 6) (.tmp 22) rfl w.heap.size #[.int .i64 e.k, .int .i64 e.o, .string e.s, .int .i64 e.v, .slice sa sn sc] rfl rfl _ _ HG2.out (by kernel_rfl) rfl (by simp [Value.oneCell']) ?_)
      try simp only [Exit.inBlock, Exit.then]
      have hgf := setRow_heap _ w.heap.size _ #[.int .i64 e.k, .int .i64 e.o, .string e.s, .int .i64 e.v, .slice sa sn sc] _ _ HG2.out
      refine bodyPost_ret (ret_x3 Tryd.results35 _ w.heap.size e (.slice sa sn sc) _ _ _ hgf rfl rfl rfl) rfl ?_
      exact ⟨below_setRow HB2.out (Nat.le_refl _) _, _, _, _, rfl, kaMono (kaRow HK.out (Nat.lt_succ_self w.heap.size) _) (Nat.le_succ w.heap.size)⟩
  · have k5 : ((p : Int) == 6) = false := by rw [beq_eq_false_iff_ne]; omega
    have hp5 : p ≤ 5 := by omega
    have hp51 : (p : Int) ≤ 5 := by omega
    have hp52 : (1 : Int) ≤ (p : Int) := by omega
    obtain ⟨q, hq⟩ : ∃ q, ps f (.exp (p + 1)) (ts.drop k) = q := ⟨_, rfl⟩
    have hrr : q.thenLop (fun e n => (ps f (.lop p e) ((ts.drop k).drop n)).up n) = R := by rw [← HR.out, ps, if_neg h5, hq]
    have HRE := Lib.hid hrr
    have HQN := Lib.hid (show q ≠ .out from fun e => HNE.out (by rw [← hrr, e]; rfl))
    have hex := (HH.out f (Nat.le_refl _)).2 (p + 1) W a c ts k (by omega) (by omega) HI.out (by rw [hq]; exact HQN.out)
    have hok := ps_ok f (.exp (p + 1)) (ts.drop k) trivial
    rw [hq] at hex hok
    have hpw : ((p + 1 : Nat) : Int) = (p : Int) + 1 := by omega
    rw [hpw] at hex
    have HEX := Lib.hid hex
    have HOK := Lib.hid hok
    clear hrr h5 hq hpw hex hok
    go_enter Tryd.func35, Tryd.ntmps35
    go_wp2_with fail
    try rw [HW.out]
    refine HEX.out.mono ?_
    rintro x w2 ⟨b2, hp⟩
    have HB2 := Lib.hid (HB.out.trans (b2.mono HB.out.size))
    have HG2 := Lib.hid ((b2.block _ (ltH HG.out)).trans HG.out)
    have HS2 := Lib.hid b2.size
    clear b2
    cases q with
    | out => exact hp.elim
    | bad n =>
      subst hp
      have HRB : Hid (R = .bad n) := Lib.hid HRE.out.symm
      simp only [exV]
      obtain ⟨w3, hV⟩ : ∃ V, w2.alloc (.cells #[.int .i64 zeroX.k, .int .i64 zeroX.o, .string zeroX.s, .int .i64 zeroX.v, nilX] TX) = V := ⟨_, rfl⟩
      have b3 : Below w2.heap.size w2 w3 := by rw [← hV]; exact (Below.refl _ _).alloc (Nat.le_refl _) _
      have HB3 := Lib.hid (HB2.out.trans (b3.mono HB2.out.size))
      have HG3 := Lib.hid ((b3.block _ (ltH HG2.out)).trans HG2.out)
      have HV := Lib.hid hV
      clear b3 hV
      go_wp2_with (first | rw [HV.out] | refine wpList_store_row rfl TX (.tmp 6) (.tmp 36) rfl w.heap.size #[.int .i64 0, .int .i64 0, .string ⟨#[]⟩, .int .i64 0, nilX] rfl rfl _ _ HG3.out (by kernel_rfl) rfl (by simp [Value.oneCell']) ?_)
      try simp only [Exit.inBlock, Exit.then]
      have hgf := setRow_heap _ w.heap.size _ #[.int .i64 0, .int .i64 0, .string ⟨#[]⟩, .int .i64 0, nilX] _ _ HG3.out
      refine bodyPost_ret (ret_x3 Tryd.results35 _ w.heap.size zeroX (nilX) _ _ _ hgf rfl rfl rfl) rfl ?_
      rw [HRB.out]
      exact ⟨below_setRow HB3.out (Nat.le_refl _) _, rfl⟩
    | ok e n =>
      obtain ⟨sa, sn, sc, rfl, hk⟩ := hp
      simp only [exV]
      obtain ⟨w3, hW3⟩ : ∃ V, w2.alloc (.cells #[.int .i64 e.k, .int .i64 e.o, .string e.s, .int .i64 e.v, .slice sa sn sc] TX) = V := ⟨_, rfl⟩
      have b3 : Below w2.heap.size w2 w3 := by rw [← hW3]; exact (Below.refl _ _).alloc (Nat.le_refl _) _
      have hE : w3.heap[w2.heap.size]? = some (.cells #[.int .i64 e.k, .int .i64 e.o, .string e.s, .int .i64 e.v, .slice sa sn sc] TX (0, 0)) := by rw [← hW3]; exact heapNew _ _
      have HL : Hid (RLo w ts k p w2.heap.size R f w3 (k + n) e sa sn sc) := Lib.hid (by
        have hkl := H0.out.kl
        have hnl := HOK.out.1
        simp only [List.length_drop] at hnl
        refine ⟨by omega, hE, ?_, HB2.out.trans (b3.mono HB2.out.size), (b3.block _ (ltH HG2.out)).trans HG2.out, ltH HG2.out, Nat.le_add_right _ _, f, _, Nat.le_refl _, rfl, ?_, ?_⟩
        · exact hk.keep b3.size (fun b h1 h2 => ⟨⟨by have := ltH HG.out; have : W.heap.size ≤ b := h2; omega, by omega⟩, b3.block b h1⟩)
        · intro hh
          apply HNE.out
          have := HRE.out
          simp only [Rs.thenLop] at this
          rw [← this, List.drop_drop, hh]; rfl
        · have := HRE.out
          simp only [Rs.thenLop] at this
          rw [← this, List.drop_drop, show k + n - k = n by omega])
      obtain ⟨G, hGG⟩ : ∃ G, w2.heap.size = G := ⟨_, rfl⟩
      have HW3 := Lib.hid hW3
      have HT4 := Lib.hid H0.out.ln
      have HTK := Lib.hid H0.out.tk
      have HTO := Lib.hid H0.out.ok
      clear hk b3 hE HEX HRE HOK HQN
      go_wp2_with fail
      try rw [hW3]
      rw [hGG] at HL
      try rw [hGG]
      clear hW3 hGG HW3
      obtain ⟨j0, hj0⟩ : ∃ j0, k + n = j0 := ⟨_, rfl⟩
      rw [hj0] at HL
      have HJ0 := Lib.hid hj0
      clear hj0
      go_loopw [10] (fun s10 wr => ∃ (j : Nat) (e : Ex) (sa : Option Addr) (sn sc : Nat), s10 = .int .i64 (j : Int) ∧ Hid (RLo w ts k p G R f wr j e sa sn sc)) (fun s10 _ => ts.length - (intOf s10).toNat)
      case atStart => exact ⟨j0, _, _, _, _, by rw [show (k : Int) + (n : Int) = (j0 : Int) by have := HJ0.out; omega], HL⟩
      case round =>
        clear HL
        obtain ⟨j, e, sa, sn, sc, rfl, HL⟩ := hrel
        have hj40 : (j : Int) ≤ 4001 := by have := HL.out.jl; have := HT4.out; omega
        obtain ⟨⟨y0, y1, y2, y3⟩, hy⟩ : ∃ y, gk ts j = y := ⟨_, rfl⟩
        have hn := rnext_any a c ts j wr (HTK.out.below HL.out.bu) (by have := HT4.out; omega)
        rw [hy] at hn
        simp only [tkW] at hn
        have HN := Lib.hid hn
        have HHD : Hid (hdT (ts.drop j) = ⟨y0, y1, y2, y3⟩) := Lib.hid (by rw [hdT_gk, hy])
        obtain ⟨O, hO⟩ : ∃ O, opN ⟨y0, y1, y2, y3⟩ = O := ⟨_, rfl⟩
        obtain ⟨P, hP⟩ : ∃ P, prN ⟨y0, y1, y2, y3⟩ = P := ⟨_, rfl⟩
        have HO := Lib.hid hO
        have HP := Lib.hid hP
        clear hn hy hO hP
        go_wp2_with fail
        refine HN.out.mono ?_
        rintro x w4 ⟨⟨av, rfl⟩, b4⟩
        have HL4 := Lib.hid (HL.out.below b4)
        have hop := roperator_any ⟨y0, y1, y2, y3⟩ av w4
        simp only [tkW, HO.out, HP.out] at hop
        have HOP := Lib.hid hop
        clear b4 hop
        go_wp2_with fail
        refine HOP.out.mono ?_
        rintro x w5 ⟨rfl, b5⟩
        have HL5 := Lib.hid (HL4.out.below b5)
        clear b5
        obtain ⟨d0, d1, d2, d3, d4⟩ := cells5 HL5.out.ce
        by_cases hpp : P = (p : Int)
        · have k1 : (P != (p : Int)) = false := by simp [hpp]
          obtain ⟨hpc, hO0⟩ := prN_yes hp1 (HP.out.trans hpp)
          obtain ⟨g, q, hgf, hq, hqn, hbad, hok3, hokn⟩ := HL5.out.more (by rw [HHD.out]; exact hpc)
          have HLT := Lib.hid (opN_lt (ts := ts) (j := j) (by rw [HHD.out]; exact hO0))
          have hok := ps_ok g (.exp (p + 1)) (ts.drop (j + 1)) trivial
          have hI1 : RxI w5 a ts (j + 1) := ⟨HTK.out.below HL5.out.bu, HTO.out, HT4.out, HLT.out⟩
          have hex := (HH.out g hgf).2 (p + 1) w5 a c ts (j + 1) (by omega) (by omega) hI1 (by rw [hq]; exact hqn)
          rw [hq, show ((p + 1 : Nat) : Int) = (p : Int) + 1 by omega, show ((j + 1 : Nat) : Int) = (j : Int) + 1 by omega] at hex
          rw [hq] at hok
          rw [HHD.out, HO.out] at hok3 hokn
          have HEX := Lib.hid hex
          have HOK := Lib.hid hok
          have HBAD := Lib.hid hbad
          have HOK3 := Lib.hid hok3
          have HOKN := Lib.hid hokn
          have HGF := Lib.hid hgf
          clear hex hok hbad hok3 hokn hq hqn hI1 hpc hO0 hgf
          go_wp2_with fail
          refine HEX.out.mono ?_
          rintro x w6 ⟨b6, hp⟩
          have HL6 := Lib.hid (HL5.out.below b6)
          have HS6 := Lib.hid b6.size
          clear b6 d0 d1 d2 d3 d4
          cases q with
          | out => exact hp.elim
          | bad n =>
            subst hp
            have HRB := Lib.hid (HBAD.out n rfl)
            simp only [exV]
            obtain ⟨w7, hV⟩ : ∃ V, w6.alloc (.cells #[.int .i64 zeroX.k, .int .i64 zeroX.o, .string zeroX.s, .int .i64 zeroX.v, nilX] TX) = V := ⟨_, rfl⟩
            have b7 : Below w6.heap.size w6 w7 := by rw [← hV]; exact (Below.refl _ _).alloc (Nat.le_refl _) _
            have HL7 := Lib.hid (HL6.out.below b7)
            have HV := Lib.hid hV
            clear b7 hV
            go_wp2_with (first | rw [HV.out] | refine wpList_store_row rfl TX (.tmp 6) (.tmp 62) rfl w.heap.size #[.int .i64 0, .int .i64 0, .string ⟨#[]⟩, .int .i64 0, nilX] rfl rfl _ _ HL7.out.rs (by kernel_rfl) rfl (by simp [Value.oneCell']) ?_)
            try simp only [Exit.inBlock, Exit.then]
            have hgf := setRow_heap _ w.heap.size _ #[.int .i64 0, .int .i64 0, .string ⟨#[]⟩, .int .i64 0, nilX] _ _ HL7.out.rs
            refine bodyPost_ret (ret_x3 Tryd.results35 _ w.heap.size zeroX (nilX) _ _ _ hgf rfl rfl rfl) rfl ?_
            rw [HRB.out]
            refine ⟨below_setRow HL7.out.bu (Nat.le_refl _) _, ?_⟩
            show Ending.returned _ = Ending.returned _
            rw [show k + (j + 1 + n - k) = j + 1 + n by have := HL7.out.ij; omega]
            rfl
          | ok x n =>
            obtain ⟨xa, xn, xc, rfl, hkx⟩ := hp
            simp only [exV]
            obtain ⟨w7, hV⟩ : ∃ V, w6.alloc (.cells #[.int .i64 x.k, .int .i64 x.o, .string x.s, .int .i64 x.v, .slice xa xn xc] TX) = V := ⟨_, rfl⟩
            have b7 : Below w6.heap.size w6 w7 := by rw [← hV]; exact (Below.refl _ _).alloc (Nat.le_refl _) _
            have hE7 : w7.heap[w6.heap.size]? = some (.cells #[.int .i64 x.k, .int .i64 x.o, .string x.s, .int .i64 x.v, .slice xa xn xc] TX (0, 0)) := by rw [← hV]; exact heapNew _ _
            have HL7 := Lib.hid (HL6.out.below b7)
            have HKX : Hid (KA (Ph w.heap.size G) w7 x.es (.slice xa xn xc)) := Lib.hid ((KA.carry hkx b7).mono (fun b _ h2 => by have h3 : w5.heap.size ≤ b := h2; have := ltH HL5.out.ce; have := HL5.out.gl; exact ⟨by omega, by omega⟩))
            have HV := Lib.hid hV
            have HE7 := Lib.hid hE7
            obtain ⟨d0, d1, d2, d3, d4⟩ := cells5 HL7.out.ce
            obtain ⟨f0, f1, f2, f3, f4⟩ := cells5 hE7
            obtain ⟨w8, hV8⟩ : ∃ V, w7.alloc (.cells #[.int .i64 e.k, .int .i64 e.o, .string e.s, .int .i64 e.v, .slice sa sn sc, .int .i64 x.k, .int .i64 x.o, .string x.s, .int .i64 x.v, .slice xa xn xc] TX) = V := ⟨_, rfl⟩
            have b8 : Below w7.heap.size w7 w8 := by rw [← hV8]; exact (Below.refl _ _).alloc (Nat.le_refl _) _
            have hE8 : w8.heap[w7.heap.size]? = some (.cells #[.int .i64 e.k, .int .i64 e.o, .string e.s, .int .i64 e.v, .slice sa sn sc, .int .i64 x.k, .int .i64 x.o, .string x.s, .int .i64 x.v, .slice xa xn xc] TX (0, 0)) := by rw [← hV8]; exact heapNew _ _
            have HL8 := Lib.hid (HL7.out.below b8)
            have HKN := Lib.hid (ka_both (φ := Ph w.heap.size G) (g := w7.heap.size) (x := e) (y := x) ⟨by have := ltH HL7.out.ce; have := HL7.out.gl; omega, by have := ltH HL7.out.ce; omega⟩ (KA.carry HL7.out.ka b8) (KA.carry HKX.out b8) hE8)
            obtain ⟨w9, hW9⟩ : ∃ V, w8.setRow G #[.int .i64 4, .int .i64 O, .string ⟨#[]⟩, .int .i64 0, .slice (some ⟨w7.heap.size, 0, none⟩) 2 2] = V := ⟨_, rfl⟩
            have HCE9 : Hid (w9.heap[G]? = some (.cells #[.int .i64 4, .int .i64 O, .string ⟨#[]⟩, .int .i64 0, .slice (some ⟨w7.heap.size, 0, none⟩) 2 2] TX (0, 0))) := Lib.hid (by rw [← hW9]; exact setRow_heap _ _ _ _ _ _ HL8.out.ce)
            have HKN9 : Hid (KA (Ph w.heap.size G) w9 [e, x] (.slice (some ⟨w7.heap.size, 0, none⟩) 2 2)) := Lib.hid (by rw [← hW9]; exact kaPhRow HKN.out _)
            have HRS9 : Hid (w9.heap[w.heap.size]? = some (.cells #[.int .i64 0, .int .i64 0, .string ⟨#[]⟩, .int .i64 0, nilX] TX (0, 0))) := Lib.hid (by rw [← hW9, setRow_other w8 G w.heap.size _ (by have := HL8.out.gl; omega)]; exact HL8.out.rs)
            have HBU9 : Hid (Below w.heap.size w w9) := Lib.hid (by rw [← hW9]; exact below_setRow HL8.out.bu (Nat.le_of_lt HL8.out.gl) _)
            have HV8 := Lib.hid hV8
            have HW9 := Lib.hid hW9
            have HJN : Hid (j + 1 + n ≤ ts.length ∧ k ≤ j + 1 + n ∧ j < j + 1 + n) := Lib.hid (by
              have h3 := HOK.out.1
              have h4 := HLT.out
              have h5 := HL7.out.ij
              simp only [List.length_drop] at h3
              exact ⟨by omega, by omega, by omega⟩)
            obtain ⟨m, hm⟩ : ∃ m, j + 1 + n = m := ⟨_, rfl⟩
            have HOKNN := Lib.hid (HOKN.out x n rfl)
            have HOK33 := Lib.hid (HOK3.out x n rfl)
            rw [hm] at HJN HOKNN HOK33
            rw [hm]
            clear b7 b8 hE7 hE8 hkx hV hV8 hW9 hm
            by_cases h33 : p = 3
            · have k3 : ((p : Int) == 3) = true := by rw [h33]; rfl
              have HRR := Lib.hid (HOK33.out h33)
              obtain ⟨e0, e1, e2, e3, e4⟩ := cells5 HCE9.out
              go_wp2_with (first | rw [HV.out] | rw [HV8.out] | (refine wpList_store_row rfl TX (.tmp 9) (.tmp 68) rfl G #[.int .i64 4, .int .i64 O, .string ⟨#[]⟩, .int .i64 0, .slice (some ⟨w7.heap.size, 0, none⟩) 2 2] rfl rfl _ _ HL8.out.ce (by kernel_rfl) rfl (by simp [Value.oneCell']) ?_; rw [HW9.out]) | refine wpList_store_row rfl TX (.tmp 6) (.tmp 72) rfl w.heap.size #[.int .i64 4, .int .i64 O, .string ⟨#[]⟩, .int .i64 0, .slice (some ⟨w7.heap.size, 0, none⟩) 2 2] rfl rfl _ _ HRS9.out (by kernel_rfl) rfl (by simp [Value.oneCell']) ?_)
              try simp only [Exit.inBlock, Exit.then]
              have hgf := setRow_heap _ w.heap.size _ #[.int .i64 4, .int .i64 O, .string ⟨#[]⟩, .int .i64 0, .slice (some ⟨w7.heap.size, 0, none⟩) 2 2] _ _ HRS9.out
              refine bodyPost_ret (ret_x3 Tryd.results35 _ w.heap.size (bnX O e x) (.slice (some ⟨w7.heap.size, 0, none⟩) 2 2) _ _ _ hgf rfl rfl rfl) rfl ?_
              rw [HRR.out]
              refine ⟨below_setRow HBU9.out (Nat.le_refl _) _, _, _, _, ?_, kaPhRow0 HKN9.out _⟩
              show Ending.returned _ = Ending.returned _
              rw [show k + (m - k) = m by have := HJN.out.2.1; omega]
              rfl
            · have k3 : ((p : Int) == 3) = false := by rw [beq_eq_false_iff_ne]; omega
              obtain ⟨r, hr1, hr2, hr3⟩ := HOKNN.out h33
              have HL9 : Hid (RLo w ts k p G R f w9 m (bnX O e x) (some ⟨w7.heap.size, 0, none⟩) 2 2) := Lib.hid ⟨HJN.out.1, HCE9.out, HKN9.out, HBU9.out, HRS9.out, HL8.out.gl, HJN.out.2.1, g, r, HGF.out, hr1, hr2, hr3⟩
              have hm1 := HJN.out.1
              have hm2 := HJN.out.2.2
              clear hr1 hr2 hr3
              go_wp2_with (first | rw [HV.out] | rw [HV8.out] | (refine wpList_store_row rfl TX (.tmp 9) (.tmp 68) rfl G #[.int .i64 4, .int .i64 O, .string ⟨#[]⟩, .int .i64 0, .slice (some ⟨w7.heap.size, 0, none⟩) 2 2] rfl rfl _ _ HL8.out.ce (by kernel_rfl) rfl (by simp [Value.oneCell']) ?_; rw [HW9.out]))
              go_roundw
              case rel => (repeat apply Exists.intro); exact ⟨⟨m, _, _, _, _, rfl, HL9⟩, rfl⟩
              case measure => simp [intOf]; omega
        · have k1 : (P != (p : Int)) = true := by simp [hpp]
          have HRR := Lib.hid (HL5.out.stop (by rw [HHD.out]; exact prN_no hp5 (by rw [HP.out]; exact hpp)))
          go_wp2_with (refine wpList_store_row rfl TX (.tmp 6) (.tmp 48) rfl w.heap.size #[.int .i64 e.k, .int .i64 e.o, .string e.s, .int .i64 e.v, .slice sa sn sc] rfl rfl _ _ HL5.out.rs (by kernel_rfl) rfl (by simp [Value.oneCell']) ?_)
          try simp only [Exit.inBlock, Exit.then]
          have hgf := setRow_heap _ w.heap.size _ #[.int .i64 e.k, .int .i64 e.o, .string e.s, .int .i64 e.v, .slice sa sn sc] _ _ HL5.out.rs
          refine bodyPost_ret (ret_x3 Tryd.results35 _ w.heap.size e (.slice sa sn sc) _ _ _ hgf rfl rfl rfl) rfl ?_
          rw [HRR.out]
          refine ⟨below_setRow HL5.out.bu (Nat.le_refl _) _, _, _, _, ?_, kaPhRow0 HL5.out.ka _⟩
          show Ending.returned _ = Ending.returned _
          rw [show k + (j - k) = j by have := HL5.out.ij; omega]
          rfl
end Go.Proofs.YtdgphhdkeikbaaaDoor
