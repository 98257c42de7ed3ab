/-
  The walk of LexerErrors.
-/
import Derived.Test.YtdgphhdkeikbaaaDoorLxAwake
import Derived.Test.YtdgphhdkeikbaaaDoorLxErrM
import Derived.Test.YtdgphhdkeikbaaaDoorLxZero
import Derived.Test.YtdgphhdkeikbaaaDoorLxSeq
namespace Go.Proofs.YtdgphhdkeikbaaaDoor
set_option linter.unusedSimpArgs false
set_option linter.unusedVariables false
open Go.RowKit

/-- Tokens, of known results; the slice's length is that of the list. -/
theorem tokB (s : ByteArray) (ts : List Tk) (i : Nat) (q : Int) (w : World) (hs : s.size ≤ 9223372036854775807) (hv : LxV w) (h : lexT s = (ts, i, q)) :
    Calls Tryd.prog 17 #[.string s] w fun x w' => ∃ a c, x = .returned (.tuple #[.slice a ts.length c, .int .i64 (i : Int), .int .i64 q]) ∧ (TkA anyB w' a ts ∧ TkO anyB w' a ts) ∧ Below w.heap.size w w' := by
  have := Tokens_any s w hs hv
  rw [h] at this
  refine this.mono ?_
  rintro x w' ⟨v, rfl, ⟨a, c, rfl, _, _, h3, h4⟩, hb⟩
  exact ⟨a, c, rfl, ⟨h3.keep (Nat.le_refl _) (fun _ _ _ => ⟨trivial, rfl⟩), h4.keep (Nat.le_refl _) (fun _ _ _ => ⟨trivial, rfl⟩)⟩, hb⟩
theorem tkB_below {w w' : World} {a : Option Addr} {ts : List Tk} (h : TkA anyB w a ts ∧ TkO anyB w a ts) (hb : Below w.heap.size w w') : TkA anyB w' a ts ∧ TkO anyB w' a ts := ⟨h.1.below hb, h.2.below hb⟩
theorem cell_lat {w w' : World} {p : Addr} {v : Value} (h : w.cell? p = some v) (hb : Below w.heap.size w w') : w'.cell? p = some v := cell_laterZ hb h
def atP (p : Int) (t : Tk) : Bool := (t.a : Int) == p
theorem zeroX_fit : fitE zeroX := ⟨emp_sz, trivial⟩
theorem zeroX_sam : samB zeroX zeroX = true := by decide
theorem enters26 : ∀ args w, (callFunc 26 args).run Tryd.prog w = .ok (.enter 26 args) w := enters_of Tryd.func26 (by kernel_rfl) rfl
set_option maxHeartbeats 2000000 in
theorem err1_pred (g : Nat) (p : Int) (w : World) (h : w.cell? ⟨g, 0, none⟩ = some (.int .i64 p)) : PredK 26 #[] #[.pointer (some ⟨g, 0, none⟩)] (atP p) w := by
  intro a b c d W hW
  have hg := cell_laterZ (hW.mono (Nat.le_refl _)) h
  obtain ⟨W1, hW1⟩ : ∃ X, W.alloc (.cells #[.int .i64 a, .string b, .int .i64 c, .int .i64 (d : Int)] TTk) = X := ⟨_, rfl⟩
  have b1 : Below W.heap.size W W1 := by rw [← hW1]; exact below_allocW W _
  have hg1 : W1.cell? ⟨g, 0, none⟩ = some (.int .i64 p) := cell_laterZ b1 hg
  have hd : W1.cell? ⟨W.heap.size, 3, none⟩ = some (.int .i64 (d : Int)) := by rw [← hW1, Lib.cell_of_heap (heapNew W _)]; rfl
  have HB := Lib.hid b1
  have HW := Lib.hid hW1
  clear hW hg h b1 hW1
  go_enter Tryd.func26, Tryd.ntmps26
  go_wp2_with (rw [HW.out])
  try rw [HW.out]
  go_wp2
  go_ret
  exact ⟨rfl, HB.out⟩
/-- A variable of type Expr and one of type int: their blocks behind the stores. -/
theorem varXI (w : World) (e : Ex) (sl : Value) (n : Int) (W : World) (hW : (w.alloc (.cells #[.int .i64 0, .int .i64 0, .string ⟨#[]⟩, .int .i64 0, .slice none 0 0] TX (0, 0))).alloc (.cells #[.int .i64 0] TZ (0, 0)) = W) :
    W.heap[w.heap.size]? = some (.cells #[.int .i64 0, .int .i64 0, .string ⟨#[]⟩, .int .i64 0, .slice none 0 0] TX (0, 0)) ∧ ∀ V, W.setRow w.heap.size #[.int .i64 e.k, .int .i64 e.o, .string e.s, .int .i64 e.v, sl] = V → V.cell? ⟨w.heap.size + 1, 0, none⟩ = some (.int .i64 0) ∧ V.frozen? ⟨w.heap.size + 1, 0, none⟩ = false ∧ ∀ X, V.setCell ⟨w.heap.size + 1, 0, none⟩ (.int .i64 n) = X → Below w.heap.size w X ∧ X.cell? ⟨w.heap.size + 1, 0, none⟩ = some (.int .i64 n) := by
  obtain ⟨t0, t1, hb⟩ := twoBlocks w (.cells #[.int .i64 0, .int .i64 0, .string ⟨#[]⟩, .int .i64 0, .slice none 0 0] TX (0, 0)) (.cells #[.int .i64 0] TZ (0, 0))
  rw [hW] at t0 t1 hb
  refine ⟨t0, fun V hV => ?_⟩
  have t2 : V.heap[w.heap.size + 1]? = some (.cells #[.int .i64 0] TZ (0, 0)) := by rw [← hV, setRow_other W _ _ _ (by omega)]; exact t1
  have hbV : Below w.heap.size w V := by rw [← hV]; exact below_setRow hb (Nat.le_refl _) _
  refine ⟨by rw [Lib.cell_of_heap t2]; rfl, Lib.frozen_of_heap t2 0, fun X hX => ?_⟩
  have t3 := heap_setCell_same V (w.heap.size + 1) 0 _ _ (.int .i64 n) t2
  refine ⟨by rw [← hX]; exact ⟨hbV.os, hbV.tape, hbV.output, by simp only [World.setCell, Array.size_modify]; exact hbV.size, fun k hk => (Below.heap_setCell _ _ _ _ (by simp; omega)).trans (hbV.block k hk)⟩, ?_⟩
  rw [← hX, Lib.cell_of_heap t3]
  simp
set_option maxRecDepth 100000 in
set_option maxHeartbeats 16000000 in
theorem lexerErrors_walk (s : ByteArray) (tl : ByteArray) (w : World) (hV : LxV w) (hT : TabJ w) :
    Calls Tryd.prog 7 #[.string s, .string tl] w fun e w' => e = .returned (.bool true) ∧ Below w.heap.size w w' := by
  have HB0 : Hid (Below w.heap.size w w) := Lib.hid (Below.refl _ w)
  have ZV_0 := Lib.hid hV
  have ZT_0 := Lib.hid hT
  clear hV hT
  by_cases h : 300 < s.size
  · have h1 : (300 : Int) < (s.size : Int) := by omega
    clear h
    go_enter Tryd.func7, Tryd.ntmps7
    go_wp2_with fail
    have hC1 := awake_any w ZV_0.out ZT_0.out
    have HC1 := Lib.hid hC1
    clear hC1
    refine HC1.out.mono ?_
    rintro e w1 ⟨rfl, b1⟩
    have HB1 := Lib.hid (HB0.out.trans (b1.mono HB0.out.size))
    have ZV_1 := Lib.hid (LxV.carry ZV_0.out b1)
    have ZT_1 := Lib.hid (TabJ.below ZT_0.out b1)
    clear b1 HC1
    go_wp2
    go_ret
    exact ⟨rfl, HB1.out⟩
  · have h1 : ¬ (300 : Int) < (s.size : Int) := by omega
    by_cases h2 : 300 < tl.size
    · have h3 : (300 : Int) < (tl.size : Int) := by omega
      clear h h2
      go_enter Tryd.func7, Tryd.ntmps7
      go_wp2_with fail
      have hC1 := awake_any w ZV_0.out ZT_0.out
      have HC1 := Lib.hid hC1
      clear hC1
      refine HC1.out.mono ?_
      rintro e w1 ⟨rfl, b1⟩
      have HB1 := Lib.hid (HB0.out.trans (b1.mono HB0.out.size))
      have ZV_1 := Lib.hid (LxV.carry ZV_0.out b1)
      have ZT_1 := Lib.hid (TabJ.below ZT_0.out b1)
      clear b1 HC1
      go_wp2
      go_ret
      exact ⟨rfl, HB1.out⟩
    · have h3 : ¬ (300 : Int) < (tl.size : Int) := by omega
      have hs : s.size ≤ 9223372036854775807 := by omega
      have ht : tl.size ≤ 9223372036854775807 := by omega
      have hs3 : s.size ≤ 300 := by omega
      have ht3 : tl.size ≤ 300 := by omega
      clear h h2
      obtain ⟨ts, i0, q0, hl⟩ : ∃ e i q, lexT s = (e, i, q) := ⟨_, _, _, rfl⟩
      obtain ⟨us, i1, q1, hm⟩ : ∃ e i q, lexT tl = (e, i, q) := ⟨_, _, _, rfl⟩
      obtain ⟨x, p, q2, hp⟩ : ∃ e i q, psF s = (e, i, q) := ⟨_, _, _, rfl⟩
      have HL := Lib.hid hl
      have HM := Lib.hid hm
      have HP := Lib.hid hp
      by_cases e0 : q0 = 0
      · subst e0
        by_cases e1 : q1 = 0
        · subst e1
          by_cases e2 : q2 = 3
          · subst e2
            obtain ⟨hlo, rfl⟩ := lexT_ok hl
            obtain ⟨_, rfl⟩ := lexT_ok hm
            obtain ⟨n, hn, hna, hnf, hcut⟩ := err_cut hs3 ht3 hl hm (congrArg Prod.snd hp)
            have htok := hlo.tok
            have hsz := hlo.at_
            have hof := hlo.len
            have HNF : Hid (∀ j, j < n → atP (p : Int) (gk ts j) = false) := Lib.hid (fun j hj => by have := hnf j hj; unfold atP; rw [beq_eq_false_iff_ne]; omega)
            have HNA : Hid (atP (p : Int) (gk ts n) = true) := Lib.hid (by unfold atP; rw [hna]; simp)
            have HIX : Hid (∀ k : Int, IxK ts (atP (p : Int)) k → k = (n : Int)) := Lib.hid (fun k hk => by
              rcases hk with ⟨_, h⟩ | ⟨i, hi, rfl, h1, h2⟩
              · have := h n hn; rw [HNA.out] at this; cases this
              · rcases Nat.lt_trichotomy i n with h3 | h3 | h3
                · have := HNF.out i h3; rw [h1] at this; cases this
                · rw [h3]
                · have := h2 n h3; rw [HNA.out] at this; cases this)
            have HCUT := Lib.hid hcut
            have HLE : Hid (∀ j, j < ts.length → (gk ts j).a ≤ s.size) := Lib.hid (fun j hj => hsz _ (gk_mem hj))
            have hlen : ts.length ≤ 4001 := hof
            clear hlo hcut hna hnf hl hm hp htok hsz hof hs3 ht3
            go_enter Tryd.func7, Tryd.ntmps7
            have hC1 := tokB s ts 0 0 w hs ZV_0.out HL.out
            have HC1 := Lib.hid hC1
            clear hC1
            go_wp2_with fail
            refine HC1.out.mono ?_
            rintro e w1 ⟨al, cl, rfl, kl, b1⟩
            have HB1 := Lib.hid (HB0.out.trans (b1.mono HB0.out.size))
            have ZV_1 := Lib.hid (LxV.carry ZV_0.out b1)
            have ZT_1 := Lib.hid (TabJ.below ZT_0.out b1)
            clear b1 HC1
            have Zl_1 := Lib.hid kl
            clear kl
            have hC2 := tokB tl us 0 0 w1 ht ZV_1.out HM.out
            have HC2 := Lib.hid hC2
            clear hC2
            go_wp2_with fail
            refine HC2.out.mono ?_
            rintro e w2 ⟨am, cm, rfl, km, b2⟩
            have HB2 := Lib.hid (HB1.out.trans (b2.mono HB1.out.size))
            have ZV_2 := Lib.hid (LxV.carry ZV_1.out b2)
            have ZT_2 := Lib.hid (TabJ.below ZT_1.out b2)
            have Zl_2 := Lib.hid (tkB_below Zl_1.out b2)
            clear b2 HC2 km
            have hC3 := parA s x p 3 w2 hs ZV_2.out ZT_2.out HP.out
            have HC3 := Lib.hid hC3
            clear hC3
            go_wp2_with fail
            refine HC3.out.mono ?_
            rintro e w3 ⟨ax, mx, cx, rfl, kx, b3⟩
            have HB3 := Lib.hid (HB2.out.trans (b3.mono HB2.out.size))
            have ZV_3 := Lib.hid (LxV.carry ZV_2.out b3)
            have ZT_3 := Lib.hid (TabJ.below ZT_2.out b3)
            have Zl_3 := Lib.hid (tkB_below Zl_2.out b3)
            clear b3 HC3 kx
            try simp only [exV]
            obtain ⟨W4, hW4⟩ : ∃ W, (w3.alloc (.cells #[.int .i64 0, .int .i64 0, .string ⟨#[]⟩, .int .i64 0, .slice none 0 0] TX (0, 0))).alloc (.cells #[.int .i64 0] TZ (0, 0)) = W := ⟨_, rfl⟩
            obtain ⟨g1, g2⟩ := varXI w3 x (.slice ax mx cx) (p : Int) W4 hW4
            obtain ⟨V4, hV4⟩ : ∃ X, W4.setRow w3.heap.size #[.int .i64 x.k, .int .i64 x.o, .string x.s, .int .i64 x.v, .slice ax mx cx] = X := ⟨_, rfl⟩
            obtain ⟨g3, g4, g5⟩ := g2 _ hV4
            obtain ⟨w4, hw4⟩ : ∃ X, V4.setCell ⟨w3.heap.size + 1, 0, none⟩ (.int .i64 (p : Int)) = X := ⟨_, rfl⟩
            obtain ⟨b4, g6⟩ := g5 _ hw4
            have HB4 := Lib.hid (HB3.out.trans (b4.mono HB3.out.size))
            have ZV_4 := Lib.hid (LxV.carry ZV_3.out b4)
            have ZT_4 := Lib.hid (TabJ.below ZT_3.out b4)
            have Zl_4 := Lib.hid (tkB_below Zl_3.out b4)
            have Zp_4 := Lib.hid g6
            have HG4 := Lib.hid g1
            have HW4 := Lib.hid hW4
            have HV4 := Lib.hid hV4
            have HX4 := Lib.hid hw4
            clear hW4 hV4 hw4 g1 g2 g5 g6 b4
            go_wp2_with (rw [HW4.out]; refine wpList_store_row rfl TX (.tmp 11) (.tmp 42) rfl w3.heap.size #[.int .i64 x.k, .int .i64 x.o, .string x.s, .int .i64 x.v, .slice ax mx cx] rfl rfl _ _ HG4.out (by kernel_rfl) rfl (by simp [Value.oneCell']) ?_; rw [HV4.out])
            clear g3 g4
            have hC5 := kIndex_any anyB 26 #[] #[.pointer (some ⟨w3.heap.size + 1, 0, none⟩)] al cl ts (atP (p : Int)) w4 enters26 Zl_4.out (by omega) (err1_pred _ _ _ Zp_4.out)
            have HC5 := Lib.hid hC5
            clear hC5
            try rw [HX4.out]
            refine HC5.out.mono ?_
            rintro e w5 ⟨kk, rfl, hk, b5⟩
            have HB5 := Lib.hid (HB4.out.trans (b5.mono HB4.out.size))
            have ZV_5 := Lib.hid (LxV.carry ZV_4.out b5)
            have ZT_5 := Lib.hid (TabJ.below ZT_4.out b5)
            have Zl_5 := Lib.hid (tkB_below Zl_4.out b5)
            have Zp_5 := Lib.hid (cell_lat Zp_4.out b5)
            clear b5 HC5
            obtain rfl := HIX.out _ hk
            clear hk
            by_cases h5 : n + 1 < ts.length
            · have m1 : ¬ (ts.length : Int) ≤ (n : Int) + 1 := by omega
              have m0 : ¬ (n : Int) < 0 := by omega
              have m2 : (n : Int) + 1 < (ts.length : Int) := by omega
              have m3 : (0 : Int) ≤ (n : Int) + 1 := by omega
              obtain ⟨kb, off, rfl, _, hkl, _⟩ := (Zl_5.out.1).at_ h5
              have c3 := (Zl_5.out.2).at_ h5
              have cP := Zp_5.out
              obtain ⟨A, hA⟩ : ∃ A, (gk ts (n + 1)).a = A := ⟨_, rfl⟩
              have hAle := HLE.out _ h5
              have hcut := HCUT.out h5
              rw [hA] at c3 hAle hcut
              obtain ⟨s1, hs1⟩ : ∃ y, s.extract 0 A = y := ⟨_, rfl⟩
              obtain ⟨s2, hs2⟩ : ∃ y, (s1 ++ ⟨#[10]⟩ ++ tl : ByteArray) = y := ⟨_, rfl⟩
              have hz1 : s1.size ≤ 300 := by rw [← hs1]; simp; omega
              have hz2 : s2.size ≤ 9223372036854775807 := by rw [← hs2, ByteArray.size_append, ByteArray.size_append]; show s1.size + 1 + tl.size ≤ _; omega
              have n1 : ¬ 9223372036854775807 < s1.size + (⟨#[10]⟩ : ByteArray).size := by show ¬ 9223372036854775807 < s1.size + 1; omega
              have n2 : ¬ 9223372036854775807 < (s1 ++ ⟨#[10]⟩ : ByteArray).size + tl.size := by rw [ByteArray.size_append]; show ¬ 9223372036854775807 < s1.size + 1 + tl.size; omega
              rw [hs1, hs2] at hcut
              have HC := Lib.hid hcut
              have HS1 := Lib.hid hs1
              have HS2 := Lib.hid hs2
              have hA1 : (A : Int) ≤ (s.size : Int) := by omega
              have hA0 : (0 : Int) ≤ (A : Int) := by omega
              clear hcut hs1 hs2 hA hAle
              go_wp2_with fail
              try rw [HS1.out]
              try rw [HS2.out]
              have hC6 := parA s2 zeroX p 3 w5 hz2 ZV_5.out ZT_5.out HC.out
              have HC6 := Lib.hid hC6
              clear hC6
              refine HC6.out.mono ?_
              rintro e w6 ⟨ay, my, cy, rfl, ky, b6⟩
              have HB6 := Lib.hid (HB5.out.trans (b6.mono HB5.out.size))
              have ZV_6 := Lib.hid (LxV.carry ZV_5.out b6)
              have ZT_6 := Lib.hid (TabJ.below ZT_5.out b6)
              have Zl_6 := Lib.hid (tkB_below Zl_5.out b6)
              have Zp_6 := Lib.hid (cell_lat Zp_5.out b6)
              have Xy_6 := Lib.hid (ky)
              clear b6 HC6 ky c3 cP
              try simp only [exV]
              obtain ⟨W7, hW7⟩ : ∃ W, w6.alloc (.cells #[.int .i64 0, .int .i64 0, .string ⟨#[]⟩, .int .i64 0, .slice none 0 0] TX (0, 0)) = W := ⟨_, rfl⟩
              obtain ⟨g1, b7, g3⟩ := varX w6 zeroX (.slice ay my cy) W7 hW7
              have HG7 := Lib.hid g1
              have HW7 := Lib.hid hW7
              obtain ⟨w7, hw7⟩ : ∃ X, W7.setRow w6.heap.size #[.int .i64 zeroX.k, .int .i64 zeroX.o, .string zeroX.s, .int .i64 zeroX.v, .slice ay my cy] = X := ⟨_, rfl⟩
              rw [hw7] at b7 g3
              have HB7 := Lib.hid (HB6.out.trans (b7.mono HB6.out.size))
              have Xy_7 := Lib.hid (KA.carry Xy_6.out b7)
              have ZV_7 := Lib.hid (LxV.carry ZV_6.out b7)
              have ZT_7 := Lib.hid (TabJ.below ZT_6.out b7)
              have Zl_7 := Lib.hid (tkB_below Zl_6.out b7)
              have Zp_7 := Lib.hid (cell_lat Zp_6.out b7)
              have Zy_7 := Lib.hid g3
              have HV7 := Lib.hid hw7
              clear hW7 g1 g3 hw7 b7
              obtain ⟨qy0, qy1, qy2, qy3, qy4⟩ := Zy_7.out
              simp only [Nat.zero_add] at qy1 qy2 qy3 qy4
              have cp := Zp_7.out
              try simp only [exV]
              go_wp2_with (rw [HW7.out]; refine wpList_store_row rfl TX (.tmp 15) (.tmp 80) rfl w6.heap.size #[.int .i64 zeroX.k, .int .i64 zeroX.o, .string zeroX.s, .int .i64 zeroX.v, .slice ay my cy] rfl rfl _ _ HG7.out (by kernel_rfl) rfl (by simp [Value.oneCell']) ?_; rw [HV7.out])
              have hC8 := SameExpr_any zeroX zeroX (.slice ay my cy) (.slice none 0 0) w7 Xy_7.out (KA.nil0 _ _) zeroX_fit zeroX_fit
              rw [zeroX_sam] at hC8
              simp only [exV] at hC8
              have HC8 := Lib.hid hC8
              clear hC8
              refine HC8.out.mono ?_
              rintro e w8 ⟨rfl, b8⟩
              have HB8 := Lib.hid (HB7.out.trans (b8.mono HB7.out.size))
              have Xy_8 := Lib.hid (KA.carry Xy_7.out b8)
              have ZV_8 := Lib.hid (LxV.carry ZV_7.out b8)
              have ZT_8 := Lib.hid (TabJ.below ZT_7.out b8)
              have Zl_8 := Lib.hid (tkB_below Zl_7.out b8)
              have Zp_8 := Lib.hid (cell_lat Zp_7.out b8)
              have Zy_8 := Lib.hid (AtX.later Zy_7.out b8)
              clear b8 HC8 qy0 qy1 qy2 qy3 qy4 cp
              have hC9 := awake_any w8 ZV_8.out ZT_8.out
              have HC9 := Lib.hid hC9
              clear hC9
              go_wp2_with fail
              refine HC9.out.mono ?_
              rintro e w9 ⟨rfl, b9⟩
              have HB9 := Lib.hid (HB8.out.trans (b9.mono HB8.out.size))
              have Xy_9 := Lib.hid (KA.carry Xy_8.out b9)
              have ZV_9 := Lib.hid (LxV.carry ZV_8.out b9)
              have ZT_9 := Lib.hid (TabJ.below ZT_8.out b9)
              have Zl_9 := Lib.hid (tkB_below Zl_8.out b9)
              have Zp_9 := Lib.hid (cell_lat Zp_8.out b9)
              have Zy_9 := Lib.hid (AtX.later Zy_8.out b9)
              clear b9 HC9
              go_wp2
              go_ret
              exact ⟨rfl, HB9.out⟩
            · have m1 : (ts.length : Int) ≤ (n : Int) + 1 := by omega
              have m0 : ¬ (n : Int) < 0 := by omega
              have hC6 := awake_any w5 ZV_5.out ZT_5.out
              have HC6 := Lib.hid hC6
              clear hC6
              go_wp2_with fail
              refine HC6.out.mono ?_
              rintro e w6 ⟨rfl, b6⟩
              have HB6 := Lib.hid (HB5.out.trans (b6.mono HB5.out.size))
              have ZV_6 := Lib.hid (LxV.carry ZV_5.out b6)
              have ZT_6 := Lib.hid (TabJ.below ZT_5.out b6)
              have Zl_6 := Lib.hid (tkB_below Zl_5.out b6)
              have Zp_6 := Lib.hid (cell_lat Zp_5.out b6)
              clear b6 HC6
              go_wp2
              go_ret
              exact ⟨rfl, HB6.out⟩
          · have k3 : (q2 != 3) = true := by simpa using e2
            clear hl hm hp hs3 ht3 e2
            go_enter Tryd.func7, Tryd.ntmps7
            have hC1 := tokB s ts i0 0 w hs ZV_0.out HL.out
            have HC1 := Lib.hid hC1
            clear hC1
            go_wp2_with fail
            refine HC1.out.mono ?_
            rintro e w1 ⟨al, cl, rfl, kl, b1⟩
            have HB1 := Lib.hid (HB0.out.trans (b1.mono HB0.out.size))
            have ZV_1 := Lib.hid (LxV.carry ZV_0.out b1)
            have ZT_1 := Lib.hid (TabJ.below ZT_0.out b1)
            clear b1 HC1
            have Zl_1 := Lib.hid kl
            clear kl
            have hC2 := tokB tl us i1 0 w1 ht ZV_1.out HM.out
            have HC2 := Lib.hid hC2
            clear hC2
            go_wp2_with fail
            refine HC2.out.mono ?_
            rintro e w2 ⟨am, cm, rfl, km, b2⟩
            have HB2 := Lib.hid (HB1.out.trans (b2.mono HB1.out.size))
            have ZV_2 := Lib.hid (LxV.carry ZV_1.out b2)
            have ZT_2 := Lib.hid (TabJ.below ZT_1.out b2)
            have Zl_2 := Lib.hid (tkB_below Zl_1.out b2)
            clear b2 HC2 km
            have hC3 := parA s x p q2 w2 hs ZV_2.out ZT_2.out HP.out
            have HC3 := Lib.hid hC3
            clear hC3
            go_wp2_with fail
            refine HC3.out.mono ?_
            rintro e w3 ⟨ax, mx, cx, rfl, kx, b3⟩
            have HB3 := Lib.hid (HB2.out.trans (b3.mono HB2.out.size))
            have ZV_3 := Lib.hid (LxV.carry ZV_2.out b3)
            have ZT_3 := Lib.hid (TabJ.below ZT_2.out b3)
            have Zl_3 := Lib.hid (tkB_below Zl_2.out b3)
            clear b3 HC3 kx
            try simp only [exV]
            obtain ⟨W4, hW4⟩ : ∃ W, (w3.alloc (.cells #[.int .i64 0, .int .i64 0, .string ⟨#[]⟩, .int .i64 0, .slice none 0 0] TX (0, 0))).alloc (.cells #[.int .i64 0] TZ (0, 0)) = W := ⟨_, rfl⟩
            obtain ⟨g1, g2⟩ := varXI w3 x (.slice ax mx cx) (p : Int) W4 hW4
            obtain ⟨V4, hV4⟩ : ∃ X, W4.setRow w3.heap.size #[.int .i64 x.k, .int .i64 x.o, .string x.s, .int .i64 x.v, .slice ax mx cx] = X := ⟨_, rfl⟩
            obtain ⟨g3, g4, g5⟩ := g2 _ hV4
            obtain ⟨w4, hw4⟩ : ∃ X, V4.setCell ⟨w3.heap.size + 1, 0, none⟩ (.int .i64 (p : Int)) = X := ⟨_, rfl⟩
            obtain ⟨b4, g6⟩ := g5 _ hw4
            have HB4 := Lib.hid (HB3.out.trans (b4.mono HB3.out.size))
            have ZV_4 := Lib.hid (LxV.carry ZV_3.out b4)
            have ZT_4 := Lib.hid (TabJ.below ZT_3.out b4)
            have Zl_4 := Lib.hid (tkB_below Zl_3.out b4)
            have Zp_4 := Lib.hid g6
            have HG4 := Lib.hid g1
            have HW4 := Lib.hid hW4
            have HV4 := Lib.hid hV4
            have HX4 := Lib.hid hw4
            clear hW4 hV4 hw4 g1 g2 g5 g6 b4
            go_wp2_with (rw [HW4.out]; refine wpList_store_row rfl TX (.tmp 11) (.tmp 42) rfl w3.heap.size #[.int .i64 x.k, .int .i64 x.o, .string x.s, .int .i64 x.v, .slice ax mx cx] rfl rfl _ _ HG4.out (by kernel_rfl) rfl (by simp [Value.oneCell']) ?_; rw [HV4.out])
            clear g3 g4
            have hC5 := awake_any w4 ZV_4.out ZT_4.out
            have HC5 := Lib.hid hC5
            clear hC5
            try rw [HX4.out]
            refine HC5.out.mono ?_
            rintro e w5 ⟨rfl, b5⟩
            have HB5 := Lib.hid (HB4.out.trans (b5.mono HB4.out.size))
            have ZV_5 := Lib.hid (LxV.carry ZV_4.out b5)
            have ZT_5 := Lib.hid (TabJ.below ZT_4.out b5)
            have Zl_5 := Lib.hid (tkB_below Zl_4.out b5)
            have Zp_5 := Lib.hid (cell_lat Zp_4.out b5)
            clear b5 HC5
            go_wp2
            go_ret
            exact ⟨rfl, HB5.out⟩
        · have k2 : (q1 != 0) = true := by simpa using e1
          clear hl hm hp hs3 ht3 e1
          go_enter Tryd.func7, Tryd.ntmps7
          have hC1 := tokB s ts i0 0 w hs ZV_0.out HL.out
          have HC1 := Lib.hid hC1
          clear hC1
          go_wp2_with fail
          refine HC1.out.mono ?_
          rintro e w1 ⟨al, cl, rfl, kl, b1⟩
          have HB1 := Lib.hid (HB0.out.trans (b1.mono HB0.out.size))
          have ZV_1 := Lib.hid (LxV.carry ZV_0.out b1)
          have ZT_1 := Lib.hid (TabJ.below ZT_0.out b1)
          clear b1 HC1
          have Zl_1 := Lib.hid kl
          clear kl
          have hC2 := tokB tl us i1 q1 w1 ht ZV_1.out HM.out
          have HC2 := Lib.hid hC2
          clear hC2
          go_wp2_with fail
          refine HC2.out.mono ?_
          rintro e w2 ⟨am, cm, rfl, km, b2⟩
          have HB2 := Lib.hid (HB1.out.trans (b2.mono HB1.out.size))
          have ZV_2 := Lib.hid (LxV.carry ZV_1.out b2)
          have ZT_2 := Lib.hid (TabJ.below ZT_1.out b2)
          have Zl_2 := Lib.hid (tkB_below Zl_1.out b2)
          clear b2 HC2 km
          have hC3 := parA s x p q2 w2 hs ZV_2.out ZT_2.out HP.out
          have HC3 := Lib.hid hC3
          clear hC3
          go_wp2_with fail
          refine HC3.out.mono ?_
          rintro e w3 ⟨ax, mx, cx, rfl, kx, b3⟩
          have HB3 := Lib.hid (HB2.out.trans (b3.mono HB2.out.size))
          have ZV_3 := Lib.hid (LxV.carry ZV_2.out b3)
          have ZT_3 := Lib.hid (TabJ.below ZT_2.out b3)
          have Zl_3 := Lib.hid (tkB_below Zl_2.out b3)
          clear b3 HC3 kx
          try simp only [exV]
          obtain ⟨W4, hW4⟩ : ∃ W, (w3.alloc (.cells #[.int .i64 0, .int .i64 0, .string ⟨#[]⟩, .int .i64 0, .slice none 0 0] TX (0, 0))).alloc (.cells #[.int .i64 0] TZ (0, 0)) = W := ⟨_, rfl⟩
          obtain ⟨g1, g2⟩ := varXI w3 x (.slice ax mx cx) (p : Int) W4 hW4
          obtain ⟨V4, hV4⟩ : ∃ X, W4.setRow w3.heap.size #[.int .i64 x.k, .int .i64 x.o, .string x.s, .int .i64 x.v, .slice ax mx cx] = X := ⟨_, rfl⟩
          obtain ⟨g3, g4, g5⟩ := g2 _ hV4
          obtain ⟨w4, hw4⟩ : ∃ X, V4.setCell ⟨w3.heap.size + 1, 0, none⟩ (.int .i64 (p : Int)) = X := ⟨_, rfl⟩
          obtain ⟨b4, g6⟩ := g5 _ hw4
          have HB4 := Lib.hid (HB3.out.trans (b4.mono HB3.out.size))
          have ZV_4 := Lib.hid (LxV.carry ZV_3.out b4)
          have ZT_4 := Lib.hid (TabJ.below ZT_3.out b4)
          have Zl_4 := Lib.hid (tkB_below Zl_3.out b4)
          have Zp_4 := Lib.hid g6
          have HG4 := Lib.hid g1
          have HW4 := Lib.hid hW4
          have HV4 := Lib.hid hV4
          have HX4 := Lib.hid hw4
          clear hW4 hV4 hw4 g1 g2 g5 g6 b4
          go_wp2_with (rw [HW4.out]; refine wpList_store_row rfl TX (.tmp 11) (.tmp 42) rfl w3.heap.size #[.int .i64 x.k, .int .i64 x.o, .string x.s, .int .i64 x.v, .slice ax mx cx] rfl rfl _ _ HG4.out (by kernel_rfl) rfl (by simp [Value.oneCell']) ?_; rw [HV4.out])
          clear g3 g4
          have hC5 := awake_any w4 ZV_4.out ZT_4.out
          have HC5 := Lib.hid hC5
          clear hC5
          try rw [HX4.out]
          refine HC5.out.mono ?_
          rintro e w5 ⟨rfl, b5⟩
          have HB5 := Lib.hid (HB4.out.trans (b5.mono HB4.out.size))
          have ZV_5 := Lib.hid (LxV.carry ZV_4.out b5)
          have ZT_5 := Lib.hid (TabJ.below ZT_4.out b5)
          have Zl_5 := Lib.hid (tkB_below Zl_4.out b5)
          have Zp_5 := Lib.hid (cell_lat Zp_4.out b5)
          clear b5 HC5
          go_wp2
          go_ret
          exact ⟨rfl, HB5.out⟩
      · have k1 : (q0 != 0) = true := by simpa using e0
        clear hl hm hp hs3 ht3 e0
        go_enter Tryd.func7, Tryd.ntmps7
        have hC1 := tokB s ts i0 q0 w hs ZV_0.out HL.out
        have HC1 := Lib.hid hC1
        clear hC1
        go_wp2_with fail
        refine HC1.out.mono ?_
        rintro e w1 ⟨al, cl, rfl, kl, b1⟩
        have HB1 := Lib.hid (HB0.out.trans (b1.mono HB0.out.size))
        have ZV_1 := Lib.hid (LxV.carry ZV_0.out b1)
        have ZT_1 := Lib.hid (TabJ.below ZT_0.out b1)
        clear b1 HC1
        have Zl_1 := Lib.hid kl
        clear kl
        have hC2 := tokB tl us i1 q1 w1 ht ZV_1.out HM.out
        have HC2 := Lib.hid hC2
        clear hC2
        go_wp2_with fail
        refine HC2.out.mono ?_
        rintro e w2 ⟨am, cm, rfl, km, b2⟩
        have HB2 := Lib.hid (HB1.out.trans (b2.mono HB1.out.size))
        have ZV_2 := Lib.hid (LxV.carry ZV_1.out b2)
        have ZT_2 := Lib.hid (TabJ.below ZT_1.out b2)
        have Zl_2 := Lib.hid (tkB_below Zl_1.out b2)
        clear b2 HC2 km
        have hC3 := parA s x p q2 w2 hs ZV_2.out ZT_2.out HP.out
        have HC3 := Lib.hid hC3
        clear hC3
        go_wp2_with fail
        refine HC3.out.mono ?_
        rintro e w3 ⟨ax, mx, cx, rfl, kx, b3⟩
        have HB3 := Lib.hid (HB2.out.trans (b3.mono HB2.out.size))
        have ZV_3 := Lib.hid (LxV.carry ZV_2.out b3)
        have ZT_3 := Lib.hid (TabJ.below ZT_2.out b3)
        have Zl_3 := Lib.hid (tkB_below Zl_2.out b3)
        clear b3 HC3 kx
        try simp only [exV]
        obtain ⟨W4, hW4⟩ : ∃ W, (w3.alloc (.cells #[.int .i64 0, .int .i64 0, .string ⟨#[]⟩, .int .i64 0, .slice none 0 0] TX (0, 0))).alloc (.cells #[.int .i64 0] TZ (0, 0)) = W := ⟨_, rfl⟩
        obtain ⟨g1, g2⟩ := varXI w3 x (.slice ax mx cx) (p : Int) W4 hW4
        obtain ⟨V4, hV4⟩ : ∃ X, W4.setRow w3.heap.size #[.int .i64 x.k, .int .i64 x.o, .string x.s, .int .i64 x.v, .slice ax mx cx] = X := ⟨_, rfl⟩
        obtain ⟨g3, g4, g5⟩ := g2 _ hV4
        obtain ⟨w4, hw4⟩ : ∃ X, V4.setCell ⟨w3.heap.size + 1, 0, none⟩ (.int .i64 (p : Int)) = X := ⟨_, rfl⟩
        obtain ⟨b4, g6⟩ := g5 _ hw4
        have HB4 := Lib.hid (HB3.out.trans (b4.mono HB3.out.size))
        have ZV_4 := Lib.hid (LxV.carry ZV_3.out b4)
        have ZT_4 := Lib.hid (TabJ.below ZT_3.out b4)
        have Zl_4 := Lib.hid (tkB_below Zl_3.out b4)
        have Zp_4 := Lib.hid g6
        have HG4 := Lib.hid g1
        have HW4 := Lib.hid hW4
        have HV4 := Lib.hid hV4
        have HX4 := Lib.hid hw4
        clear hW4 hV4 hw4 g1 g2 g5 g6 b4
        go_wp2_with (rw [HW4.out]; refine wpList_store_row rfl TX (.tmp 11) (.tmp 42) rfl w3.heap.size #[.int .i64 x.k, .int .i64 x.o, .string x.s, .int .i64 x.v, .slice ax mx cx] rfl rfl _ _ HG4.out (by kernel_rfl) rfl (by simp [Value.oneCell']) ?_; rw [HV4.out])
        clear g3 g4
        have hC5 := awake_any w4 ZV_4.out ZT_4.out
        have HC5 := Lib.hid hC5
        clear hC5
        try rw [HX4.out]
        refine HC5.out.mono ?_
        rintro e w5 ⟨rfl, b5⟩
        have HB5 := Lib.hid (HB4.out.trans (b5.mono HB4.out.size))
        have ZV_5 := Lib.hid (LxV.carry ZV_4.out b5)
        have ZT_5 := Lib.hid (TabJ.below ZT_4.out b5)
        have Zl_5 := Lib.hid (tkB_below Zl_4.out b5)
        have Zp_5 := Lib.hid (cell_lat Zp_4.out b5)
        clear b5 HC5
        go_wp2
        go_ret
        exact ⟨rfl, HB5.out⟩

end Go.Proofs.YtdgphhdkeikbaaaDoor
