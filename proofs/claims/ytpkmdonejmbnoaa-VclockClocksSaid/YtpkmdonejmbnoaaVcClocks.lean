/-
  The statement VclockClocks: the walk.
-/
import Derived.Test.YtpkmdonejmbnoaaVcLaw
import Derived.Test.YtpkmdonejmbnoaaVcCodec
namespace Go.Proofs.Ytpkmdonejmbnoaa
open Go.RowKit

theorem RetK_def {zs : List Int} {x : Int} {w w' : World} {e : Ending} (h : RetK zs x w e w') : ∃ v, e = .returned (.tuple #[v, .int .i64 x]) ∧ KlC w' v zs ∧ Below w.heap.size w w' := h

set_option maxRecDepth 100000 in
set_option maxHeartbeats 8000000 in
theorem vclockClocks_walk (u : Value) (xs : List Int) (n i : Int) (s : ByteArray) (w : World) (hu : KlC w u xs) (hs : s.size ≤ 9223372036854775807) :
    Calls Try.prog 3 #[u, .int .i64 n, .int .i64 i, .string s] w fun e w' => e = .returned (.bool true) ∧ Below w.heap.size w w' := by
  have U := Lib.hid hu
  clear hu
  obtain ⟨a, c, rfl, _, _⟩ := U.out
  obtain ⟨w1, hw1⟩ : ∃ W, w.alloc (.cells #[.slice a xs.length c] TC) = W := ⟨_, rfl⟩
  have b1 : Below w.heap.size w w1 := by rw [← hw1]; exact (Below.refl _ _).alloc (Nat.le_refl _) _
  have Lr1 := klL1 w _ xs U.out
  rw [hw1] at Lr1
  have L1 := Lib.hid Lr1
  clear Lr1
  have HW1 := Lib.hid hw1
  have U1 := Lib.hid (U.out.below b1)
  have B1 := Lib.hid b1
  clear b1 hw1
  have HG := greatK_any _ _ w1 L1.out
  cases hg : [xs].any bigK with
  | true =>
    rw [hg] at HG
    clear hg
    have HG := Lib.hid HG
    go_enter Try.func3, Try.ntmps3
    go_wp2_with fail
    rw [HW1.out]
    refine HG.out.mono ?_
    rintro e w9 ⟨rfl, rfl⟩
    have c2 := awake_any w1
    have C2 := Lib.hid c2
    clear c2
    go_wp2_with fail
    refine C2.out.mono ?_
    rintro e w2 ⟨rfl, b⟩
    have U2 := Lib.hid (U1.out.below b)
    have L2 := Lib.hid (L1.out.below b)
    have B2 := Lib.hid (B1.out.trans (b.mono B1.out.size))
    clear b C2
    go_wp2
    go_ret
    exact ⟨rfl, B2.out⟩
  | false =>
    rw [hg] at HG
    clear hg
    by_cases h4 : 400 < s.size
    · have h4' : (400 : Int) < (s.size : Int) := by omega
      have HG := Lib.hid HG
      go_enter Try.func3, Try.ntmps3
      go_wp2_with fail
      rw [HW1.out]
      refine HG.out.mono ?_
      rintro e w9 ⟨rfl, rfl⟩
      have c2 := awake_any w1
      have C2 := Lib.hid c2
      clear c2
      go_wp2_with fail
      refine C2.out.mono ?_
      rintro e w2 ⟨rfl, b⟩
      have U2 := Lib.hid (U1.out.below b)
      have L2 := Lib.hid (L1.out.below b)
      have B2 := Lib.hid (B1.out.trans (b.mono B1.out.size))
      clear b C2
      go_wp2
      go_ret
      exact ⟨rfl, B2.out⟩
    · have h4' : ¬ (400 : Int) < (s.size : Int) := by omega
      skip
      clear h4
      have HG := Lib.hid HG
      obtain ⟨NL, hNL⟩ : ∃ x, newL n = x := ⟨_, rfl⟩
      have QNL := Lib.hid hNL
      clear hNL
      obtain ⟨NE, hNE⟩ : ∃ x, newE n = x := ⟨_, rfl⟩
      have QNE := Lib.hid hNE
      clear hNE
      obtain ⟨CE, hCE⟩ : ∃ x, vcE xs = x := ⟨_, rfl⟩
      have QCE := Lib.hid hCE
      clear hCE
      obtain ⟨KB, hKB⟩ : ∃ x, kovB xs i n = x := ⟨_, rfl⟩
      have QKB := Lib.hid hKB
      clear hKB
      obtain ⟨TL, hTL⟩ : ∃ x, tickL xs i = x := ⟨_, rfl⟩
      have QTL := Lib.hid hTL
      clear hTL
      obtain ⟨TE, hTE⟩ : ∃ x, tickE xs i = x := ⟨_, rfl⟩
      have QTE := Lib.hid hTE
      clear hTE
      obtain ⟨DL, hDL⟩ : ∃ x, kdecL s = x := ⟨_, rfl⟩
      have QDL := Lib.hid hDL
      clear hDL
      obtain ⟨DE, hDE⟩ : ∃ x, kdecE s = x := ⟨_, rfl⟩
      have QDE := Lib.hid hDE
      clear hDE
      obtain ⟨EE, hEE⟩ : ∃ x, kencE xs = x := ⟨_, rfl⟩
      have QEE := Lib.hid hEE
      clear hEE
      obtain ⟨EL, hEL⟩ : ∃ x, strOf (kencL xs) = x := ⟨_, rfl⟩
      have QEL := Lib.hid hEL
      clear hEL
      go_enter Try.func3, Try.ntmps3
      go_wp2_with fail
      rw [HW1.out]
      refine HG.out.mono ?_
      rintro e w9 ⟨rfl, rfl⟩
      have c2 := vNew_any n w1
      rw [QNL.out, QNE.out] at c2
      have C2 := Lib.hid c2
      clear c2
      go_wp2_with fail
      refine C2.out.mono ?_
      rintro e w2 ⟨v1, rfl, k, b⟩
      have U2 := Lib.hid (U1.out.below b)
      have B2 := Lib.hid (B1.out.trans (b.mono B1.out.size))
      have N12 := Lib.hid k
      clear k
      clear b C2
      have c3 := rNew_any n w2
      rw [QNL.out, QNE.out] at c3
      have C3 := Lib.hid c3
      clear c3
      go_wp2_with fail
      refine C3.out.mono ?_
      rintro e w3 ⟨v2, rfl, k, b⟩
      have U3 := Lib.hid (U2.out.below b)
      have N13 := Lib.hid (N12.out.below b)
      have B3 := Lib.hid (B2.out.trans (b.mono B2.out.size))
      have N23 := Lib.hid k
      clear k
      clear b C3
      have c4 := rSame_yes v1 v2 NL w3 N13.out N23.out
      have C4 := Lib.hid c4
      clear c4
      go_wp2_with fail
      refine C4.out.mono ?_
      rintro e w4 ⟨rfl, b⟩
      have U4 := Lib.hid (U3.out.below b)
      have N14 := Lib.hid (N13.out.below b)
      have N24 := Lib.hid (N23.out.below b)
      have B4 := Lib.hid (B3.out.trans (b.mono B3.out.size))
      clear b C4
      have c5 := vCheck_at _ xs w4 U4.out
      rw [QCE.out] at c5
      have C5 := Lib.hid c5
      clear c5
      go_wp2_with fail
      refine C5.out.mono ?_
      rintro e w5 ⟨rfl, rfl⟩
      clear C5
      have c6 := rCheck_at _ xs w4 U4.out
      rw [QCE.out] at c6
      have C6 := Lib.hid c6
      clear c6
      go_wp2_with fail
      refine C6.out.mono ?_
      rintro e w6 ⟨rfl, rfl⟩
      clear C6
      have c7 := vCovers_at _ xs i n w4 U4.out
      rw [QKB.out] at c7
      have C7 := Lib.hid c7
      clear c7
      go_wp2_with fail
      refine C7.out.mono ?_
      rintro e w7 ⟨rfl, rfl⟩
      clear C7
      have c8 := rCovers_at _ xs i n w4 U4.out
      rw [QKB.out] at c8
      have C8 := Lib.hid c8
      clear c8
      go_wp2_with fail
      refine C8.out.mono ?_
      rintro e w8 ⟨rfl, rfl⟩
      clear C8
      have c9 := vTick_at _ xs i w4 U4.out
      rw [QTL.out, QTE.out] at c9
      have C9 := Lib.hid c9
      clear c9
      go_wp2_with fail
      refine C9.out.mono ?_
      rintro e w9 ⟨v3, rfl, k, b⟩
      have U9 := Lib.hid (U4.out.below b)
      have B9 := Lib.hid (B4.out.trans (b.mono B4.out.size))
      have T19 := Lib.hid k
      clear k
      clear b C9
      have c10 := rTick_at _ xs i w9 U9.out
      rw [QTL.out, QTE.out] at c10
      have C10 := Lib.hid c10
      clear c10
      go_wp2_with fail
      refine C10.out.mono ?_
      rintro e w10 ⟨v4, rfl, k, b⟩
      have U10 := Lib.hid (U9.out.below b)
      have T110 := Lib.hid (T19.out.below b)
      have B10 := Lib.hid (B9.out.trans (b.mono B9.out.size))
      have T210 := Lib.hid k
      clear k
      clear b C10
      have c11 := rSame_yes v3 v4 TL w10 T110.out T210.out
      have C11 := Lib.hid c11
      clear c11
      go_wp2_with fail
      refine C11.out.mono ?_
      rintro e w11 ⟨rfl, b⟩
      have U11 := Lib.hid (U10.out.below b)
      have T111 := Lib.hid (T110.out.below b)
      have T211 := Lib.hid (T210.out.below b)
      have B11 := Lib.hid (B10.out.trans (b.mono B10.out.size))
      clear b C11
      have c12 := vEncode_at _ xs w11 U11.out
      rw [QEL.out, QEE.out] at c12
      have C12 := Lib.hid c12
      clear c12
      go_wp2_with fail
      refine C12.out.mono ?_
      rintro e w12 ⟨rfl, b⟩
      have U12 := Lib.hid (U11.out.below b)
      have B12 := Lib.hid (B11.out.trans (b.mono B11.out.size))
      clear b C12
      have c13 := rEncode_at _ xs w12 U12.out
      rw [QEL.out, QEE.out] at c13
      have C13 := Lib.hid c13
      clear c13
      go_wp2_with fail
      refine C13.out.mono ?_
      rintro e w13 ⟨rfl, b⟩
      have U13 := Lib.hid (U12.out.below b)
      have B13 := Lib.hid (B12.out.trans (b.mono B12.out.size))
      clear b C13
      have c14 := vDecode_any s hs w13
      rw [QDL.out, QDE.out] at c14
      have C14 := Lib.hid c14
      clear c14
      go_wp2_with fail
      refine C14.out.mono ?_
      rintro e w14 ⟨v5, rfl, k, b⟩
      have B14 := Lib.hid (B13.out.trans (b.mono B13.out.size))
      have D114 := Lib.hid k
      clear k
      clear b C14
      have c15 := rDecode_any s hs w14
      rw [QDL.out, QDE.out] at c15
      have C15 := Lib.hid c15
      clear c15
      go_wp2_with fail
      refine C15.out.mono ?_
      rintro e w15 ⟨v6, rfl, k, b⟩
      have D115 := Lib.hid (D114.out.below b)
      have B15 := Lib.hid (B14.out.trans (b.mono B14.out.size))
      have D215 := Lib.hid k
      clear k
      clear b C15
      have c16 := rSame_yes v5 v6 DL w15 D115.out D215.out
      have C16 := Lib.hid c16
      clear c16
      go_wp2_with fail
      refine C16.out.mono ?_
      rintro e w16 ⟨rfl, b⟩
      have D116 := Lib.hid (D115.out.below b)
      have D216 := Lib.hid (D215.out.below b)
      have B16 := Lib.hid (B15.out.trans (b.mono B15.out.size))
      clear b C16
      have c17 := awake_any w16
      have C17 := Lib.hid c17
      clear c17
      go_wp2_with fail
      refine C17.out.mono ?_
      rintro e w17 ⟨rfl, b⟩
      have B17 := Lib.hid (B16.out.trans (b.mono B16.out.size))
      clear b C17
      go_wp2
      go_ret
      exact ⟨rfl, B17.out⟩

end Go.Proofs.Ytpkmdonejmbnoaa
