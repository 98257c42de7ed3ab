/-
  The statement VclockBounds: the walk.
-/
import Derived.Test.YtpkmdonejmbnoaaVcBnd
namespace Go.Proofs.Ytpkmdonejmbnoaa
open Go.RowKit

set_option maxRecDepth 100000 in
set_option maxHeartbeats 16000000 in
theorem vclockBounds_walk (u v t : Value) (xs ys zs : List Int) (w : World) (hu : KlC w u xs) (hv : KlC w v ys) (ht : KlC w t zs) :
    Calls Try.prog 6 #[u, v, t] w fun e w' => e = .returned (.bool true) ∧ Below w.heap.size w w' := by
  have U := Lib.hid hu
  have V := Lib.hid hv
  have T := Lib.hid ht
  clear hu hv ht
  obtain ⟨a, c, rfl, _, _⟩ := U.out
  obtain ⟨a2, c2, rfl, _, _⟩ := V.out
  obtain ⟨a3, c3, rfl, _, _⟩ := T.out
  obtain ⟨w1, hw1⟩ : ∃ W, w.alloc (.cells #[.slice a xs.length c, .slice a2 ys.length c2, .slice a3 zs.length c3] TC) = W := ⟨_, rfl⟩
  have b1 : Below w.heap.size w w1 := by rw [← hw1]; exact (Below.refl _ _).alloc (Nat.le_refl _) _
  have Lr1 := klL3 w _ _ _ xs ys zs U.out V.out T.out
  rw [hw1] at Lr1
  have L1 := Lib.hid Lr1
  clear Lr1
  have HW1 := Lib.hid hw1
  have U1 := Lib.hid (U.out.below b1)
  have V1 := Lib.hid (V.out.below b1)
  have T1 := Lib.hid (T.out.below b1)
  have B1 := Lib.hid b1
  clear b1 hw1
  have HG := greatK_any _ _ w1 L1.out
  cases hg : [xs, ys, zs].any bigK with
  | true =>
    rw [hg] at HG
    clear hg
    have HG := Lib.hid HG
    go_enter Try.func6, Try.ntmps6
    go_wp2_with fail
    rw [HW1.out]
    refine HG.out.mono ?_
    rintro e w9 ⟨rfl, rfl⟩
    have c2 := awake_any w1
    have C2 := Lib.hid c2
    clear c2
    go_wp2_with fail
    refine C2.out.mono ?_
    rintro e w2 ⟨rfl, b⟩
    have B2 := Lib.hid (B1.out.trans (b.mono B1.out.size))
    clear b C2
    go_wp2
    go_ret
    exact ⟨rfl, B2.out⟩
  | false =>
    rw [hg] at HG
    clear hg
    cases hv : [xs, ys, zs].any (badK (elK [xs, ys, zs] 0).length) with
    | true =>
      have HG := Lib.hid HG
      go_enter Try.func6, Try.ntmps6
      go_wp2_with fail
      rw [HW1.out]
      refine HG.out.mono ?_
      rintro e w9 ⟨rfl, rfl⟩
      obtain ⟨w2, hw2⟩ : ∃ W, w1.alloc (.cells #[.slice a xs.length c, .slice a2 ys.length c2, .slice a3 zs.length c3] TC) = W := ⟨_, rfl⟩
      have b2 : Below w1.heap.size w1 w2 := by rw [← hw2]; exact (Below.refl _ _).alloc (Nat.le_refl _) _
      have Lr2 := klL3 w1 _ _ _ xs ys zs U1.out V1.out T1.out
      rw [hw2] at Lr2
      have L2 := Lib.hid Lr2
      clear Lr2
      have HW2 := Lib.hid hw2
      have U2 := Lib.hid (U1.out.below b2)
      have V2 := Lib.hid (V1.out.below b2)
      have T2 := Lib.hid (T1.out.below b2)
      have B2 := Lib.hid (B1.out.trans (b2.mono B1.out.size))
      clear b2 hw2
      have c3 := validK_any _ _ w2 L2.out (by simp)
      rw [hv] at c3
      have C3 := Lib.hid c3
      clear c3
      go_wp2_with fail
      rw [HW2.out]
      refine C3.out.mono ?_
      rintro e w3 ⟨rfl, b⟩
      have U3 := Lib.hid (U2.out.below b)
      have V3 := Lib.hid (V2.out.below b)
      have T3 := Lib.hid (T2.out.below b)
      have L3 := Lib.hid (L2.out.below b)
      have B3 := Lib.hid (B2.out.trans (b.mono B2.out.size))
      clear b C3
      have c4 := awake_any w3
      have C4 := Lib.hid c4
      clear c4
      go_wp2_with fail
      refine C4.out.mono ?_
      rintro e w4 ⟨rfl, b⟩
      have B4 := Lib.hid (B3.out.trans (b.mono B3.out.size))
      clear b C4
      go_wp2
      go_ret
      exact ⟨rfl, B4.out⟩
    | false =>
      obtain ⟨hp, hq⟩ := valid3 hv
      have PXY := Lib.hid hp
      have PYZ := Lib.hid hq
      clear hp hq
      have HG := Lib.hid HG
      go_enter Try.func6, Try.ntmps6
      go_wp2_with fail
      rw [HW1.out]
      refine HG.out.mono ?_
      rintro e w9 ⟨rfl, rfl⟩
      obtain ⟨w2, hw2⟩ : ∃ W, w1.alloc (.cells #[.slice a xs.length c, .slice a2 ys.length c2, .slice a3 zs.length c3] TC) = W := ⟨_, rfl⟩
      have b2 : Below w1.heap.size w1 w2 := by rw [← hw2]; exact (Below.refl _ _).alloc (Nat.le_refl _) _
      have Lr2 := klL3 w1 _ _ _ xs ys zs U1.out V1.out T1.out
      rw [hw2] at Lr2
      have L2 := Lib.hid Lr2
      clear Lr2
      have HW2 := Lib.hid hw2
      have U2 := Lib.hid (U1.out.below b2)
      have V2 := Lib.hid (V1.out.below b2)
      have T2 := Lib.hid (T1.out.below b2)
      have B2 := Lib.hid (B1.out.trans (b2.mono B1.out.size))
      clear b2 hw2
      have c3 := validK_any _ _ w2 L2.out (by simp)
      rw [hv] at c3
      have C3 := Lib.hid c3
      clear c3
      go_wp2_with fail
      rw [HW2.out]
      refine C3.out.mono ?_
      rintro e w3 ⟨rfl, b⟩
      have U3 := Lib.hid (U2.out.below b)
      have V3 := Lib.hid (V2.out.below b)
      have T3 := Lib.hid (T2.out.below b)
      have L3 := Lib.hid (L2.out.below b)
      have B3 := Lib.hid (B2.out.trans (b.mono B2.out.size))
      clear b C3
      clear hv
      obtain ⟨E, hE⟩ : ∃ E, w3.heap.size = E := ⟨_, rfl⟩
      obtain ⟨w4, hw4⟩ : ∃ W, w3.alloc (.cells #[.slice none 0 0] 40) = W := ⟨_, rfl⟩
      have b4 : Below w3.heap.size w3 w4 := by rw [← hw4]; exact (Below.refl _ _).alloc (Nat.le_refl _) _
      have x4 : BoxX E (.slice none 0 0) 0 w4 := ⟨by rw [← hw4, ← hE]; exact World.alloc_heap_new w3 _, World.ownsRow_nil _ _ _ _⟩
      have U4 := Lib.hid (((U3.out.all.below b4).mono (ψ := Off E (.slice none 0 0)) (fun b _ hb => ⟨by omega, by simp [Value.ownBlock]⟩)))
      have V4 := Lib.hid (((V3.out.all.below b4).mono (ψ := Off E (.slice none 0 0)) (fun b _ hb => ⟨by omega, by simp [Value.ownBlock]⟩)))
      have T4 := Lib.hid (((T3.out.all.below b4).mono (ψ := Off E (.slice none 0 0)) (fun b _ hb => ⟨by omega, by simp [Value.ownBlock]⟩)))
      have B4 := Lib.hid (B3.out.trans (b4.mono B3.out.size))
      have hEw : w.heap.size ≤ E := by rw [← hE]; exact B3.out.size
      have X4 := Lib.hid x4
      have HW4 := Lib.hid hw4
      have HE := Lib.hid hE
      clear x4 hw4 b4
      go_wp2_with fail
      rw [HW4.out]
      clear hE
      have c5 := bndJoin_any E 0 (.slice none 0 0) _ _ xs ys w4 X4.out (by decide) U4.out V4.out (PXY.out)
      have C5 := Lib.hid c5
      clear c5
      refine C5.out.mono ?_
      rintro e w5 ⟨z5, rfl, ev5, x5, s5, kz5⟩
      have U5 := Lib.hid (s5.carry U4.out)
      have V5 := Lib.hid (s5.carry V4.out)
      have T5 := Lib.hid (s5.carry T4.out)
      have B5 := Lib.hid (B4.out.trans (s5.below hEw (fun b e => Nat.le_trans hEw (X4.out.base b e)) B4.out.size))
      have X5 := Lib.hid x5
      have J5 := Lib.hid kz5
      clear x5 s5 kz5 C5
      have c6 := bndMeet_any E 1 ev5 _ _ xs ys w5 X5.out (by decide) U5.out V5.out (PXY.out)
      have C6 := Lib.hid c6
      clear c6
      go_wp2_with fail
      refine C6.out.mono ?_
      rintro e w6 ⟨z6, rfl, ev6, x6, s6, kz6⟩
      have U6 := Lib.hid (s6.carry U5.out)
      have V6 := Lib.hid (s6.carry V5.out)
      have T6 := Lib.hid (s6.carry T5.out)
      have J6 := Lib.hid (s6.carry J5.out)
      have B6 := Lib.hid (B5.out.trans (s6.below hEw (fun b e => Nat.le_trans hEw (X5.out.base b e)) B5.out.size))
      have X6 := Lib.hid x6
      have M6 := Lib.hid kz6
      clear x6 s6 kz6 C6
      have c7 := bndJoin_any E 2 ev6 _ _ ys xs w6 X6.out (by decide) V6.out U6.out (PXY.out.symm)
      rw [join_comm PXY.out] at c7
      have C7 := Lib.hid c7
      clear c7
      go_wp2_with fail
      refine C7.out.mono ?_
      rintro e w7 ⟨z7, rfl, ev7, x7, s7, kz7⟩
      have U7 := Lib.hid (s7.carry U6.out)
      have V7 := Lib.hid (s7.carry V6.out)
      have T7 := Lib.hid (s7.carry T6.out)
      have J7 := Lib.hid (s7.carry J6.out)
      have M7 := Lib.hid (s7.carry M6.out)
      have B7 := Lib.hid (B6.out.trans (s7.below hEw (fun b e => Nat.le_trans hEw (X6.out.base b e)) B6.out.size))
      have X7 := Lib.hid x7
      have R7 := Lib.hid kz7
      clear x7 s7 kz7 C7
      have C8 := Lib.hid (rSame_yes _ _ (joinL xs ys) w7 J7.out.known R7.out.known)
      go_wp2_with fail
      refine C8.out.mono ?_
      rintro e w8 ⟨rfl, b⟩
      have U8 := Lib.hid (U7.out.below b)
      have V8 := Lib.hid (V7.out.below b)
      have T8 := Lib.hid (T7.out.below b)
      have J8 := Lib.hid (J7.out.below b)
      have M8 := Lib.hid (M7.out.below b)
      have R8 := Lib.hid (R7.out.below b)
      have X8 := Lib.hid (X7.out.below b)
      have B8 := Lib.hid (B7.out.trans (b.mono B7.out.size))
      clear b C8
      have c9 := bndMeet_any E 3 ev7 _ _ ys xs w8 X8.out (by decide) V8.out U8.out (PXY.out.symm)
      rw [meet_comm PXY.out] at c9
      have C9 := Lib.hid c9
      clear c9
      go_wp2_with fail
      refine C9.out.mono ?_
      rintro e w9 ⟨z9, rfl, ev9, x9, s9, kz9⟩
      have U9 := Lib.hid (s9.carry U8.out)
      have V9 := Lib.hid (s9.carry V8.out)
      have T9 := Lib.hid (s9.carry T8.out)
      have J9 := Lib.hid (s9.carry J8.out)
      have M9 := Lib.hid (s9.carry M8.out)
      have B9 := Lib.hid (B8.out.trans (s9.below hEw (fun b e => Nat.le_trans hEw (X8.out.base b e)) B8.out.size))
      have X9 := Lib.hid x9
      have R9 := Lib.hid kz9
      clear x9 s9 kz9 C9
      have C10 := Lib.hid (rSame_yes _ _ (meetL xs ys) w9 M9.out.known R9.out.known)
      go_wp2_with fail
      refine C10.out.mono ?_
      rintro e w10 ⟨rfl, b⟩
      have U10 := Lib.hid (U9.out.below b)
      have V10 := Lib.hid (V9.out.below b)
      have T10 := Lib.hid (T9.out.below b)
      have J10 := Lib.hid (J9.out.below b)
      have M10 := Lib.hid (M9.out.below b)
      have R10 := Lib.hid (R9.out.below b)
      have X10 := Lib.hid (X9.out.below b)
      have B10 := Lib.hid (B9.out.trans (b.mono B9.out.size))
      clear b C10
      have c11 := bndJoin_any E 4 ev9 _ _ xs xs w10 X10.out (by decide) U10.out U10.out (PXY.out.selfL)
      rw [join_self PXY.out.selfL] at c11
      have C11 := Lib.hid c11
      clear c11
      go_wp2_with fail
      refine C11.out.mono ?_
      rintro e w11 ⟨z11, rfl, ev11, x11, s11, kz11⟩
      have U11 := Lib.hid (s11.carry U10.out)
      have V11 := Lib.hid (s11.carry V10.out)
      have T11 := Lib.hid (s11.carry T10.out)
      have J11 := Lib.hid (s11.carry J10.out)
      have M11 := Lib.hid (s11.carry M10.out)
      have B11 := Lib.hid (B10.out.trans (s11.below hEw (fun b e => Nat.le_trans hEw (X10.out.base b e)) B10.out.size))
      have X11 := Lib.hid x11
      have R11 := Lib.hid kz11
      clear x11 s11 kz11 C11
      have C12 := Lib.hid (rSame_yes _ _ (xs) w11 R11.out.known U11.out.known)
      go_wp2_with fail
      refine C12.out.mono ?_
      rintro e w12 ⟨rfl, b⟩
      have U12 := Lib.hid (U11.out.below b)
      have V12 := Lib.hid (V11.out.below b)
      have T12 := Lib.hid (T11.out.below b)
      have J12 := Lib.hid (J11.out.below b)
      have M12 := Lib.hid (M11.out.below b)
      have R12 := Lib.hid (R11.out.below b)
      have X12 := Lib.hid (X11.out.below b)
      have B12 := Lib.hid (B11.out.trans (b.mono B11.out.size))
      clear b C12
      have c13 := bndMeet_any E 5 ev11 _ _ xs xs w12 X12.out (by decide) U12.out U12.out (PXY.out.selfL)
      rw [meet_self PXY.out.selfL] at c13
      have C13 := Lib.hid c13
      clear c13
      go_wp2_with fail
      refine C13.out.mono ?_
      rintro e w13 ⟨z13, rfl, ev13, x13, s13, kz13⟩
      have U13 := Lib.hid (s13.carry U12.out)
      have V13 := Lib.hid (s13.carry V12.out)
      have T13 := Lib.hid (s13.carry T12.out)
      have J13 := Lib.hid (s13.carry J12.out)
      have M13 := Lib.hid (s13.carry M12.out)
      have B13 := Lib.hid (B12.out.trans (s13.below hEw (fun b e => Nat.le_trans hEw (X12.out.base b e)) B12.out.size))
      have X13 := Lib.hid x13
      have R13 := Lib.hid kz13
      clear x13 s13 kz13 C13
      have C14 := Lib.hid (rSame_yes _ _ (xs) w13 R13.out.known U13.out.known)
      go_wp2_with fail
      refine C14.out.mono ?_
      rintro e w14 ⟨rfl, b⟩
      have U14 := Lib.hid (U13.out.below b)
      have V14 := Lib.hid (V13.out.below b)
      have T14 := Lib.hid (T13.out.below b)
      have J14 := Lib.hid (J13.out.below b)
      have M14 := Lib.hid (M13.out.below b)
      have R14 := Lib.hid (R13.out.below b)
      have X14 := Lib.hid (X13.out.below b)
      have B14 := Lib.hid (B13.out.trans (b.mono B13.out.size))
      clear b C14
      have c15 := bndJoin_any E 6 ev13 _ _ (joinL xs ys) zs w14 X14.out (by decide) J14.out T14.out (((join_pr PXY.out).symm.trans (PXY.out.trans PYZ.out)))
      have C15 := Lib.hid c15
      clear c15
      go_wp2_with fail
      refine C15.out.mono ?_
      rintro e w15 ⟨z15, rfl, ev15, x15, s15, kz15⟩
      have U15 := Lib.hid (s15.carry U14.out)
      have V15 := Lib.hid (s15.carry V14.out)
      have T15 := Lib.hid (s15.carry T14.out)
      have J15 := Lib.hid (s15.carry J14.out)
      have M15 := Lib.hid (s15.carry M14.out)
      have B15 := Lib.hid (B14.out.trans (s15.below hEw (fun b e => Nat.le_trans hEw (X14.out.base b e)) B14.out.size))
      have X15 := Lib.hid x15
      have R15 := Lib.hid kz15
      clear x15 s15 kz15 C15
      have c16 := bndJoin_any E 7 ev15 _ _ ys zs w15 X15.out (by decide) V15.out T15.out (PYZ.out)
      have C16 := Lib.hid c16
      clear c16
      go_wp2_with fail
      refine C16.out.mono ?_
      rintro e w16 ⟨z16, rfl, ev16, x16, s16, kz16⟩
      have U16 := Lib.hid (s16.carry U15.out)
      have V16 := Lib.hid (s16.carry V15.out)
      have T16 := Lib.hid (s16.carry T15.out)
      have J16 := Lib.hid (s16.carry J15.out)
      have M16 := Lib.hid (s16.carry M15.out)
      have R16 := Lib.hid (s16.carry R15.out)
      have B16 := Lib.hid (B15.out.trans (s16.below hEw (fun b e => Nat.le_trans hEw (X15.out.base b e)) B15.out.size))
      have X16 := Lib.hid x16
      have S16 := Lib.hid kz16
      clear x16 s16 kz16 C16
      have c17 := bndJoin_any E 8 ev16 _ _ xs (joinL ys zs) w16 X16.out (by decide) U16.out S16.out (PXY.out.trans (join_pr PYZ.out))
      rw [join_assoc PXY.out PYZ.out] at c17
      have C17 := Lib.hid c17
      clear c17
      go_wp2_with fail
      refine C17.out.mono ?_
      rintro e w17 ⟨z17, rfl, ev17, x17, s17, kz17⟩
      have U17 := Lib.hid (s17.carry U16.out)
      have V17 := Lib.hid (s17.carry V16.out)
      have T17 := Lib.hid (s17.carry T16.out)
      have J17 := Lib.hid (s17.carry J16.out)
      have M17 := Lib.hid (s17.carry M16.out)
      have R17 := Lib.hid (s17.carry R16.out)
      have S17 := Lib.hid (s17.carry S16.out)
      have B17 := Lib.hid (B16.out.trans (s17.below hEw (fun b e => Nat.le_trans hEw (X16.out.base b e)) B16.out.size))
      have X17 := Lib.hid x17
      have Q17 := Lib.hid kz17
      clear x17 s17 kz17 C17
      have C18 := Lib.hid (rSame_yes _ _ (joinL (joinL xs ys) zs) w17 R17.out.known Q17.out.known)
      go_wp2_with fail
      refine C18.out.mono ?_
      rintro e w18 ⟨rfl, b⟩
      have U18 := Lib.hid (U17.out.below b)
      have V18 := Lib.hid (V17.out.below b)
      have T18 := Lib.hid (T17.out.below b)
      have J18 := Lib.hid (J17.out.below b)
      have M18 := Lib.hid (M17.out.below b)
      have R18 := Lib.hid (R17.out.below b)
      have S18 := Lib.hid (S17.out.below b)
      have Q18 := Lib.hid (Q17.out.below b)
      have X18 := Lib.hid (X17.out.below b)
      have B18 := Lib.hid (B17.out.trans (b.mono B17.out.size))
      clear b C18
      have c19 := bndMeet_any E 9 ev17 _ _ (meetL xs ys) zs w18 X18.out (by decide) M18.out T18.out (((meet_pr PXY.out).symm.trans (PXY.out.trans PYZ.out)))
      have C19 := Lib.hid c19
      clear c19
      go_wp2_with fail
      refine C19.out.mono ?_
      rintro e w19 ⟨z19, rfl, ev19, x19, s19, kz19⟩
      have U19 := Lib.hid (s19.carry U18.out)
      have V19 := Lib.hid (s19.carry V18.out)
      have T19 := Lib.hid (s19.carry T18.out)
      have J19 := Lib.hid (s19.carry J18.out)
      have M19 := Lib.hid (s19.carry M18.out)
      have B19 := Lib.hid (B18.out.trans (s19.below hEw (fun b e => Nat.le_trans hEw (X18.out.base b e)) B18.out.size))
      have X19 := Lib.hid x19
      have R19 := Lib.hid kz19
      clear x19 s19 kz19 C19
      have c20 := bndMeet_any E 10 ev19 _ _ ys zs w19 X19.out (by decide) V19.out T19.out (PYZ.out)
      have C20 := Lib.hid c20
      clear c20
      go_wp2_with fail
      refine C20.out.mono ?_
      rintro e w20 ⟨z20, rfl, ev20, x20, s20, kz20⟩
      have U20 := Lib.hid (s20.carry U19.out)
      have V20 := Lib.hid (s20.carry V19.out)
      have T20 := Lib.hid (s20.carry T19.out)
      have J20 := Lib.hid (s20.carry J19.out)
      have M20 := Lib.hid (s20.carry M19.out)
      have R20 := Lib.hid (s20.carry R19.out)
      have B20 := Lib.hid (B19.out.trans (s20.below hEw (fun b e => Nat.le_trans hEw (X19.out.base b e)) B19.out.size))
      have X20 := Lib.hid x20
      have S20 := Lib.hid kz20
      clear x20 s20 kz20 C20
      have c21 := bndMeet_any E 11 ev20 _ _ xs (meetL ys zs) w20 X20.out (by decide) U20.out S20.out (PXY.out.trans (meet_pr PYZ.out))
      rw [meet_assoc PXY.out PYZ.out] at c21
      have C21 := Lib.hid c21
      clear c21
      go_wp2_with fail
      refine C21.out.mono ?_
      rintro e w21 ⟨z21, rfl, ev21, x21, s21, kz21⟩
      have U21 := Lib.hid (s21.carry U20.out)
      have V21 := Lib.hid (s21.carry V20.out)
      have T21 := Lib.hid (s21.carry T20.out)
      have J21 := Lib.hid (s21.carry J20.out)
      have M21 := Lib.hid (s21.carry M20.out)
      have R21 := Lib.hid (s21.carry R20.out)
      have S21 := Lib.hid (s21.carry S20.out)
      have B21 := Lib.hid (B20.out.trans (s21.below hEw (fun b e => Nat.le_trans hEw (X20.out.base b e)) B20.out.size))
      have X21 := Lib.hid x21
      have Q21 := Lib.hid kz21
      clear x21 s21 kz21 C21
      have C22 := Lib.hid (rSame_yes _ _ (meetL (meetL xs ys) zs) w21 R21.out.known Q21.out.known)
      go_wp2_with fail
      refine C22.out.mono ?_
      rintro e w22 ⟨rfl, b⟩
      have U22 := Lib.hid (U21.out.below b)
      have V22 := Lib.hid (V21.out.below b)
      have T22 := Lib.hid (T21.out.below b)
      have J22 := Lib.hid (J21.out.below b)
      have M22 := Lib.hid (M21.out.below b)
      have R22 := Lib.hid (R21.out.below b)
      have S22 := Lib.hid (S21.out.below b)
      have Q22 := Lib.hid (Q21.out.below b)
      have X22 := Lib.hid (X21.out.below b)
      have B22 := Lib.hid (B21.out.trans (b.mono B21.out.size))
      clear b C22
      have c23 := bndJoin_any E 12 ev21 _ _ xs (meetL xs ys) w22 X22.out (by decide) U22.out M22.out (meet_pr PXY.out)
      rw [join_meet PXY.out] at c23
      have C23 := Lib.hid c23
      clear c23
      go_wp2_with fail
      refine C23.out.mono ?_
      rintro e w23 ⟨z23, rfl, ev23, x23, s23, kz23⟩
      have U23 := Lib.hid (s23.carry U22.out)
      have V23 := Lib.hid (s23.carry V22.out)
      have T23 := Lib.hid (s23.carry T22.out)
      have J23 := Lib.hid (s23.carry J22.out)
      have M23 := Lib.hid (s23.carry M22.out)
      have B23 := Lib.hid (B22.out.trans (s23.below hEw (fun b e => Nat.le_trans hEw (X22.out.base b e)) B22.out.size))
      have X23 := Lib.hid x23
      have R23 := Lib.hid kz23
      clear x23 s23 kz23 C23
      have C24 := Lib.hid (rSame_yes _ _ (xs) w23 R23.out.known U23.out.known)
      go_wp2_with fail
      refine C24.out.mono ?_
      rintro e w24 ⟨rfl, b⟩
      have U24 := Lib.hid (U23.out.below b)
      have V24 := Lib.hid (V23.out.below b)
      have T24 := Lib.hid (T23.out.below b)
      have J24 := Lib.hid (J23.out.below b)
      have M24 := Lib.hid (M23.out.below b)
      have R24 := Lib.hid (R23.out.below b)
      have X24 := Lib.hid (X23.out.below b)
      have B24 := Lib.hid (B23.out.trans (b.mono B23.out.size))
      clear b C24
      have c25 := bndMeet_any E 13 ev23 _ _ xs (joinL xs ys) w24 X24.out (by decide) U24.out J24.out (join_pr PXY.out)
      rw [meet_join PXY.out] at c25
      have C25 := Lib.hid c25
      clear c25
      go_wp2_with fail
      refine C25.out.mono ?_
      rintro e w25 ⟨z25, rfl, ev25, x25, s25, kz25⟩
      have U25 := Lib.hid (s25.carry U24.out)
      have V25 := Lib.hid (s25.carry V24.out)
      have T25 := Lib.hid (s25.carry T24.out)
      have J25 := Lib.hid (s25.carry J24.out)
      have M25 := Lib.hid (s25.carry M24.out)
      have B25 := Lib.hid (B24.out.trans (s25.below hEw (fun b e => Nat.le_trans hEw (X24.out.base b e)) B24.out.size))
      have X25 := Lib.hid x25
      have R25 := Lib.hid kz25
      clear x25 s25 kz25 C25
      have C26 := Lib.hid (rSame_yes _ _ (xs) w25 R25.out.known U25.out.known)
      go_wp2_with fail
      refine C26.out.mono ?_
      rintro e w26 ⟨rfl, b⟩
      have U26 := Lib.hid (U25.out.below b)
      have V26 := Lib.hid (V25.out.below b)
      have T26 := Lib.hid (T25.out.below b)
      have J26 := Lib.hid (J25.out.below b)
      have M26 := Lib.hid (M25.out.below b)
      have R26 := Lib.hid (R25.out.below b)
      have X26 := Lib.hid (X25.out.below b)
      have B26 := Lib.hid (B25.out.trans (b.mono B25.out.size))
      clear b C26
      have c27 := atMostK_at _ _ (xs) (joinL xs ys) w26 U26.out.known J26.out.known (join_pr PXY.out)
      rw [le_join PXY.out] at c27
      have C27 := Lib.hid c27
      clear c27
      go_wp2_with fail
      refine C27.out.mono ?_
      rintro e wz ⟨rfl, rfl⟩
      clear C27
      have c28 := atMostK_at _ _ (ys) (joinL xs ys) w26 V26.out.known J26.out.known (PXY.out.symm.trans (join_pr PXY.out))
      rw [le_join2 PXY.out] at c28
      have C28 := Lib.hid c28
      clear c28
      go_wp2_with fail
      refine C28.out.mono ?_
      rintro e wz ⟨rfl, rfl⟩
      clear C28
      have c29 := atMostK_at _ _ (meetL xs ys) (xs) w26 M26.out.known U26.out.known ((meet_pr PXY.out).symm)
      rw [meet_le PXY.out] at c29
      have C29 := Lib.hid c29
      clear c29
      go_wp2_with fail
      refine C29.out.mono ?_
      rintro e wz ⟨rfl, rfl⟩
      clear C29
      have c30 := atMostK_at _ _ (meetL xs ys) (ys) w26 M26.out.known V26.out.known ((meet_pr PXY.out).symm.trans PXY.out)
      rw [meet_le2 PXY.out] at c30
      have C30 := Lib.hid c30
      clear c30
      go_wp2_with fail
      refine C30.out.mono ?_
      rintro e wz ⟨rfl, rfl⟩
      clear C30
      cases hp1 : leB xs zs with
      | false =>
        have c31 := atMostK_at _ _ (xs) (zs) w26 U26.out.known T26.out.known (PXY.out.trans PYZ.out)
        rw [hp1] at c31
        have C31 := Lib.hid c31
        clear c31
        go_wp2_with fail
        refine C31.out.mono ?_
        rintro e wz ⟨rfl, rfl⟩
        clear C31
        cases hq1 : leB zs xs with
        | false =>
          have c32 := atMostK_at _ _ (zs) (xs) w26 T26.out.known U26.out.known ((PXY.out.trans PYZ.out).symm)
          rw [hq1] at c32
          have C32 := Lib.hid c32
          clear c32
          go_wp2_with fail
          refine C32.out.mono ?_
          rintro e wz ⟨rfl, rfl⟩
          clear C32
          have C33 := Lib.hid (containsX_any E 14 _ w26 X26.out (by decide))
          have ce33 : w26.cell? ⟨E, 0, none⟩ = some ev25 := by rw [Lib.cell_of_heap X26.out.box]; rfl
          go_wp2_with fail
          refine C33.out.mono ?_
          rintro e wz ⟨rfl, rfl⟩
          have A34 := Lib.hid (awake_any w26)
          go_wp2_with fail
          refine A34.out.mono ?_
          rintro e wy ⟨rfl, b⟩
          go_wp2
          go_ret
          exact ⟨rfl, B26.out.trans (b.mono B26.out.size)⟩
        | true =>
          cases hq2 : leB zs ys with
          | false =>
            have c32 := atMostK_at _ _ (zs) (xs) w26 T26.out.known U26.out.known ((PXY.out.trans PYZ.out).symm)
            rw [hq1] at c32
            have C32 := Lib.hid c32
            clear c32
            go_wp2_with fail
            refine C32.out.mono ?_
            rintro e wz ⟨rfl, rfl⟩
            clear C32
            have c33 := atMostK_at _ _ (zs) (ys) w26 T26.out.known V26.out.known (PYZ.out.symm)
            rw [hq2] at c33
            have C33 := Lib.hid c33
            clear c33
            go_wp2_with fail
            refine C33.out.mono ?_
            rintro e wz ⟨rfl, rfl⟩
            clear C33
            have C34 := Lib.hid (containsX_any E 14 _ w26 X26.out (by decide))
            have ce34 : w26.cell? ⟨E, 0, none⟩ = some ev25 := by rw [Lib.cell_of_heap X26.out.box]; rfl
            go_wp2_with fail
            refine C34.out.mono ?_
            rintro e wz ⟨rfl, rfl⟩
            have A35 := Lib.hid (awake_any w26)
            go_wp2_with fail
            refine A35.out.mono ?_
            rintro e wy ⟨rfl, b⟩
            go_wp2
            go_ret
            exact ⟨rfl, B26.out.trans (b.mono B26.out.size)⟩
          | true =>
            have c32 := atMostK_at _ _ (zs) (xs) w26 T26.out.known U26.out.known ((PXY.out.trans PYZ.out).symm)
            rw [hq1] at c32
            have C32 := Lib.hid c32
            clear c32
            go_wp2_with fail
            refine C32.out.mono ?_
            rintro e wz ⟨rfl, rfl⟩
            clear C32
            have c33 := atMostK_at _ _ (zs) (ys) w26 T26.out.known V26.out.known (PYZ.out.symm)
            rw [hq2] at c33
            have C33 := Lib.hid c33
            clear c33
            go_wp2_with fail
            refine C33.out.mono ?_
            rintro e wz ⟨rfl, rfl⟩
            clear C33
            have c34 := atMostK_at _ _ (zs) (meetL xs ys) w26 T26.out.known M26.out.known ((PXY.out.trans PYZ.out).symm.trans (meet_pr PXY.out))
            rw [meet_glb PXY.out (PXY.out.trans PYZ.out).symm hq1 hq2] at c34
            have C34 := Lib.hid c34
            clear c34
            go_wp2_with fail
            refine C34.out.mono ?_
            rintro e wz ⟨rfl, rfl⟩
            clear C34
            have C35 := Lib.hid (containsX_any E 14 _ w26 X26.out (by decide))
            have ce35 : w26.cell? ⟨E, 0, none⟩ = some ev25 := by rw [Lib.cell_of_heap X26.out.box]; rfl
            go_wp2_with fail
            refine C35.out.mono ?_
            rintro e wz ⟨rfl, rfl⟩
            have A36 := Lib.hid (awake_any w26)
            go_wp2_with fail
            refine A36.out.mono ?_
            rintro e wy ⟨rfl, b⟩
            go_wp2
            go_ret
            exact ⟨rfl, B26.out.trans (b.mono B26.out.size)⟩
      | true =>
        cases hp2 : leB ys zs with
        | false =>
          have c31 := atMostK_at _ _ (xs) (zs) w26 U26.out.known T26.out.known (PXY.out.trans PYZ.out)
          rw [hp1] at c31
          have C31 := Lib.hid c31
          clear c31
          go_wp2_with fail
          refine C31.out.mono ?_
          rintro e wz ⟨rfl, rfl⟩
          clear C31
          have c32 := atMostK_at _ _ (ys) (zs) w26 V26.out.known T26.out.known (PYZ.out)
          rw [hp2] at c32
          have C32 := Lib.hid c32
          clear c32
          go_wp2_with fail
          refine C32.out.mono ?_
          rintro e wz ⟨rfl, rfl⟩
          clear C32
          cases hq1 : leB zs xs with
          | false =>
            have c33 := atMostK_at _ _ (zs) (xs) w26 T26.out.known U26.out.known ((PXY.out.trans PYZ.out).symm)
            rw [hq1] at c33
            have C33 := Lib.hid c33
            clear c33
            go_wp2_with fail
            refine C33.out.mono ?_
            rintro e wz ⟨rfl, rfl⟩
            clear C33
            have C34 := Lib.hid (containsX_any E 14 _ w26 X26.out (by decide))
            have ce34 : w26.cell? ⟨E, 0, none⟩ = some ev25 := by rw [Lib.cell_of_heap X26.out.box]; rfl
            go_wp2_with fail
            refine C34.out.mono ?_
            rintro e wz ⟨rfl, rfl⟩
            have A35 := Lib.hid (awake_any w26)
            go_wp2_with fail
            refine A35.out.mono ?_
            rintro e wy ⟨rfl, b⟩
            go_wp2
            go_ret
            exact ⟨rfl, B26.out.trans (b.mono B26.out.size)⟩
          | true =>
            cases hq2 : leB zs ys with
            | false =>
              have c33 := atMostK_at _ _ (zs) (xs) w26 T26.out.known U26.out.known ((PXY.out.trans PYZ.out).symm)
              rw [hq1] at c33
              have C33 := Lib.hid c33
              clear c33
              go_wp2_with fail
              refine C33.out.mono ?_
              rintro e wz ⟨rfl, rfl⟩
              clear C33
              have c34 := atMostK_at _ _ (zs) (ys) w26 T26.out.known V26.out.known (PYZ.out.symm)
              rw [hq2] at c34
              have C34 := Lib.hid c34
              clear c34
              go_wp2_with fail
              refine C34.out.mono ?_
              rintro e wz ⟨rfl, rfl⟩
              clear C34
              have C35 := Lib.hid (containsX_any E 14 _ w26 X26.out (by decide))
              have ce35 : w26.cell? ⟨E, 0, none⟩ = some ev25 := by rw [Lib.cell_of_heap X26.out.box]; rfl
              go_wp2_with fail
              refine C35.out.mono ?_
              rintro e wz ⟨rfl, rfl⟩
              have A36 := Lib.hid (awake_any w26)
              go_wp2_with fail
              refine A36.out.mono ?_
              rintro e wy ⟨rfl, b⟩
              go_wp2
              go_ret
              exact ⟨rfl, B26.out.trans (b.mono B26.out.size)⟩
            | true =>
              have c33 := atMostK_at _ _ (zs) (xs) w26 T26.out.known U26.out.known ((PXY.out.trans PYZ.out).symm)
              rw [hq1] at c33
              have C33 := Lib.hid c33
              clear c33
              go_wp2_with fail
              refine C33.out.mono ?_
              rintro e wz ⟨rfl, rfl⟩
              clear C33
              have c34 := atMostK_at _ _ (zs) (ys) w26 T26.out.known V26.out.known (PYZ.out.symm)
              rw [hq2] at c34
              have C34 := Lib.hid c34
              clear c34
              go_wp2_with fail
              refine C34.out.mono ?_
              rintro e wz ⟨rfl, rfl⟩
              clear C34
              have c35 := atMostK_at _ _ (zs) (meetL xs ys) w26 T26.out.known M26.out.known ((PXY.out.trans PYZ.out).symm.trans (meet_pr PXY.out))
              rw [meet_glb PXY.out (PXY.out.trans PYZ.out).symm hq1 hq2] at c35
              have C35 := Lib.hid c35
              clear c35
              go_wp2_with fail
              refine C35.out.mono ?_
              rintro e wz ⟨rfl, rfl⟩
              clear C35
              have C36 := Lib.hid (containsX_any E 14 _ w26 X26.out (by decide))
              have ce36 : w26.cell? ⟨E, 0, none⟩ = some ev25 := by rw [Lib.cell_of_heap X26.out.box]; rfl
              go_wp2_with fail
              refine C36.out.mono ?_
              rintro e wz ⟨rfl, rfl⟩
              have A37 := Lib.hid (awake_any w26)
              go_wp2_with fail
              refine A37.out.mono ?_
              rintro e wy ⟨rfl, b⟩
              go_wp2
              go_ret
              exact ⟨rfl, B26.out.trans (b.mono B26.out.size)⟩
        | true =>
          have c31 := atMostK_at _ _ (xs) (zs) w26 U26.out.known T26.out.known (PXY.out.trans PYZ.out)
          rw [hp1] at c31
          have C31 := Lib.hid c31
          clear c31
          go_wp2_with fail
          refine C31.out.mono ?_
          rintro e wz ⟨rfl, rfl⟩
          clear C31
          have c32 := atMostK_at _ _ (ys) (zs) w26 V26.out.known T26.out.known (PYZ.out)
          rw [hp2] at c32
          have C32 := Lib.hid c32
          clear c32
          go_wp2_with fail
          refine C32.out.mono ?_
          rintro e wz ⟨rfl, rfl⟩
          clear C32
          have c33 := atMostK_at _ _ (joinL xs ys) (zs) w26 J26.out.known T26.out.known (((join_pr PXY.out).symm.trans (PXY.out.trans PYZ.out)))
          rw [join_lub PXY.out hp1 hp2] at c33
          have C33 := Lib.hid c33
          clear c33
          go_wp2_with fail
          refine C33.out.mono ?_
          rintro e wz ⟨rfl, rfl⟩
          clear C33
          cases hq1 : leB zs xs with
          | false =>
            have c34 := atMostK_at _ _ (zs) (xs) w26 T26.out.known U26.out.known ((PXY.out.trans PYZ.out).symm)
            rw [hq1] at c34
            have C34 := Lib.hid c34
            clear c34
            go_wp2_with fail
            refine C34.out.mono ?_
            rintro e wz ⟨rfl, rfl⟩
            clear C34
            have C35 := Lib.hid (containsX_any E 14 _ w26 X26.out (by decide))
            have ce35 : w26.cell? ⟨E, 0, none⟩ = some ev25 := by rw [Lib.cell_of_heap X26.out.box]; rfl
            go_wp2_with fail
            refine C35.out.mono ?_
            rintro e wz ⟨rfl, rfl⟩
            have A36 := Lib.hid (awake_any w26)
            go_wp2_with fail
            refine A36.out.mono ?_
            rintro e wy ⟨rfl, b⟩
            go_wp2
            go_ret
            exact ⟨rfl, B26.out.trans (b.mono B26.out.size)⟩
          | true =>
            cases hq2 : leB zs ys with
            | false =>
              have c34 := atMostK_at _ _ (zs) (xs) w26 T26.out.known U26.out.known ((PXY.out.trans PYZ.out).symm)
              rw [hq1] at c34
              have C34 := Lib.hid c34
              clear c34
              go_wp2_with fail
              refine C34.out.mono ?_
              rintro e wz ⟨rfl, rfl⟩
              clear C34
              have c35 := atMostK_at _ _ (zs) (ys) w26 T26.out.known V26.out.known (PYZ.out.symm)
              rw [hq2] at c35
              have C35 := Lib.hid c35
              clear c35
              go_wp2_with fail
              refine C35.out.mono ?_
              rintro e wz ⟨rfl, rfl⟩
              clear C35
              have C36 := Lib.hid (containsX_any E 14 _ w26 X26.out (by decide))
              have ce36 : w26.cell? ⟨E, 0, none⟩ = some ev25 := by rw [Lib.cell_of_heap X26.out.box]; rfl
              go_wp2_with fail
              refine C36.out.mono ?_
              rintro e wz ⟨rfl, rfl⟩
              have A37 := Lib.hid (awake_any w26)
              go_wp2_with fail
              refine A37.out.mono ?_
              rintro e wy ⟨rfl, b⟩
              go_wp2
              go_ret
              exact ⟨rfl, B26.out.trans (b.mono B26.out.size)⟩
            | true =>
              have c34 := atMostK_at _ _ (zs) (xs) w26 T26.out.known U26.out.known ((PXY.out.trans PYZ.out).symm)
              rw [hq1] at c34
              have C34 := Lib.hid c34
              clear c34
              go_wp2_with fail
              refine C34.out.mono ?_
              rintro e wz ⟨rfl, rfl⟩
              clear C34
              have c35 := atMostK_at _ _ (zs) (ys) w26 T26.out.known V26.out.known (PYZ.out.symm)
              rw [hq2] at c35
              have C35 := Lib.hid c35
              clear c35
              go_wp2_with fail
              refine C35.out.mono ?_
              rintro e wz ⟨rfl, rfl⟩
              clear C35
              have c36 := atMostK_at _ _ (zs) (meetL xs ys) w26 T26.out.known M26.out.known ((PXY.out.trans PYZ.out).symm.trans (meet_pr PXY.out))
              rw [meet_glb PXY.out (PXY.out.trans PYZ.out).symm hq1 hq2] at c36
              have C36 := Lib.hid c36
              clear c36
              go_wp2_with fail
              refine C36.out.mono ?_
              rintro e wz ⟨rfl, rfl⟩
              clear C36
              have C37 := Lib.hid (containsX_any E 14 _ w26 X26.out (by decide))
              have ce37 : w26.cell? ⟨E, 0, none⟩ = some ev25 := by rw [Lib.cell_of_heap X26.out.box]; rfl
              go_wp2_with fail
              refine C37.out.mono ?_
              rintro e wz ⟨rfl, rfl⟩
              have A38 := Lib.hid (awake_any w26)
              go_wp2_with fail
              refine A38.out.mono ?_
              rintro e wy ⟨rfl, b⟩
              go_wp2
              go_ret
              exact ⟨rfl, B26.out.trans (b.mono B26.out.size)⟩

end Go.Proofs.Ytpkmdonejmbnoaa
