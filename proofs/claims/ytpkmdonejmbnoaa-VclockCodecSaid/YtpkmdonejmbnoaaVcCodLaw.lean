/-
  The statement VclockCodec: reading what was written, writing what was read; the walk.
-/
import Derived.Test.YtpkmdonejmbnoaaVcLaw
import Derived.Test.YtpkmdonejmbnoaaVcCodec
import Derived.Test.YtpkmdonejmbnoaaRound
namespace Go.Proofs.Ytpkmdonejmbnoaa
open Go.RowKit

theorem allR_of {xs : List Int} (h : vcE xs = 0) : AllR xs := by
  intro n hn
  obtain ⟨i, hi, rfl⟩ := List.getElem_of_mem hn
  have := (vcE_iff.1 h).2 i hi
  have e : gz xs i = xs[i] := by simp [gz, hi]
  rw [e] at this
  unfold InR
  omega
theorem kenc_ok {xs : List Int} (h : vcE xs = 0) : kencE xs = 0 ∧ kencL xs = encList xs ∧ (encList xs).length ≤ 1000 := by
  have hl := (vcE_iff.1 h).1
  have hr := allR_of h
  have hf := flat_length xs hr
  refine ⟨?_, ?_, ?_⟩
  · unfold kencE listE
    rw [if_pos h, if_neg (by omega), if_pos hr]
  · unfold kencL listL
    rw [if_pos h, if_neg (by omega), if_pos hr]
  · unfold encList
    rw [List.length_append]
    simp
    simp at hf
    omega
theorem kdec_enc {xs : List Int} (h : vcE xs = 0) : kdecE (strOf (kencL xs)) = 0 ∧ kdecL (strOf (kencL xs)) = xs := by
  obtain ⟨_, e2, _⟩ := kenc_ok h
  rw [e2]
  have hl := (vcE_iff.1 h).1
  have hd : decL (strOf (encList xs)).data.toList = .ok xs (encList xs).length := by
    rw [strOf_toList]
    unfold decL
    have := decLf_encList ((encList xs).length + 1) xs [] [] 0 (allR_of h) (by rw [List.append_nil]; omega) (by unfold maxL; simp; omega)
    rw [List.append_nil] at this
    simpa using this
  have hk : kOk (strOf (encList xs)) := by
    unfold kOk
    rw [hd]
    exact ⟨rfl, by rw [strOf_size]; rfl, h⟩
  refine ⟨by unfold kdecE; rw [if_pos hk], ?_⟩
  unfold kdecL
  rw [if_pos hk, hd]
  rfl
theorem kenc_dec {s : ByteArray} (h : kdecE s = 0) : vcE (kdecL s) = 0 ∧ strOf (kencL (kdecL s)) = s := by
  have hk : kOk s := by
    unfold kdecE at h
    by_cases hk : kOk s
    · exact hk
    · rw [if_neg hk] at h; cases h
  have e1 : kdecL s = (decL s.data.toList).val [] := by unfold kdecL; rw [if_pos hk]
  rw [e1]
  obtain ⟨h1, h2, h3⟩ := hk
  refine ⟨h3, ?_⟩
  rw [(kenc_ok h3).2.1]
  cases hd : decL s.data.toList with
  | err e =>
    rw [hd] at h1
    have := decL_err_ne hd
    simp [Rd.e] at h1
    omega
  | ok x k =>
    rw [hd] at h2
    have h2 : k = s.size := h2
    obtain ⟨zs, g1, _, _, _, _, g6, _⟩ := decLf_canonical (Nat.zero_le _) hd
    have g1 : x = zs := by simpa using g1
    subst g1
    show strOf (encList x) = s
    rw [g6, Nat.sub_zero, h2, List.take_of_length_le (by show s.data.toList.length ≤ s.data.size; rw [Array.length_toList]; exact Nat.le_refl _)]
    rfl
theorem kenc_size (xs : List Int) : (strOf (kencL xs)).size ≤ 9223372036854775807 := by
  rw [strOf_size]
  by_cases h : vcE xs = 0
  · obtain ⟨_, e2, e3⟩ := kenc_ok h
    rw [e2]
    omega
  · unfold kencL
    rw [if_neg h]
    simp
theorem kdec_no {s : ByteArray} (h : kdecE s ≠ 0) : kdecE s = 12 ∧ kdecL s = [] := by
  by_cases hk : kOk s
  · exact absurd (by unfold kdecE; rw [if_pos hk]) h
  · exact ⟨by unfold kdecE; rw [if_neg hk], by unfold kdecL; rw [if_neg hk]⟩

set_option maxRecDepth 100000 in
set_option maxHeartbeats 8000000 in
theorem vclockCodec_walk (u : Value) (xs : List Int) (s : ByteArray) (w : World) (hu : KlC w u xs) (hs : s.size ≤ 9223372036854775807) :
    Calls Try.prog 9 #[u, .string s] w fun e w' => e = .returned (.bool true) ∧ Below w.heap.size w w' := by
  have U := Lib.hid hu
  clear hu
  obtain ⟨a, c, rfl, _, _⟩ := U.out
  obtain ⟨w1, hw1⟩ : ∃ W, w.alloc (.cells #[.slice a xs.length c] TC) = W := ⟨_, rfl⟩
  have b1 : Below w.heap.size w w1 := by rw [← hw1]; exact (Below.refl _ _).alloc (Nat.le_refl _) _
  have Lr1 := klL1 w _ xs U.out
  rw [hw1] at Lr1
  have L1 := Lib.hid Lr1
  clear Lr1
  have HW1 := Lib.hid hw1
  have U1 := Lib.hid (U.out.below b1)
  have B1 := Lib.hid b1
  clear b1 hw1
  have HG := greatK_any _ _ w1 L1.out
  cases hg : [xs].any bigK with
  | true =>
    rw [hg] at HG
    clear hg
    have HG := Lib.hid HG
    go_enter Try.func9, Try.ntmps9
    go_wp2_with fail
    rw [HW1.out]
    refine HG.out.mono ?_
    rintro e w9 ⟨rfl, rfl⟩
    have c2 := awake_any w1
    have C2 := Lib.hid c2
    clear c2
    go_wp2_with fail
    refine C2.out.mono ?_
    rintro e w2 ⟨rfl, b⟩
    have U2 := Lib.hid (U1.out.below b)
    have L2 := Lib.hid (L1.out.below b)
    have B2 := Lib.hid (B1.out.trans (b.mono B1.out.size))
    clear b C2
    go_wp2
    go_ret
    exact ⟨rfl, B2.out⟩
  | false =>
    rw [hg] at HG
    clear hg
    by_cases h4 : 400 < s.size
    · have h4' : (400 : Int) < (s.size : Int) := by omega
      have HG := Lib.hid HG
      go_enter Try.func9, Try.ntmps9
      go_wp2_with fail
      rw [HW1.out]
      refine HG.out.mono ?_
      rintro e w9 ⟨rfl, rfl⟩
      have c2 := awake_any w1
      have C2 := Lib.hid c2
      clear c2
      go_wp2_with fail
      refine C2.out.mono ?_
      rintro e w2 ⟨rfl, b⟩
      have U2 := Lib.hid (U1.out.below b)
      have L2 := Lib.hid (L1.out.below b)
      have B2 := Lib.hid (B1.out.trans (b.mono B1.out.size))
      clear b C2
      go_wp2
      go_ret
      exact ⟨rfl, B2.out⟩
    · have h4' : ¬ (400 : Int) < (s.size : Int) := by omega
      clear h4
      have HG := Lib.hid HG
      have hsz := kenc_size xs
      by_cases hv : vcE xs = 0
      · obtain ⟨t, ht⟩ : ∃ t, strOf (kencL xs) = t := ⟨_, rfl⟩
        obtain ⟨q1, q2⟩ := kdec_enc hv
        have q3 := (kenc_ok hv).1
        rw [ht] at q1 q2 hsz
        have Q1 := Lib.hid q1
        have Q2 := Lib.hid q2
        have Q3 := Lib.hid q3
        have Q4 := Lib.hid hv
        have QT := Lib.hid ht
        clear q1 q2 q3 hv ht
        go_enter Try.func9, Try.ntmps9
        go_wp2_with fail
        rw [HW1.out]
        refine HG.out.mono ?_
        rintro e w9 ⟨rfl, rfl⟩
        have c2 := vEncode_at _ xs w1 U1.out
        rw [QT.out, Q3.out] at c2
        have C2 := Lib.hid c2
        clear c2
        go_wp2_with fail
        refine C2.out.mono ?_
        rintro e w2 ⟨rfl, b⟩
        have U2 := Lib.hid (U1.out.below b)
        have B2 := Lib.hid (B1.out.trans (b.mono B1.out.size))
        clear b C2
        have c3 := vDecode_any t hsz w2
        rw [Q1.out, Q2.out] at c3
        have C3 := Lib.hid c3
        clear c3
        go_wp2_with fail
        refine C3.out.mono ?_
        rintro e w3 ⟨v2, rfl, k, b⟩
        have U3 := Lib.hid (U2.out.below b)
        have B3 := Lib.hid (B2.out.trans (b.mono B2.out.size))
        have D23 := Lib.hid k
        clear k
        clear b C3
        have c4 := vCheck_at _ xs w3 U3.out
        rw [Q4.out] at c4
        have C4 := Lib.hid c4
        clear c4
        go_wp2_with fail
        refine C4.out.mono ?_
        rintro e w4 ⟨rfl, rfl⟩
        clear C4
        have c5 := rSame_yes _ v2 xs w3 U3.out D23.out
        have C5 := Lib.hid c5
        clear c5
        go_wp2_with fail
        refine C5.out.mono ?_
        rintro e w5 ⟨rfl, b⟩
        have U5 := Lib.hid (U3.out.below b)
        have D25 := Lib.hid (D23.out.below b)
        have B5 := Lib.hid (B3.out.trans (b.mono B3.out.size))
        clear b C5
        by_cases hd : kdecE s = 0
        · obtain ⟨q1, q2⟩ := kenc_dec hd
          have q3 := (kenc_ok q1).1
          obtain ⟨ds, hds⟩ : ∃ x, kdecL s = x := ⟨_, rfl⟩
          rw [hds] at q2 q3
          have Q1 := Lib.hid q2
          have Q2 := Lib.hid q3
          have HD := Lib.hid hd
          have QD := Lib.hid hds
          clear hd q1 q2 q3 hds
          have c6 := vDecode_any s hs w5
          rw [QD.out, HD.out] at c6
          have C6 := Lib.hid c6
          clear c6
          go_wp2_with fail
          refine C6.out.mono ?_
          rintro e w6 ⟨v5, rfl, k, b⟩
          have B6 := Lib.hid (B5.out.trans (b.mono B5.out.size))
          have D6 := Lib.hid k
          clear k
          clear b C6
          have c7 := vEncode_at _ _ w6 D6.out
          rw [Q1.out, Q2.out] at c7
          have C7 := Lib.hid c7
          clear c7
          go_wp2_with fail
          refine C7.out.mono ?_
          rintro e w7 ⟨rfl, b⟩
          have D7 := Lib.hid (D6.out.below b)
          have B7 := Lib.hid (B6.out.trans (b.mono B6.out.size))
          clear b C7
          have c8 := awake_any w7
          have C8 := Lib.hid c8
          clear c8
          go_wp2_with fail
          refine C8.out.mono ?_
          rintro e w8 ⟨rfl, b⟩
          have B8 := Lib.hid (B7.out.trans (b.mono B7.out.size))
          clear b C8
          go_wp2
          go_ret
          exact ⟨rfl, B8.out⟩
        · obtain ⟨q1, q2⟩ := kdec_no hd
          have Q1 := Lib.hid q1
          have Q2 := Lib.hid q2
          clear hd q1 q2
          have c6 := vDecode_any s hs w5
          rw [Q1.out, Q2.out] at c6
          have C6 := Lib.hid c6
          clear c6
          go_wp2_with fail
          refine C6.out.mono ?_
          rintro e w6 ⟨v5, rfl, k, b⟩
          have B6 := Lib.hid (B5.out.trans (b.mono B5.out.size))
          have D6 := Lib.hid k
          clear k
          clear b C6
          obtain ⟨a5, c5, rfl, _, _⟩ := D6.out
          have c7 := awake_any w6
          have C7 := Lib.hid c7
          clear c7
          go_wp2_with fail
          refine C7.out.mono ?_
          rintro e w7 ⟨rfl, b⟩
          have B7 := Lib.hid (B6.out.trans (b.mono B6.out.size))
          clear b C7
          go_wp2
          go_ret
          exact ⟨rfl, B7.out⟩
      · obtain ⟨t, ht⟩ : ∃ t, strOf (kencL xs) = t := ⟨_, rfl⟩
        have q1 : kencE xs = 1 := by unfold kencE; rw [if_neg hv]
        have hvb : (vcE xs == 0) = false := by simpa using hv
        rw [ht] at hsz
        have Q3 := Lib.hid q1
        have QT := Lib.hid ht
        clear q1 hv ht
        obtain ⟨vx, hvx⟩ : ∃ x, vcE xs = x := ⟨_, rfl⟩
        rw [hvx] at hvb
        have QV := Lib.hid hvx
        clear hvx
        go_enter Try.func9, Try.ntmps9
        go_wp2_with fail
        rw [HW1.out]
        refine HG.out.mono ?_
        rintro e w9 ⟨rfl, rfl⟩
        have c2 := vEncode_at _ xs w1 U1.out
        rw [QT.out, Q3.out] at c2
        have C2 := Lib.hid c2
        clear c2
        go_wp2_with fail
        refine C2.out.mono ?_
        rintro e w2 ⟨rfl, b⟩
        have U2 := Lib.hid (U1.out.below b)
        have B2 := Lib.hid (B1.out.trans (b.mono B1.out.size))
        clear b C2
        obtain ⟨tl, htl⟩ : ∃ x, kdecL t = x := ⟨_, rfl⟩
        obtain ⟨te, hte⟩ : ∃ x, kdecE t = x := ⟨_, rfl⟩
        have QL := Lib.hid htl
        have QE := Lib.hid hte
        clear htl hte
        have c3 := vDecode_any t hsz w2
        rw [QL.out, QE.out] at c3
        have C3 := Lib.hid c3
        clear c3
        go_wp2_with fail
        refine C3.out.mono ?_
        rintro e w3 ⟨v2, rfl, k, b⟩
        have U3 := Lib.hid (U2.out.below b)
        have B3 := Lib.hid (B2.out.trans (b.mono B2.out.size))
        clear b C3
        clear k
        have c4 := vCheck_at _ xs w3 U3.out
        rw [QV.out] at c4
        have C4 := Lib.hid c4
        clear c4
        go_wp2_with fail
        refine C4.out.mono ?_
        rintro e w4 ⟨rfl, rfl⟩
        clear C4
        by_cases hd : kdecE s = 0
        · obtain ⟨q1, q2⟩ := kenc_dec hd
          have q3 := (kenc_ok q1).1
          obtain ⟨ds, hds⟩ : ∃ x, kdecL s = x := ⟨_, rfl⟩
          rw [hds] at q2 q3
          have Q1 := Lib.hid q2
          have Q2 := Lib.hid q3
          have HD := Lib.hid hd
          have QD := Lib.hid hds
          clear hd q1 q2 q3 hds
          have c5 := vDecode_any s hs w3
          rw [QD.out, HD.out] at c5
          have C5 := Lib.hid c5
          clear c5
          go_wp2_with fail
          refine C5.out.mono ?_
          rintro e w5 ⟨v5, rfl, k, b⟩
          have B5 := Lib.hid (B3.out.trans (b.mono B3.out.size))
          have D5 := Lib.hid k
          clear k
          clear b C5
          have c6 := vEncode_at _ _ w5 D5.out
          rw [Q1.out, Q2.out] at c6
          have C6 := Lib.hid c6
          clear c6
          go_wp2_with fail
          refine C6.out.mono ?_
          rintro e w6 ⟨rfl, b⟩
          have D6 := Lib.hid (D5.out.below b)
          have B6 := Lib.hid (B5.out.trans (b.mono B5.out.size))
          clear b C6
          have c7 := awake_any w6
          have C7 := Lib.hid c7
          clear c7
          go_wp2_with fail
          refine C7.out.mono ?_
          rintro e w7 ⟨rfl, b⟩
          have B7 := Lib.hid (B6.out.trans (b.mono B6.out.size))
          clear b C7
          go_wp2
          go_ret
          exact ⟨rfl, B7.out⟩
        · obtain ⟨q1, q2⟩ := kdec_no hd
          have Q1 := Lib.hid q1
          have Q2 := Lib.hid q2
          clear hd q1 q2
          have c5 := vDecode_any s hs w3
          rw [Q1.out, Q2.out] at c5
          have C5 := Lib.hid c5
          clear c5
          go_wp2_with fail
          refine C5.out.mono ?_
          rintro e w5 ⟨v5, rfl, k, b⟩
          have B5 := Lib.hid (B3.out.trans (b.mono B3.out.size))
          have D5 := Lib.hid k
          clear k
          clear b C5
          obtain ⟨a5, c5, rfl, _, _⟩ := D5.out
          have c6 := awake_any w5
          have C6 := Lib.hid c6
          clear c6
          go_wp2_with fail
          refine C6.out.mono ?_
          rintro e w6 ⟨rfl, b⟩
          have B6 := Lib.hid (B5.out.trans (b.mono B5.out.size))
          clear b C6
          go_wp2
          go_ret
          exact ⟨rfl, B6.out⟩

end Go.Proofs.Ytpkmdonejmbnoaa
