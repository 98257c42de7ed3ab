/-
  For any string of up to 400 bytes, whatever codec can read of it is the encoding of the result, an error comes with zero values, and the chapter's examples hold: the law CodecCanonical returns true at every input, and leaves its argument as it was. No condition.
-/
import Derived.Test.YtdnjjppidolnbaaRound
import Derived.Test.YtdnjjppidolnbaaAwake
import Derived.ProofKit
import Derived.OpenShut
import Derived.ShutString
namespace Go.Proofs.Ytdnjjppidolnbaa
open Go.RowKit

theorem extract_strOf (s : ByteArray) (k : Nat) : strOf (s.data.toList.take k) = s.extract 0 k := by
  have h : (s.extract 0 k).data.toList = s.data.toList.take k := by
    rw [ByteArray.data_extract, Array.toList_extract, List.extract_eq_take_drop]
    simp
  unfold strOf
  rw [← h]

set_option maxRecDepth 100000 in
set_option maxHeartbeats 16000000 in
theorem codecCanonical_walk (s : ByteArray) (w : World) (hs : s.size ≤ 9223372036854775807) :
    Calls Try.prog 8 #[.string s] w fun e w' => e = .returned (.bool true) ∧ Below w.heap.size w w' := by
  by_cases h1 : 400 < s.size
  · have h1' : 400 < (s.size : Int) := by omega
    go_enter Try.func8, Try.ntmps8
    go_wp2_with fail
    refine (awake_any _).mono ?_
    rintro e w5 ⟨rfl, b5⟩
    go_wp2
    go_ret
    exact ⟨rfl, b5⟩
  · have h1' : (s.size : Int) ≤ 400 := by omega
    go_enter Try.func8, Try.ntmps8
    go_wp2_with fail
    have hri := readInt_any s hs w
    cases hd : decInt s.data.toList with
    | ok n k =>
      rw [hd] at hri
      simp only [Rd.val, Rd.len, Rd.e] at hri
      obtain ⟨q1, q2, q3, q4⟩ := decInt_canonical hd
      have hint := fun w => int_any n w
      unfold intL intE at hint
      rw [if_pos q1, if_pos q1, q4, extract_strOf] at hint
      have k1 : (1 : Int) ≤ (k : Int) := by omega
      have k2 : (k : Int) ≤ (s.size : Int) := by simp at q3; omega
      have HRI := Lib.hid hri
      have HINT := Lib.hid hint
      clear hri hint hd q1 q2 q3 q4
      refine HRI.out.mono ?_
      rintro e w1 ⟨rfl, b1⟩
      have s1 := b1.size
      go_wp2_with fail
      refine (HINT.out _).mono ?_
      rintro e w2 ⟨rfl, b2⟩
      have c2 := b1.trans (b2.mono s1)
      have s2 := c2.size
      clear HRI HINT
      go_wp2_with fail
      have hrt := readText_any s hs w2
      cases hd : decT s.data.toList [] 0 with
      | ok x k' =>
        unfold readTextV at hrt
        rw [hd] at hrt
        simp only [Rd.val, Rd.len, Rd.e] at hrt
        obtain ⟨t, e1, e2, e3, e4, e5, e6⟩ := decT_canonical (by simp) hd
        rw [List.nil_append] at e1
        subst e1
        have htx := fun w => text_any (strOf x) w (by rw [strOf_size]; unfold maxLen; omega)
        unfold textL textE at htx
        rw [strOf_toList] at htx
        simp only [if_pos e2] at htx
        rw [e5, Nat.sub_zero, extract_strOf] at htx
        have j1 : (2 : Int) ≤ (k' : Int) := by omega
        have j2 : (k' : Int) ≤ (s.size : Int) := by simp at e4; omega
        have HRT := Lib.hid hrt
        have HTX := Lib.hid htx
        clear hrt htx hd e2 e3 e4 e5 e6
        refine HRT.out.mono ?_
        rintro e w3 ⟨rfl, b3⟩
        have c3 := c2.trans (b3.mono s2)
        have s3 := c3.size
        go_wp2_with fail
        refine (HTX.out _).mono ?_
        rintro e w4 ⟨rfl, b4⟩
        have c4 := c3.trans (b4.mono s3)
        have s4 := c4.size
        clear HRT HTX
        go_wp2_with fail
        have hrl := readList_any s hs w4
        unfold ReadsL at hrl
        have hdl := decL_length s.data.toList
        cases hd : decL s.data.toList with
        | ok zs m =>
          rw [hd] at hrl hdl
          simp only [Rd.val, Rd.len, Rd.e] at hrl hdl
          obtain ⟨zs', g1, g2, g3, g4, g5, g6, g7⟩ := decLf_canonical (Nat.zero_le _) hd
          rw [List.nil_append] at g1
          subst g1
          have e1 : listL zs = s.data.toList.take m := by
            unfold listL; rw [if_neg (by omega), if_pos g3, g6, Nat.sub_zero]
          have e2 : listE zs = 0 := by
            unfold listE; rw [if_neg (by omega), if_pos g3]
          have m1 : (1 : Int) ≤ (m : Int) := by omega
          have m2 : (m : Int) ≤ (s.size : Int) := by simp at g5; omega
          have HRL := Lib.hid hrl
          have E1 := Lib.hid e1
          have E2 := Lib.hid e2
          clear hrl hd e1 e2 g2 g3 g4 g5 g6 g7
          refine HRL.out.mono ?_
          rintro e w5 ⟨ad, cap, rfl, hI, b5⟩
          have c5 := c4.trans (b5.mono s4)
          have s5 := c5.size
          have hli := list_anyA ad cap zs w5 hI (by omega)
          rw [E1.out, E2.out, extract_strOf] at hli
          have HLI := Lib.hid hli
          clear hli hI
          go_wp2_with fail
          refine HLI.out.mono ?_
          rintro e w6 ⟨rfl, b6⟩
          have c6 := c5.trans (b6.mono s5)
          have s6 := c6.size
          go_wp2_with fail
          refine (awake_any _).mono ?_
          rintro e w7 ⟨rfl, b7⟩
          go_wp2
          go_ret
          exact ⟨rfl, c6.trans (b7.mono s6)⟩
        | err e2 =>
          rw [hd] at hrl
          simp only [Rd.val, Rd.len, Rd.e, List.length_nil] at hrl
          have hne := decL_err_ne hd
          have hg1 : ((e2 : Int) == 0) = false := by rw [beq_eq_false_iff_ne]; omega
          have hg2 : ((e2 : Int) != 0) = true := by rw [bne_iff_ne]; omega
          have HRL := Lib.hid hrl
          clear hrl hd hne hdl
          refine HRL.out.mono ?_
          rintro e w5 ⟨ad, cap, rfl, hI, b5⟩
          have c5 := c4.trans (b5.mono s4)
          have s5 := c5.size
          have HLI := Lib.hid (list_empty ad cap w5)
          clear hI
          go_wp2_with fail
          refine HLI.out.mono ?_
          rintro e w6 ⟨rfl, b6⟩
          have c6 := c5.trans (b6.mono s5)
          have s6 := c6.size
          go_wp2_with fail
          refine (awake_any _).mono ?_
          rintro e w7 ⟨rfl, b7⟩
          go_wp2
          go_ret
          exact ⟨rfl, c6.trans (b7.mono s6)⟩
      | err e1 =>
        unfold readTextV at hrt
        rw [hd] at hrt
        simp only [Rd.val, Rd.len, Rd.e] at hrt
        have hne := decT_err_ne hd
        have hf1 : ((e1 : Int) == 0) = false := by rw [beq_eq_false_iff_ne]; omega
        have hf2 : ((e1 : Int) != 0) = true := by rw [bne_iff_ne]; omega
        have hst : strOf [] = ⟨#[]⟩ := rfl
        rw [hst] at hrt
        have htx := fun w => text_any ⟨#[]⟩ w (by decide)
        have HRT := Lib.hid hrt
        have HTX := Lib.hid htx
        clear hrt htx hd hne hst
        refine HRT.out.mono ?_
        rintro e w3 ⟨rfl, b3⟩
        have c3 := c2.trans (b3.mono s2)
        have s3 := c3.size
        go_wp2_with fail
        refine (HTX.out _).mono ?_
        rintro e w4 ⟨rfl, b4⟩
        have c4 := c3.trans (b4.mono s3)
        have s4 := c4.size
        clear HRT HTX
        go_wp2_with fail
        have hrl := readList_any s hs w4
        unfold ReadsL at hrl
        have hdl := decL_length s.data.toList
        cases hd : decL s.data.toList with
        | ok zs m =>
          rw [hd] at hrl hdl
          simp only [Rd.val, Rd.len, Rd.e] at hrl hdl
          obtain ⟨zs', g1, g2, g3, g4, g5, g6, g7⟩ := decLf_canonical (Nat.zero_le _) hd
          rw [List.nil_append] at g1
          subst g1
          have e1 : listL zs = s.data.toList.take m := by
            unfold listL; rw [if_neg (by omega), if_pos g3, g6, Nat.sub_zero]
          have e2 : listE zs = 0 := by
            unfold listE; rw [if_neg (by omega), if_pos g3]
          have m1 : (1 : Int) ≤ (m : Int) := by omega
          have m2 : (m : Int) ≤ (s.size : Int) := by simp at g5; omega
          have HRL := Lib.hid hrl
          have E1 := Lib.hid e1
          have E2 := Lib.hid e2
          clear hrl hd e1 e2 g2 g3 g4 g5 g6 g7
          refine HRL.out.mono ?_
          rintro e w5 ⟨ad, cap, rfl, hI, b5⟩
          have c5 := c4.trans (b5.mono s4)
          have s5 := c5.size
          have hli := list_anyA ad cap zs w5 hI (by omega)
          rw [E1.out, E2.out, extract_strOf] at hli
          have HLI := Lib.hid hli
          clear hli hI
          go_wp2_with fail
          refine HLI.out.mono ?_
          rintro e w6 ⟨rfl, b6⟩
          have c6 := c5.trans (b6.mono s5)
          have s6 := c6.size
          go_wp2_with fail
          refine (awake_any _).mono ?_
          rintro e w7 ⟨rfl, b7⟩
          go_wp2
          go_ret
          exact ⟨rfl, c6.trans (b7.mono s6)⟩
        | err e2 =>
          rw [hd] at hrl
          simp only [Rd.val, Rd.len, Rd.e, List.length_nil] at hrl
          have hne := decL_err_ne hd
          have hg1 : ((e2 : Int) == 0) = false := by rw [beq_eq_false_iff_ne]; omega
          have hg2 : ((e2 : Int) != 0) = true := by rw [bne_iff_ne]; omega
          have HRL := Lib.hid hrl
          clear hrl hd hne hdl
          refine HRL.out.mono ?_
          rintro e w5 ⟨ad, cap, rfl, hI, b5⟩
          have c5 := c4.trans (b5.mono s4)
          have s5 := c5.size
          have HLI := Lib.hid (list_empty ad cap w5)
          clear hI
          go_wp2_with fail
          refine HLI.out.mono ?_
          rintro e w6 ⟨rfl, b6⟩
          have c6 := c5.trans (b6.mono s5)
          have s6 := c6.size
          go_wp2_with fail
          refine (awake_any _).mono ?_
          rintro e w7 ⟨rfl, b7⟩
          go_wp2
          go_ret
          exact ⟨rfl, c6.trans (b7.mono s6)⟩
    | err e0 =>
      rw [hd] at hri
      simp only [Rd.val, Rd.len, Rd.e] at hri
      have hne := decInt_err_ne hd
      have he1 : ((e0 : Int) == 0) = false := by rw [beq_eq_false_iff_ne]; omega
      have he2 : ((e0 : Int) != 0) = true := by rw [bne_iff_ne]; omega
      have hint := fun w => int_any 0 w
      have HRI := Lib.hid hri
      have HINT := Lib.hid hint
      clear hri hint hd hne
      refine HRI.out.mono ?_
      rintro e w1 ⟨rfl, b1⟩
      have s1 := b1.size
      go_wp2_with fail
      refine (HINT.out _).mono ?_
      rintro e w2 ⟨rfl, b2⟩
      have c2 := b1.trans (b2.mono s1)
      have s2 := c2.size
      clear HRI HINT
      go_wp2_with fail
      have hrt := readText_any s hs w2
      cases hd : decT s.data.toList [] 0 with
      | ok x k' =>
        unfold readTextV at hrt
        rw [hd] at hrt
        simp only [Rd.val, Rd.len, Rd.e] at hrt
        obtain ⟨t, e1, e2, e3, e4, e5, e6⟩ := decT_canonical (by simp) hd
        rw [List.nil_append] at e1
        subst e1
        have htx := fun w => text_any (strOf x) w (by rw [strOf_size]; unfold maxLen; omega)
        unfold textL textE at htx
        rw [strOf_toList] at htx
        simp only [if_pos e2] at htx
        rw [e5, Nat.sub_zero, extract_strOf] at htx
        have j1 : (2 : Int) ≤ (k' : Int) := by omega
        have j2 : (k' : Int) ≤ (s.size : Int) := by simp at e4; omega
        have HRT := Lib.hid hrt
        have HTX := Lib.hid htx
        clear hrt htx hd e2 e3 e4 e5 e6
        refine HRT.out.mono ?_
        rintro e w3 ⟨rfl, b3⟩
        have c3 := c2.trans (b3.mono s2)
        have s3 := c3.size
        go_wp2_with fail
        refine (HTX.out _).mono ?_
        rintro e w4 ⟨rfl, b4⟩
        have c4 := c3.trans (b4.mono s3)
        have s4 := c4.size
        clear HRT HTX
        go_wp2_with fail
        have hrl := readList_any s hs w4
        unfold ReadsL at hrl
        have hdl := decL_length s.data.toList
        cases hd : decL s.data.toList with
        | ok zs m =>
          rw [hd] at hrl hdl
          simp only [Rd.val, Rd.len, Rd.e] at hrl hdl
          obtain ⟨zs', g1, g2, g3, g4, g5, g6, g7⟩ := decLf_canonical (Nat.zero_le _) hd
          rw [List.nil_append] at g1
          subst g1
          have e1 : listL zs = s.data.toList.take m := by
            unfold listL; rw [if_neg (by omega), if_pos g3, g6, Nat.sub_zero]
          have e2 : listE zs = 0 := by
            unfold listE; rw [if_neg (by omega), if_pos g3]
          have m1 : (1 : Int) ≤ (m : Int) := by omega
          have m2 : (m : Int) ≤ (s.size : Int) := by simp at g5; omega
          have HRL := Lib.hid hrl
          have E1 := Lib.hid e1
          have E2 := Lib.hid e2
          clear hrl hd e1 e2 g2 g3 g4 g5 g6 g7
          refine HRL.out.mono ?_
          rintro e w5 ⟨ad, cap, rfl, hI, b5⟩
          have c5 := c4.trans (b5.mono s4)
          have s5 := c5.size
          have hli := list_anyA ad cap zs w5 hI (by omega)
          rw [E1.out, E2.out, extract_strOf] at hli
          have HLI := Lib.hid hli
          clear hli hI
          go_wp2_with fail
          refine HLI.out.mono ?_
          rintro e w6 ⟨rfl, b6⟩
          have c6 := c5.trans (b6.mono s5)
          have s6 := c6.size
          go_wp2_with fail
          refine (awake_any _).mono ?_
          rintro e w7 ⟨rfl, b7⟩
          go_wp2
          go_ret
          exact ⟨rfl, c6.trans (b7.mono s6)⟩
        | err e2 =>
          rw [hd] at hrl
          simp only [Rd.val, Rd.len, Rd.e, List.length_nil] at hrl
          have hne := decL_err_ne hd
          have hg1 : ((e2 : Int) == 0) = false := by rw [beq_eq_false_iff_ne]; omega
          have hg2 : ((e2 : Int) != 0) = true := by rw [bne_iff_ne]; omega
          have HRL := Lib.hid hrl
          clear hrl hd hne hdl
          refine HRL.out.mono ?_
          rintro e w5 ⟨ad, cap, rfl, hI, b5⟩
          have c5 := c4.trans (b5.mono s4)
          have s5 := c5.size
          have HLI := Lib.hid (list_empty ad cap w5)
          clear hI
          go_wp2_with fail
          refine HLI.out.mono ?_
          rintro e w6 ⟨rfl, b6⟩
          have c6 := c5.trans (b6.mono s5)
          have s6 := c6.size
          go_wp2_with fail
          refine (awake_any _).mono ?_
          rintro e w7 ⟨rfl, b7⟩
          go_wp2
          go_ret
          exact ⟨rfl, c6.trans (b7.mono s6)⟩
      | err e1 =>
        unfold readTextV at hrt
        rw [hd] at hrt
        simp only [Rd.val, Rd.len, Rd.e] at hrt
        have hne := decT_err_ne hd
        have hf1 : ((e1 : Int) == 0) = false := by rw [beq_eq_false_iff_ne]; omega
        have hf2 : ((e1 : Int) != 0) = true := by rw [bne_iff_ne]; omega
        have hst : strOf [] = ⟨#[]⟩ := rfl
        rw [hst] at hrt
        have htx := fun w => text_any ⟨#[]⟩ w (by decide)
        have HRT := Lib.hid hrt
        have HTX := Lib.hid htx
        clear hrt htx hd hne hst
        refine HRT.out.mono ?_
        rintro e w3 ⟨rfl, b3⟩
        have c3 := c2.trans (b3.mono s2)
        have s3 := c3.size
        go_wp2_with fail
        refine (HTX.out _).mono ?_
        rintro e w4 ⟨rfl, b4⟩
        have c4 := c3.trans (b4.mono s3)
        have s4 := c4.size
        clear HRT HTX
        go_wp2_with fail
        have hrl := readList_any s hs w4
        unfold ReadsL at hrl
        have hdl := decL_length s.data.toList
        cases hd : decL s.data.toList with
        | ok zs m =>
          rw [hd] at hrl hdl
          simp only [Rd.val, Rd.len, Rd.e] at hrl hdl
          obtain ⟨zs', g1, g2, g3, g4, g5, g6, g7⟩ := decLf_canonical (Nat.zero_le _) hd
          rw [List.nil_append] at g1
          subst g1
          have e1 : listL zs = s.data.toList.take m := by
            unfold listL; rw [if_neg (by omega), if_pos g3, g6, Nat.sub_zero]
          have e2 : listE zs = 0 := by
            unfold listE; rw [if_neg (by omega), if_pos g3]
          have m1 : (1 : Int) ≤ (m : Int) := by omega
          have m2 : (m : Int) ≤ (s.size : Int) := by simp at g5; omega
          have HRL := Lib.hid hrl
          have E1 := Lib.hid e1
          have E2 := Lib.hid e2
          clear hrl hd e1 e2 g2 g3 g4 g5 g6 g7
          refine HRL.out.mono ?_
          rintro e w5 ⟨ad, cap, rfl, hI, b5⟩
          have c5 := c4.trans (b5.mono s4)
          have s5 := c5.size
          have hli := list_anyA ad cap zs w5 hI (by omega)
          rw [E1.out, E2.out, extract_strOf] at hli
          have HLI := Lib.hid hli
          clear hli hI
          go_wp2_with fail
          refine HLI.out.mono ?_
          rintro e w6 ⟨rfl, b6⟩
          have c6 := c5.trans (b6.mono s5)
          have s6 := c6.size
          go_wp2_with fail
          refine (awake_any _).mono ?_
          rintro e w7 ⟨rfl, b7⟩
          go_wp2
          go_ret
          exact ⟨rfl, c6.trans (b7.mono s6)⟩
        | err e2 =>
          rw [hd] at hrl
          simp only [Rd.val, Rd.len, Rd.e, List.length_nil] at hrl
          have hne := decL_err_ne hd
          have hg1 : ((e2 : Int) == 0) = false := by rw [beq_eq_false_iff_ne]; omega
          have hg2 : ((e2 : Int) != 0) = true := by rw [bne_iff_ne]; omega
          have HRL := Lib.hid hrl
          clear hrl hd hne hdl
          refine HRL.out.mono ?_
          rintro e w5 ⟨ad, cap, rfl, hI, b5⟩
          have c5 := c4.trans (b5.mono s4)
          have s5 := c5.size
          have HLI := Lib.hid (list_empty ad cap w5)
          clear hI
          go_wp2_with fail
          refine HLI.out.mono ?_
          rintro e w6 ⟨rfl, b6⟩
          have c6 := c5.trans (b6.mono s5)
          have s6 := c6.size
          go_wp2_with fail
          refine (awake_any _).mono ?_
          rintro e w7 ⟨rfl, b7⟩
          go_wp2
          go_ret
          exact ⟨rfl, c6.trans (b7.mono s6)⟩

end Go.Proofs.Ytdnjjppidolnbaa
namespace Go.Proofs.Ytdnjjppidolnbaa.codecCanonical
open Go.ChangeShapes Go.WideShapes Go.ChangeAt Go.RowKit
open Go.ChangeMaps (open_string shut_string)
set_option linter.unusedVariables false

theorem own : ownKnob Try.prog.godebug = none := by kernel_rfl
theorem laidOut : laidOutB Try.prog = true := by kernel_rfl

theorem walk (a0 : ByteArray) (w0 : a0.size ≤ maxLen) (w : World) :
    Calls Try.prog 8 #[.string a0] w fun e w' => e = .returned (.bool true) ∧ Below w.heap.size w w' := by
  exact codecCanonical_walk a0 w (by unfold maxLen at w0; exact w0)

set_option maxRecDepth 100000 in
theorem lifted (os : Os) (started : os.Started) (H : Type) (enc : TypeId × Value → H) :
    ReturnsInHanded {} Try.checked os 8 .any (Rows.codecCanonicalSpec.pre6 enc Try.prog Try.f8 Rows.codecCanonicalRow.domain false) (Rows.codecCanonicalSpec.post enc Try.prog Try.f8 false true false false) := by
  refine returnsInHanded_of_change (C := Try.checked) own started (by kernel_rfl) Try.func8
    (ChangeSpec.witness6 (enc := enc) (C := Try.checked) false ⟨#[], #[.string ByteArray.empty], []⟩ 8 (by kernel_rfl) (by kernel_rfl) (by kernel_rfl) (by kernel_rfl)) ?_
  intro W base args ds gs before hval0 hW hcnd _
  have hval : ∀ (j : Nat) t v, Try.f8.params[j]? = some t → args[j]? = some v → Value.okWide Try.prog W .any base t v := hval0
  have hW' := hW
  obtain ⟨p, q, hA0, hV, rfl, hfz, hnd⟩ := hW
  have hA : DataW.TrodAll enc Try.prog W 0 (fun _ => true) true Try.f8.params.toList args.toList ds p := hA0
  rw [Try.params8] at hA hval
  obtain ⟨v0, vs0, d0, ds0, p0, q0, hargs, rfl, rfl, h0, r0⟩ := trodAll_cons hA
  obtain ⟨rfl, rfl, rfl⟩ := trodAll_nil r0
  obtain rfl : args = #[v0] := by cases args; simp_all
  obtain ⟨rfl, rfl⟩ := trodVars_none hV
  obtain ⟨a0, rfl, rfl, rfl, w0⟩ := open_string Try.underlying9 (hval 0 9 v0 rfl rfl) h0
  clear hA0 hval0
  simp only [List.append_nil] at hW'
  refine (walk a0 w0 W).mono fun e W' ⟨he, hg⟩ => ?_
  subst he
  exact ⟨_, rfl, _, _, _, [], [], [], hW', (trodAll_cons_mk (shut_bool Try.underlying4 _) trodAll_mk0), (trodAll_cons_mk (shut_string Try.underlying9 w0) trodAll_mk0), rfl, hg.frame _, fun h => by cases h⟩

theorem over : Rows.codecCanonicalRow.holds Try.pinned (OpenSpec.ofChange Rows.codecCanonicalSpec) :=
  OpenClaim.holds_of_wide 8 Try.f8 rfl rfl rfl rfl rfl rfl rfl ⟨rfl, rfl, rfl, rfl, rfl⟩ rfl rfl rfl rfl rfl (by kernel_rfl) Try.func8 (by kernel_rfl)
    (of_decide_eq_true (by kernel_rfl)) (by unfold Func.isWrapper; first | (rw [if_pos (by decide +kernel)]; kernel_rfl) | (rw [if_neg (by decide +kernel)]; exact ⟨rfl, rfl⟩))
    (fun os started H enc _ => lifted os started H enc)

theorem proved : Rows.CodecCanonicalSaid :=
  over
end Go.Proofs.Ytdnjjppidolnbaa.codecCanonical

