/-
  No encoding is the beginning of that of another value; the encodings of integers one after the other determine the integers, and are ordered like their list (lists of up to 40 integers, texts of up to 400 bytes): the law CodecDelimited returns true at every input, and leaves its arguments as they were. No condition.
-/
import Derived.Test.YtdnjjppidolnbaaCompare
import Derived.Test.YtdnjjppidolnbaaAwake
import Derived.Test.YtdnjjppidolnbaaLawKit
import Derived.Test.YtdnjjppidolnbaaRefList
import Derived.ProofKit
import Derived.OpenShut
import Derived.ShutString
namespace Go.Proofs.Ytdnjjppidolnbaa
open Go.RowKit

theorem append_list (a b : ByteArray) : (a ++ b).data.toList = a.data.toList ++ b.data.toList := by simp
theorem listL_ok {zs : List Int} (h : zs.length ≤ 20000) (hr : AllR zs) : listL zs = encList zs ∧ listE zs = 0 := by
  unfold listL listE
  have hn : ¬ 20000 < zs.length := by omega
  rw [if_neg hn, if_neg hn, if_pos hr, if_pos hr]
  exact ⟨rfl, rfl⟩
theorem listL_bad {zs : List Int} (h : zs.length ≤ 20000) (hr : ¬ AllR zs) : listE zs = 2 := by
  unfold listE
  have hn : ¬ 20000 < zs.length := by omega
  rw [if_neg hn, if_neg hr]
theorem textL_ok {t : List UInt8} (h : t.length ≤ 100000) : textL t = encText t ∧ textE t = 0 := by
  unfold textL textE
  rw [if_pos h, if_pos h]
  exact ⟨rfl, rfl⟩

set_option maxRecDepth 100000 in
set_option maxHeartbeats 8000000 in
theorem codecDelimited_great (ad bd : Option Addr) (cap dap : Nat) (za zb : List Int) (t u : ByteArray) (w : World) (hla : za.length ≤ 9223372036854775807) (hlb : zb.length ≤ 9223372036854775807) (ht : t.size ≤ 9223372036854775807) (hu : u.size ≤ 9223372036854775807) (hbig : 40 < za.length ∨ 40 < zb.length ∨ 400 < t.size ∨ 400 < u.size) :
    Calls Try.prog 10 #[.slice ad za.length cap, .slice bd zb.length dap, .string t, .string u] w fun e w' => e = .returned (.bool true) ∧ Below w.heap.size w w' := by
  have hb0 : Below w.heap.size w (w.alloc (.cells #[.slice ad za.length cap, .slice bd zb.length dap] 34)) := (Below.refl _ w).alloc (Nat.le_refl _) _
  by_cases h1 : 40 < za.length
  · go_enter Try.func10, Try.ntmps10
    go_wp2_with fail
    refine (great2_yes1 w.heap.size za.length cap zb.length dap ad bd _ (by simp) (by simp) h1).mono ?_
    rintro e w1 ⟨rfl, rfl⟩
    go_wp2_with fail
    refine (awake_any _).mono ?_
    rintro e w9 ⟨rfl, b9⟩
    go_wp2
    go_ret
    exact ⟨rfl, hb0.trans (b9.mono (by simp))⟩
  · have h1' : za.length ≤ 40 := by omega
    by_cases h2 : 40 < zb.length
    · go_enter Try.func10, Try.ntmps10
      go_wp2_with fail
      refine (great2_yes2 w.heap.size za.length cap zb.length dap ad bd _ (by simp) (by simp) h1' h2).mono ?_
      rintro e w1 ⟨rfl, rfl⟩
      go_wp2_with fail
      refine (awake_any _).mono ?_
      rintro e w9 ⟨rfl, b9⟩
      go_wp2
      go_ret
      exact ⟨rfl, hb0.trans (b9.mono (by simp))⟩
    · have h2' : zb.length ≤ 40 := by omega
      by_cases h3 : 400 < t.size
      · have h3' : 400 < (t.size : Int) := by omega
        go_enter Try.func10, Try.ntmps10
        go_wp2_with fail
        refine (great2_no w.heap.size za.length cap zb.length dap ad bd _ (by simp) (by simp) h1' h2').mono ?_
        rintro e w1 ⟨rfl, rfl⟩
        go_wp2_with fail
        refine (awake_any _).mono ?_
        rintro e w9 ⟨rfl, b9⟩
        go_wp2
        go_ret
        exact ⟨rfl, hb0.trans (b9.mono (by simp))⟩
      · have h3' : (t.size : Int) ≤ 400 := by omega
        have h4' : 400 < (u.size : Int) := by omega
        go_enter Try.func10, Try.ntmps10
        go_wp2_with fail
        refine (great2_no w.heap.size za.length cap zb.length dap ad bd _ (by simp) (by simp) h1' h2').mono ?_
        rintro e w1 ⟨rfl, rfl⟩
        go_wp2_with fail
        refine (awake_any _).mono ?_
        rintro e w9 ⟨rfl, b9⟩
        go_wp2
        go_ret
        exact ⟨rfl, hb0.trans (b9.mono (by simp))⟩

theorem list_beq (t u : ByteArray) : (t.toList == u.toList) = decide (t = u) := by
  rw [ByteArray.toList_eq, ByteArray.toList_eq]
  by_cases h : t = u
  · subst h; simp
  · have hne : t.data.toList ≠ u.data.toList := by
      intro e
      apply h
      have h2 := congrArg strOf e
      have h3 : ∀ v : ByteArray, strOf v.data.toList = v := fun v => by simp [strOf]
      rw [h3, h3] at h2
      exact h2
    rw [beq_eq_false_iff_ne.2 hne]
    simp [h]

theorem hasPrefix_text (t u : ByteArray) : Lib.hasPrefix (encText t.data.toList) (encText u.data.toList) = decide (t = u) := by
  rw [text_prefix]
  by_cases h : t = u
  · subst h; simp
  · have : t.data.toList ≠ u.data.toList := by
      intro e
      apply h
      have h2 := congrArg strOf e
      have h3 : ∀ v : ByteArray, strOf v.data.toList = v := fun v => by simp [strOf]
      rw [h3, h3] at h2
      exact h2
    simp [h, this]

set_option maxRecDepth 100000 in
set_option maxHeartbeats 8000000 in
theorem codecDelimited_walk (ad bd : Option Addr) (cap dap : Nat) (za zb : List Int) (t u : ByteArray) (w : World) (hI : IntsA w.heap.size w ad za) (hJ : IntsA w.heap.size w bd zb) (hla : za.length ≤ 40) (hlb : zb.length ≤ 40) (ht : t.size ≤ 400) (hu : u.size ≤ 400) :
    Calls Try.prog 10 #[.slice ad za.length cap, .slice bd zb.length dap, .string t, .string u] w fun e w' => e = .returned (.bool true) ∧ Below w.heap.size w w' := by
  have hb0 : Below w.heap.size w (w.alloc (.cells #[.slice ad za.length cap, .slice bd zb.length dap] 34)) := (Below.refl _ w).alloc (Nat.le_refl _) _
  have ht' : (t.size : Int) ≤ 400 := by omega
  have hu' : (u.size : Int) ≤ 400 := by omega
  have HI := Lib.hid hI
  have HJ := Lib.hid hJ
  have hA := fun (W : World) (hb : Below w.heap.size w W) => list_anyA ad cap za W ((hI.below hb).mono hb.size) (by omega)
  have hB := fun (W : World) (hb : Below w.heap.size w W) => list_anyA bd dap zb W ((hJ.below hb).mono hb.size) (by omega)
  have hl1 : t.data.toList.length ≤ 100000 := by
    have : t.data.toList.length = t.size := by simp
    omega
  have hl2 : u.data.toList.length ≤ 100000 := by
    have : u.data.toList.length = u.size := by simp
    omega
  have htx := fun W => text_any t W (by unfold maxLen; omega)
  have hty := fun W => text_any u W (by unfold maxLen; omega)
  simp only [(textL_ok hl1).1, (textL_ok hl1).2] at htx
  simp only [(textL_ok hl2).1, (textL_ok hl2).2] at hty
  have HTX := Lib.hid htx
  have HTY := Lib.hid hty
  clear hI hJ htx hty hl1 hl2
  by_cases ra : AllR za
  · by_cases rb : AllR zb
    · simp only [(listL_ok (by omega) ra).1, (listL_ok (by omega) ra).2] at hA
      simp only [(listL_ok (by omega) rb).1, (listL_ok (by omega) rb).2] at hB
      have HRA := Lib.hid ra
      have HRB := Lib.hid rb
      have hpt := fun W => Try.strings_HasPrefix (strOf (encText t.data.toList)) (strOf (encText u.data.toList)) W
      simp only [strOf_toList, hasPrefix_text] at hpt
      obtain ⟨bt, hq1, hq2⟩ : ∃ bt, decide (t = u) = bt ∧ (t.toList == u.toList) = bt := ⟨_, rfl, list_beq t u⟩
      simp only [hq1] at hpt
      have hpl := fun W => Try.strings_HasPrefix (strOf (encList za)) (strOf (encList zb)) W
      simp only [strOf_toList, list_prefix za zb ra rb] at hpl
      have hSd := strOf_toList (encList za)
      have hRd := strOf_toList (encList zb)
      have hSz := strOf_size (encList za)
      have hRz := strOf_size (encList zb)
      have hel : (encList za).length = (za.flatMap encInt).length + 1 := by simp [encList]
      have hem : (encList zb).length = (zb.flatMap encInt).length + 1 := by simp [encList]
      obtain ⟨S, hS⟩ : ∃ S, strOf (encList za) = S := ⟨_, rfl⟩
      obtain ⟨R, hR⟩ : ∃ R, strOf (encList zb) = R := ⟨_, rfl⟩
      simp only [hS] at hA hpl hSd hSz
      simp only [hR] at hB hpl hRd hRz
      have HA := Lib.hid hA
      have HB := Lib.hid hB
      have hSe : S.toList.isEmpty = false := by rw [ByteArray.toList_eq, hSd]; simp [encList]
      have hRe : R.toList.isEmpty = false := by rw [ByteArray.toList_eq, hRd]; simp [encList]
      have hSn : ¬ S.toList = [] := by rw [ByteArray.toList_eq, hSd]; simp [encList]
      have hRn : ¬ R.toList = [] := by rw [ByteArray.toList_eq, hRd]; simp [encList]
      have hsA := flat_length za ra
      have hsB := flat_length zb rb
      have HSD := Lib.hid hSd
      have HRD := Lib.hid hRd
      obtain ⟨nA, hnA⟩ : ∃ nA, (za.flatMap encInt).length = nA := ⟨_, rfl⟩
      obtain ⟨nB, hnB⟩ : ∃ nB, (zb.flatMap encInt).length = nB := ⟨_, rfl⟩
      have HSZ := Lib.hid (show S.size = nA + 1 by rw [hSz, hel, hnA])
      have HRZ := Lib.hid (show R.size = nB + 1 by rw [hRz, hem, hnB])
      rw [hnA] at hsA
      rw [hnB] at hsB
      have HPT := Lib.hid hpt
      have HPL := Lib.hid hpl
      have HNA := Lib.hid hnA
      have HNB := Lib.hid hnB
      clear hA hB ra rb hpt hpl hSd hRd hSz hRz hel hem hS hR hnA hnB
      go_enter Try.func10, Try.ntmps10
      go_wp2_with fail
      refine (great2_no w.heap.size za.length cap zb.length dap ad bd _ (by simp) (by simp) hla hlb).mono ?_
      rintro e w1 ⟨rfl, rfl⟩
      go_wp2_with fail
      refine (HA.out _ hb0).mono ?_
      rintro e w1 ⟨rfl, b1⟩
      have c1 := hb0.trans (b1.mono hb0.size)
      have s1 := c1.size
      go_wp2_with fail
      refine (HB.out _ c1).mono ?_
      rintro e w2 ⟨rfl, b2⟩
      have c2 := c1.trans (b2.mono s1)
      have s2 := c2.size
      go_wp2_with fail
      refine (HTX.out _).mono ?_
      rintro e w3 ⟨rfl, b3⟩
      have c3 := c2.trans (b3.mono s2)
      have s3 := c3.size
      go_wp2_with fail
      refine (HTY.out _).mono ?_
      rintro e w4 ⟨rfl, b4⟩
      have c4 := c3.trans (b4.mono s3)
      have s4 := c4.size
      go_wp2_with fail
      refine (HPT.out _).mono ?_
      rintro e w5 ⟨rfl, rfl⟩
      go_wp2_with fail
      refine (HPL.out _).mono ?_
      rintro e w5 ⟨rfl, rfl⟩
      go_wp2_with fail
      refine (same_any w.heap.size w.heap.size ad bd cap dap za zb _ (HI.out.below c4) (HJ.out.below c4) (by omega) (by omega)).mono ?_
      rintro e w6 ⟨rfl, b6⟩
      have c6 := c4.trans (b6.mono s4)
      have s6 := c6.size
      go_wp2_with fail
      have hz1 := HSZ.out
      have hz2 := HRZ.out
      have hw1 : IntKind.i64.wrap ((nA : Int) + 1 - 1) = (nA : Int) := by rw [IntWalk.i64_in _ (by omega)]; omega
      have hw2 : IntKind.i64.wrap ((nB : Int) + 1 - 1) = (nB : Int) := by rw [IntWalk.i64_in _ (by omega)]; omega
      go_quiet (fail)
      have hS2 : (S.extract 0 nA).data.toList = za.flatMap encInt := by
        rw [Lib.extract_data, HSD.out, List.drop_zero, Nat.sub_zero, ← HNA.out]
        simp [encList]
      have hR2 : (R.extract 0 nB).data.toList = zb.flatMap encInt := by
        rw [Lib.extract_data, HRD.out, List.drop_zero, Nat.sub_zero, ← HNB.out]
        simp [encList]
      have hS3 : (S.extract 0 nA).size ≤ 361 := by rw [ByteArray.size_extract]; omega
      have hcp := fun W => Try.strings_Compare (S.extract 0 nA) (R.extract 0 nB) W
      simp only [hS2, hR2, flat_order za zb HRA.out HRB.out] at hcp
      have HCP := Lib.hid hcp
      have HS2 := Lib.hid hS2
      have c6d := below_drewN c6 nq
      have s6d := c6d.size
      clear hcp hS2 hR2 hz1 hz2 hw1 hw2
      go_wp2
      go_loopw [17, 108] (fun r i wr => ∃ (k : Nat) (Q : ByteArray), k ≤ za.length ∧ i = .int .i64 k ∧ r = .string Q ∧ Q.size ≤ 361 ∧ Hid (Q.data.toList = (za.drop k).flatMap encInt) ∧ Below w.heap.size w wr) (fun _ i _ => za.length - (intOf i).toNat)
      case atStart => exact ⟨0, S.extract 0 nA, Nat.zero_le _, rfl, rfl, hS3, Lib.hid HS2.out, c6d⟩
      case round =>
        obtain ⟨k, Q, hk, rfl, rfl, hQ, HQ, c7⟩ := hrel
        have s7 := c7.size
        by_cases hlt : k < za.length
        · obtain ⟨ba, oa, rfl, hba, hca⟩ := HI.out.some_ (by omega)
          have hxa := (c7.cell (p := ⟨ba, oa + k, none⟩) hba).trans (hca k hlt)
          have hma : za[k]?.getD 0 ∈ za := by simp [hlt]
          have hdr := drop_consZ za k hlt
          obtain ⟨x, hx⟩ : ∃ x, za[k]?.getD 0 = x := ⟨_, rfl⟩
          rw [hx] at hxa hma hdr
          have hqd := HQ.out
          rw [hdr, List.flatMap_cons] at hqd
          have hri := readInt_any Q (by omega) wr
          rw [hqd, decInt_encInt x (HRA.out x hma)] at hri
          simp only [Rd.val, Rd.len, Rd.e] at hri
          have HRI := Lib.hid hri
          have hlq : (encInt x).length ≤ Q.size := by
            have := congrArg List.length hqd
            rw [List.length_append] at this
            have e : Q.data.toList.length = Q.size := by simp
            omega
          have HQD := Lib.hid hqd
          have hle : ((encInt x).length : Int) ≤ (Q.size : Int) := by omega
          clear hri hqd hma hdr hx hca
          go_wp2_with fail
          refine HRI.out.mono ?_
          rintro e w8 ⟨rfl, b8⟩
          go_wp2
          go_roundw
          case rel =>
            refine ⟨k + 1, Q.extract (encInt x).length Q.size, by omega, by go_num, rfl, by rw [ByteArray.size_extract]; omega, Lib.hid ?_, c7.trans (b8.mono s7)⟩
            rw [extract_list, HQD.out]
            simp
          case measure => simp [intOf]; omega
        · have hqd := HQ.out
          rw [List.drop_of_length_le (by omega)] at hqd
          have hQ1 : Q.toList = [] := by rw [ByteArray.toList_eq, hqd]; rfl
          have hQ2 : Q.toList.isEmpty = true := by rw [hQ1]; rfl
          clear hqd
          go_wp2_with fail
          refine (HCP.out _).mono ?_
          rintro e w8 ⟨rfl, rfl⟩
          go_wp2_with fail
          refine (compare_any w.heap.size w.heap.size ad bd cap dap za zb _ (HI.out.below c7) (HJ.out.below c7) (by omega) (by omega)).mono ?_
          rintro e w8 ⟨rfl, b8⟩
          have c8 := c7.trans (b8.mono s7)
          have s8 := c8.size
          go_wp2_with fail
          refine (awake_any _).mono ?_
          rintro e w9 ⟨rfl, b9⟩
          go_wp2
          go_ret
          exact ⟨rfl, c8.trans (b9.mono s8)⟩
    · simp only [(listL_ok (by omega) ra).1, (listL_ok (by omega) ra).2] at hA
      simp only [listL_bad (by omega) rb] at hB
      have HA := Lib.hid hA
      have HB := Lib.hid hB
      clear hA hB
      go_enter Try.func10, Try.ntmps10
      go_wp2_with fail
      refine (great2_no w.heap.size za.length cap zb.length dap ad bd _ (by simp) (by simp) hla hlb).mono ?_
      rintro e w1 ⟨rfl, rfl⟩
      go_wp2_with fail
      refine (HA.out _ hb0).mono ?_
      rintro e w1 ⟨rfl, b1⟩
      have c1 := hb0.trans (b1.mono hb0.size)
      have s1 := c1.size
      go_wp2_with fail
      refine (HB.out _ c1).mono ?_
      rintro e w2 ⟨rfl, b2⟩
      have c2 := c1.trans (b2.mono s1)
      have s2 := c2.size
      go_wp2_with fail
      refine (HTX.out _).mono ?_
      rintro e w3 ⟨rfl, b3⟩
      have c3 := c2.trans (b3.mono s2)
      have s3 := c3.size
      go_wp2_with fail
      refine (HTY.out _).mono ?_
      rintro e w4 ⟨rfl, b4⟩
      have c4 := c3.trans (b4.mono s3)
      have s4 := c4.size
      go_wp2_with fail
      refine (awake_any _).mono ?_
      rintro e w9 ⟨rfl, b9⟩
      go_wp2
      go_ret
      exact ⟨rfl, c4.trans (b9.mono s4)⟩
  · simp only [listL_bad (by omega) ra] at hA
    have HA := Lib.hid hA
    have HB := Lib.hid hB
    clear hA hB
    go_enter Try.func10, Try.ntmps10
    go_wp2_with fail
    refine (great2_no w.heap.size za.length cap zb.length dap ad bd _ (by simp) (by simp) hla hlb).mono ?_
    rintro e w1 ⟨rfl, rfl⟩
    go_wp2_with fail
    refine (HA.out _ hb0).mono ?_
    rintro e w1 ⟨rfl, b1⟩
    have c1 := hb0.trans (b1.mono hb0.size)
    have s1 := c1.size
    go_wp2_with fail
    refine (HB.out _ c1).mono ?_
    rintro e w2 ⟨rfl, b2⟩
    have c2 := c1.trans (b2.mono s1)
    have s2 := c2.size
    go_wp2_with fail
    refine (HTX.out _).mono ?_
    rintro e w3 ⟨rfl, b3⟩
    have c3 := c2.trans (b3.mono s2)
    have s3 := c3.size
    go_wp2_with fail
    refine (HTY.out _).mono ?_
    rintro e w4 ⟨rfl, b4⟩
    have c4 := c3.trans (b4.mono s3)
    have s4 := c4.size
    go_wp2_with fail
    refine (awake_any _).mono ?_
    rintro e w9 ⟨rfl, b9⟩
    go_wp2
    go_ret
    exact ⟨rfl, c4.trans (b9.mono s4)⟩

theorem codecDelimited_all (ad bd : Option Addr) (cap dap : Nat) (za zb : List Int) (t u : ByteArray) (w : World) (hI : IntsA w.heap.size w ad za) (hJ : IntsA w.heap.size w bd zb) (hla : za.length ≤ 9223372036854775807) (hlb : zb.length ≤ 9223372036854775807) (ht : t.size ≤ 9223372036854775807) (hu : u.size ≤ 9223372036854775807) :
    Calls Try.prog 10 #[.slice ad za.length cap, .slice bd zb.length dap, .string t, .string u] w fun e w' => e = .returned (.bool true) ∧ Below w.heap.size w w' := by
  by_cases h : za.length ≤ 40 ∧ zb.length ≤ 40 ∧ t.size ≤ 400 ∧ u.size ≤ 400
  · exact codecDelimited_walk ad bd cap dap za zb t u w hI hJ h.1 h.2.1 h.2.2.1 h.2.2.2
  · exact codecDelimited_great ad bd cap dap za zb t u w hla hlb ht hu (by omega)

end Go.Proofs.Ytdnjjppidolnbaa
namespace Go.Proofs.Ytdnjjppidolnbaa.codecDelimited
open Go.ChangeShapes Go.WideShapes Go.ChangeAt Go.RowKit
open Go.ChangeMaps (open_string shut_string)
set_option linter.unusedVariables false

theorem own : ownKnob Try.prog.godebug = none := by kernel_rfl
theorem laidOut : laidOutB Try.prog = true := by kernel_rfl

def IsRow (k : IntKind) (w : World) (a : Option Addr) (len cap : Nat) (zs : List Int) : Prop :=
  (a = none ∧ len = 0 ∧ cap = 0 ∧ zs = []) ∨
  ∃ x, a = some x ∧ len ≤ cap ∧ cap ≤ maxLen ∧ zs.length = cap ∧ (∀ i, i < zs.length → w.cell? (x.add i) = some (.int k (zs.getD i 0))) ∧ ∀ n ∈ zs, (Lit.int k n).wf = true

theorem walk (a0 : Option Addr) (len0 cap0 : Nat) (z0 : List Int) (a1 : Option Addr) (len1 cap1 : Nat) (z1 : List Int) (a2 : ByteArray) (a3 : ByteArray) (w : World) (w0 : IsRow .i64 w a0 len0 cap0 z0) (w1 : IsRow .i64 w a1 len1 cap1 z1) (w2 : a2.size ≤ maxLen) (w3 : a3.size ≤ maxLen) :
    Calls Try.prog 10 #[.slice a0 len0 cap0, .slice a1 len1 cap1, .string a2, .string a3] w fun e w' => e = .returned (.bool true) ∧ Below w.heap.size w w' := by
  obtain ⟨za, rfl, hz, hI, _⟩ := rowInts (by unfold IsRow at w0; exact w0); obtain ⟨zb, rfl, hy, hJ, _⟩ := rowInts (by unfold IsRow at w1; exact w1); exact codecDelimited_all a0 a1 cap0 cap1 za zb a2 a3 w hI hJ hz hy (by unfold maxLen at w2; exact w2) (by unfold maxLen at w3; exact w3)

set_option maxRecDepth 100000 in
theorem lifted (os : Os) (started : os.Started) (H : Type) (enc : TypeId × Value → H) :
    ReturnsInHanded {} Try.checked os 10 .any (Rows.codecDelimitedSpec.pre6 enc Try.prog Try.f10 Rows.codecDelimitedRow.domain false) (Rows.codecDelimitedSpec.post enc Try.prog Try.f10 false true false false) := by
  refine returnsInHanded_of_change (C := Try.checked) own started (by kernel_rfl) Try.func10
    (ChangeSpec.witness6 (enc := enc) (C := Try.checked) false ⟨#[], #[.slice none 0 0, .slice none 0 0, .string ByteArray.empty, .string ByteArray.empty], []⟩ 8 (by kernel_rfl) (by kernel_rfl) (by kernel_rfl) (by kernel_rfl)) ?_
  intro W base args ds gs before hval0 hW hcnd _
  have hval : ∀ (j : Nat) t v, Try.f10.params[j]? = some t → args[j]? = some v → Value.okWide Try.prog W .any base t v := hval0
  have hW' := hW
  obtain ⟨p, q, hA0, hV, rfl, hfz, hnd⟩ := hW
  have hA : DataW.TrodAll enc Try.prog W 0 (fun _ => true) true Try.f10.params.toList args.toList ds p := hA0
  rw [Try.params10] at hA hval
  obtain ⟨v0, vs0, d0, ds0, p0, q0, hargs, rfl, rfl, h0, r0⟩ := trodAll_cons hA
  obtain ⟨v1, vs1, d1, ds1, p1, q1, rfl, rfl, rfl, h1, r1⟩ := trodAll_cons r0
  obtain ⟨v2, vs2, d2, ds2, p2, q2, rfl, rfl, rfl, h2, r2⟩ := trodAll_cons r1
  obtain ⟨v3, vs3, d3, ds3, p3, q3, rfl, rfl, rfl, h3, r3⟩ := trodAll_cons r2
  obtain ⟨rfl, rfl, rfl⟩ := trodAll_nil r3
  obtain rfl : args = #[v0, v1, v2, v3] := by cases args; simp_all
  obtain ⟨rfl, rfl⟩ := trodVars_none hV
  obtain ⟨a0, len0, cap0, rfl⟩ := okWide_slice Try.underlying34 (hval 0 34 v0 rfl rfl)
  have k0 := h0
  have lt0 : ∀ x ∈ p0, x.block < W.heap.size := by obtain ⟨m, hm⟩ := k0; exact DataW.trod_lt m _ _ _ hm
  obtain ⟨z0, w0⟩ : ∃ zs, IsRow .i64 W a0 len0 cap0 zs := by
    obtain ⟨fuel, hf⟩ := h0
    rcases open_ints Try.underlying34 Try.underlying3 (by kernel_rfl) hf with ⟨hcs, _⟩ | ⟨x, l, c, zs, hcs, _, hl, hm, hz, _, hcell, hwz⟩
    · simp [Value.cells] at hcs
      obtain ⟨rfl, rfl, rfl⟩ := hcs
      exact ⟨[], .inl ⟨rfl, rfl, rfl, rfl⟩⟩
    · simp [Value.cells] at hcs
      obtain ⟨rfl, rfl, rfl⟩ := hcs
      exact ⟨zs, .inr ⟨_, rfl, hl, hm, by simpa using hz, hcell, hwz⟩⟩
  obtain ⟨a1, len1, cap1, rfl⟩ := okWide_slice Try.underlying34 (hval 1 34 v1 rfl rfl)
  have k1 := h1
  have lt1 : ∀ x ∈ p1, x.block < W.heap.size := by obtain ⟨m, hm⟩ := k1; exact DataW.trod_lt m _ _ _ hm
  obtain ⟨z1, w1⟩ : ∃ zs, IsRow .i64 W a1 len1 cap1 zs := by
    obtain ⟨fuel, hf⟩ := h1
    rcases open_ints Try.underlying34 Try.underlying3 (by kernel_rfl) hf with ⟨hcs, _⟩ | ⟨x, l, c, zs, hcs, _, hl, hm, hz, _, hcell, hwz⟩
    · simp [Value.cells] at hcs
      obtain ⟨rfl, rfl, rfl⟩ := hcs
      exact ⟨[], .inl ⟨rfl, rfl, rfl, rfl⟩⟩
    · simp [Value.cells] at hcs
      obtain ⟨rfl, rfl, rfl⟩ := hcs
      exact ⟨zs, .inr ⟨_, rfl, hl, hm, by simpa using hz, hcell, hwz⟩⟩
  obtain ⟨a2, rfl, rfl, rfl, w2⟩ := open_string Try.underlying9 (hval 2 9 v2 rfl rfl) h2
  obtain ⟨a3, rfl, rfl, rfl, w3⟩ := open_string Try.underlying9 (hval 3 9 v3 rfl rfl) h3
  clear hA0 hval0
  refine (walk a0 len0 cap0 z0 a1 len1 cap1 z1 a2 a3 W w0 w1 w2 w3).mono fun e W' ⟨he, bel⟩ => ?_
  subst he
  exact ⟨_, rfl, _, _, _, [], _, [], hW', trodAll_mk1 (shut_bool Try.underlying4 _), (trodAll_cons_mk (Below.trod laidOut (by kernel_rfl) (of_decide_eq_true (by kernel_rfl)) k0 bel lt0) (trodAll_cons_mk (Below.trod laidOut (by kernel_rfl) (of_decide_eq_true (by kernel_rfl)) k1 bel lt1) (trodAll_cons_mk (shut_string Try.underlying9 w2) (trodAll_cons_mk (shut_string Try.underlying9 w3) trodAll_mk0)))), rfl, bel.frame _, fun h => by cases h⟩

theorem over : Rows.codecDelimitedRow.holds Try.pinned (OpenSpec.ofChange Rows.codecDelimitedSpec) :=
  OpenClaim.holds_of_wide 10 Try.f10 rfl rfl rfl rfl rfl rfl rfl ⟨rfl, rfl, rfl, rfl, rfl⟩ rfl rfl rfl rfl rfl (by kernel_rfl) Try.func10 (by kernel_rfl)
    (of_decide_eq_true (by kernel_rfl)) (by unfold Func.isWrapper; first | (rw [if_pos (by decide +kernel)]; kernel_rfl) | (rw [if_neg (by decide +kernel)]; exact ⟨rfl, rfl⟩))
    (fun os started H enc _ => lifted os started H enc)

theorem proved : Rows.CodecDelimitedSaid := over
end Go.Proofs.Ytdnjjppidolnbaa.codecDelimited

