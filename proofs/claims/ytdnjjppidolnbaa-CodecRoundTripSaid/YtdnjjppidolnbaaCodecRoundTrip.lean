/-
  Reading the encoding of an integer, a text or a list, followed by anything, yields the value and the size of the encoding (lists of up to 40 integers, texts of up to 400 bytes): the law CodecRoundTrip returns true at every input, and leaves its arguments as they were. No condition.
-/
import Derived.Test.YtdnjjppidolnbaaRound
import Derived.Test.YtdnjjppidolnbaaAwake
import Derived.Test.YtdnjjppidolnbaaLawKit
import Derived.ProofKit
import Derived.OpenShut
import Derived.ShutString
namespace Go.Proofs.Ytdnjjppidolnbaa
open Go.RowKit

theorem listL_ok {zs : List Int} (h : zs.length ≤ 20000) (hr : AllR zs) : listL zs = encList zs ∧ listE zs = 0 := by
  unfold listL listE
  have hn : ¬ 20000 < zs.length := by omega
  rw [if_neg hn, if_neg hn, if_pos hr, if_pos hr]
  exact ⟨rfl, rfl⟩
theorem append_list (a b : ByteArray) : (a ++ b).data.toList = a.data.toList ++ b.data.toList := by simp
theorem append_size (a b : ByteArray) : (a ++ b).size = a.size + b.size := by simp
theorem strOf_self (t : ByteArray) : strOf t.data.toList = t := by simp [strOf]
theorem encText_length_le (t : List UInt8) : (encText t).length ≤ 2 * t.length + 2 := by
  have := escText_length t
  simp [encText]
  omega
theorem encList_length_le (zs : List Int) (h : AllR zs) : (encList zs).length ≤ 9 * zs.length + 1 := by
  have := flat_length zs h
  simp [encList] at this ⊢
  omega

set_option maxRecDepth 100000 in
set_option maxHeartbeats 8000000 in
theorem codecRoundTrip_walk (ad : Option Addr) (cap : Nat) (zs : List Int) (t rest : ByteArray) (w : World) (hI : IntsA w.heap.size w ad zs) (hz : zs.length ≤ 40) (ht : t.size ≤ 400) (hr : rest.size ≤ 400) :
    Calls Try.prog 7 #[.slice ad zs.length cap, .string t, .string rest] w fun e w' => e = .returned (.bool true) ∧ Below w.heap.size w w' := by
  have hb0 : Below w.heap.size w (w.alloc (.cells #[.slice ad zs.length cap] 34)) := (Below.refl _ w).alloc (Nat.le_refl _) _
  have ht' : (t.size : Int) ≤ 400 := by omega
  have hr' : (rest.size : Int) ≤ 400 := by omega
  have HI := Lib.hid hI
  clear hI
  go_enter Try.func7, Try.ntmps7
  go_wp2_with fail
  refine (great1_no w.heap.size zs.length cap ad _ (by simp) hz).mono ?_
  rintro e w1 ⟨rfl, rfl⟩
  go_wp2
  go_loopw [40] (fun i wr => ∃ k : Nat, k ≤ zs.length ∧ i = .int .i64 k ∧ Hid (AllR (zs.take k)) ∧ Below w.heap.size w wr) (fun i _ => zs.length - (intOf i).toNat)
  case atStart => exact ⟨0, Nat.zero_le _, rfl, Lib.hid (by intro n hn; simp at hn), hb0⟩
  case round =>
    obtain ⟨k, hk, rfl, HA, hb⟩ := hrel
    have hsz := hb.size
    by_cases hlt : k < zs.length
    · obtain ⟨b, off, rfl, hbb, hcz⟩ := HI.out.some_ (by omega)
      have cx0 : wr.cell? ⟨b, off + k, none⟩ = some (.int .i64 (zs[k]?.getD 0)) := (hb.cell (p := ⟨b, off + k, none⟩) hbb).trans (hcz k hlt)
      have hs0 := take_snocZ zs k hlt
      obtain ⟨x, cx, HS⟩ : ∃ x, wr.cell? ⟨b, off + k, none⟩ = some (.int .i64 x) ∧ Hid (zs.take (k + 1) = zs.take k ++ [x]) := ⟨_, cx0, Lib.hid hs0⟩
      clear cx0 hs0 hcz
      by_cases hn : InR x
      · have hri := int_any x wr
        unfold intL intE at hri
        rw [if_pos hn, if_pos hn] at hri
        have HRI := Lib.hid hri
        have HN := Lib.hid hn
        have hel := encInt_length_le hn
        clear hri hn
        go_wp2_with fail
        refine HRI.out.mono ?_
        rintro e w1 ⟨rfl, b1⟩
        have c1 := hb.trans (b1.mono hsz)
        have s1 := c1.size
        have hsx : (strOf (encInt x)).size ≤ 9 := by rw [strOf_size]; exact hel
        have hrx := readInt_any (strOf (encInt x) ++ rest) (by rw [append_size]; omega) w1
        rw [append_list, strOf_toList, decInt_encInt x HN.out] at hrx
        simp only [Rd.val, Rd.len, Rd.e] at hrx
        rw [← strOf_size] at hrx
        have HRX := Lib.hid hrx
        clear hrx
        go_wp2_with fail
        refine HRX.out.mono ?_
        rintro e w2 ⟨rfl, b2⟩
        go_wp2
        go_roundw
        case rel =>
          refine ⟨k + 1, by omega, by go_num, Lib.hid ?_, c1.trans (b2.mono s1)⟩
          rw [HS.out]
          intro y hy
          rcases List.mem_append.1 hy with h | h
          · exact HA.out y h
          · simp only [List.mem_singleton] at h; rw [h]; exact HN.out
        case measure => simp [intOf]; omega
      · have hri := int_any x wr
        unfold intL intE at hri
        rw [if_neg hn, if_neg hn, show strOf [] = ⟨#[]⟩ from rfl] at hri
        have HRI := Lib.hid hri
        clear hri
        unfold InR at hn
        by_cases hx1 : x < -4611686018427387904
        · clear hn
          go_wp2_with fail
          refine HRI.out.mono ?_
          rintro e w1 ⟨rfl, b1⟩
          have c1 := hb.trans (b1.mono hsz)
          have s1 := c1.size
          go_wp2_with fail
          refine (awake_any _).mono ?_
          rintro e w2 ⟨rfl, b2⟩
          go_wp2
          go_ret
          exact ⟨rfl, c1.trans (b2.mono s1)⟩
        · have hx2 : 4611686018427387904 < x := by omega
          clear hn
          go_wp2_with fail
          refine HRI.out.mono ?_
          rintro e w1 ⟨rfl, b1⟩
          have c1 := hb.trans (b1.mono hsz)
          have s1 := c1.size
          go_wp2_with fail
          refine (awake_any _).mono ?_
          rintro e w2 ⟨rfl, b2⟩
          go_wp2
          go_ret
          exact ⟨rfl, c1.trans (b2.mono s1)⟩
    · have hall := HA.out
      rw [List.take_of_length_le (by omega)] at hall
      have HALL := Lib.hid hall
      clear hall
      have htx := text_any t wr (by unfold maxLen; omega)
      have htl : t.data.toList.length ≤ 400 := by simpa using ht
      unfold textL textE at htx
      rw [if_pos (by omega), if_pos (by omega)] at htx
      have htz := encText_length_le t.data.toList
      have HTX := Lib.hid htx
      clear htx
      have hst : (strOf (encText t.data.toList)).size ≤ 802 := by rw [strOf_size]; omega
      go_wp2_with fail
      refine HTX.out.mono ?_
      rintro e w1 ⟨rfl, b1⟩
      have c1 := hb.trans (b1.mono hsz)
      have s1 := c1.size
      have hrt := readText_any (strOf (encText t.data.toList) ++ rest) (by rw [append_size]; omega) w1
      unfold readTextV at hrt
      rw [append_list, strOf_toList, decT_encText _ _ _ _ (by simp only [List.length_nil]; omega)] at hrt
      simp only [Rd.val, Rd.len, Rd.e, List.nil_append, Nat.zero_add] at hrt
      rw [← strOf_size, strOf_self] at hrt
      have HRT := Lib.hid hrt
      clear hrt htz htl
      go_wp2_with fail
      refine HRT.out.mono ?_
      rintro e w2 ⟨rfl, b2⟩
      have c2 := c1.trans (b2.mono s1)
      have s2 := c2.size
      have hli := list_anyA ad cap zs w2 ((HI.out.below c2).mono s2) (by omega)
      rw [(listL_ok (by omega) HALL.out).1, (listL_ok (by omega) HALL.out).2] at hli
      have HLI := Lib.hid hli
      clear hli
      have hel := encList_length_le zs HALL.out
      have hsl : (strOf (encList zs)).size ≤ 361 := by rw [strOf_size]; omega
      go_wp2_with fail
      refine HLI.out.mono ?_
      rintro e w3 ⟨rfl, b3⟩
      have c3 := c2.trans (b3.mono s2)
      have s3 := c3.size
      have hrl := readList_any (strOf (encList zs) ++ rest) (by rw [append_size]; omega) w3
      unfold ReadsL decL at hrl
      rw [append_list, strOf_toList, decLf_encList _ _ _ _ _ HALL.out (by omega) (by unfold maxL; simp only [List.length_nil]; omega)] at hrl
      simp only [Rd.val, Rd.len, Rd.e, List.nil_append, Nat.zero_add] at hrl
      rw [← strOf_size] at hrl
      have HRL := Lib.hid hrl
      clear hrl hel
      go_wp2_with fail
      refine HRL.out.mono ?_
      rintro e w4 ⟨ad1, cap1, rfl, hI1, b4⟩
      have c4 := c3.trans (b4.mono s3)
      have s4 := c4.size
      have hsame := same_any w.heap.size w4.heap.size ad ad1 cap cap1 _ _ w4 (HI.out.below c4) hI1 (by omega) (by omega)
      simp only [decide_true] at hsame
      have HSM := Lib.hid hsame
      clear hsame hI1
      go_wp2_with fail
      refine HSM.out.mono ?_
      rintro e w5 ⟨rfl, b5⟩
      have c5 := c4.trans (b5.mono s4)
      have s5 := c5.size
      go_wp2_with fail
      refine (awake_any _).mono ?_
      rintro e w6 ⟨rfl, b6⟩
      go_wp2
      go_ret
      exact ⟨rfl, c5.trans (b6.mono s5)⟩

set_option maxRecDepth 100000 in
set_option maxHeartbeats 4000000 in
theorem codecRoundTrip_great (ad : Option Addr) (cap : Nat) (zs : List Int) (t rest : ByteArray) (w : World) (hz : zs.length ≤ 9223372036854775807) (ht : t.size ≤ 9223372036854775807) (hr : rest.size ≤ 9223372036854775807) (hbig : 40 < zs.length ∨ 400 < t.size ∨ 400 < rest.size) :
    Calls Try.prog 7 #[.slice ad zs.length cap, .string t, .string rest] w fun e w' => e = .returned (.bool true) ∧ Below w.heap.size w w' := by
  have hb0 : Below w.heap.size w (w.alloc (.cells #[.slice ad zs.length cap] 34)) := (Below.refl _ w).alloc (Nat.le_refl _) _
  by_cases h1 : 40 < zs.length
  · go_enter Try.func7, Try.ntmps7
    go_wp2_with fail
    refine (great1_yes w.heap.size zs.length cap ad _ (by simp) h1).mono ?_
    rintro e w1 ⟨rfl, rfl⟩
    go_wp2_with fail
    refine (awake_any _).mono ?_
    rintro e w2 ⟨rfl, b2⟩
    go_wp2
    go_ret
    exact ⟨rfl, hb0.trans (b2.mono (by simp))⟩
  · by_cases h2 : 400 < t.size
    · have h2' : 400 < (t.size : Int) := by omega
      go_enter Try.func7, Try.ntmps7
      go_wp2_with fail
      refine (great1_no w.heap.size zs.length cap ad _ (by simp) (by omega)).mono ?_
      rintro e w1 ⟨rfl, rfl⟩
      go_wp2_with fail
      refine (awake_any _).mono ?_
      rintro e w2 ⟨rfl, b2⟩
      go_wp2
      go_ret
      exact ⟨rfl, hb0.trans (b2.mono (by simp))⟩
    · have h2' : (t.size : Int) ≤ 400 := by omega
      have h3' : 400 < (rest.size : Int) := by omega
      go_enter Try.func7, Try.ntmps7
      go_wp2_with fail
      refine (great1_no w.heap.size zs.length cap ad _ (by simp) (by omega)).mono ?_
      rintro e w1 ⟨rfl, rfl⟩
      go_wp2_with fail
      refine (awake_any _).mono ?_
      rintro e w2 ⟨rfl, b2⟩
      go_wp2
      go_ret
      exact ⟨rfl, hb0.trans (b2.mono (by simp))⟩

theorem codecRoundTrip_all (ad : Option Addr) (cap : Nat) (zs : List Int) (t rest : ByteArray) (w : World) (hI : IntsA w.heap.size w ad zs) (hz : zs.length ≤ 9223372036854775807) (ht : t.size ≤ 9223372036854775807) (hr : rest.size ≤ 9223372036854775807) :
    Calls Try.prog 7 #[.slice ad zs.length cap, .string t, .string rest] w fun e w' => e = .returned (.bool true) ∧ Below w.heap.size w w' := by
  by_cases h : zs.length ≤ 40 ∧ t.size ≤ 400 ∧ rest.size ≤ 400
  · exact codecRoundTrip_walk ad cap zs t rest w hI h.1 h.2.1 h.2.2
  · exact codecRoundTrip_great ad cap zs t rest w hz ht hr (by omega)

end Go.Proofs.Ytdnjjppidolnbaa
namespace Go.Proofs.Ytdnjjppidolnbaa.codecRoundTrip
open Go.ChangeShapes Go.WideShapes Go.ChangeAt Go.RowKit
open Go.ChangeMaps (open_string shut_string)
set_option linter.unusedVariables false

theorem own : ownKnob Try.prog.godebug = none := by kernel_rfl
theorem laidOut : laidOutB Try.prog = true := by kernel_rfl

def IsRow (k : IntKind) (w : World) (a : Option Addr) (len cap : Nat) (zs : List Int) : Prop :=
  (a = none ∧ len = 0 ∧ cap = 0 ∧ zs = []) ∨
  ∃ x, a = some x ∧ len ≤ cap ∧ cap ≤ maxLen ∧ zs.length = cap ∧ (∀ i, i < zs.length → w.cell? (x.add i) = some (.int k (zs.getD i 0))) ∧ ∀ n ∈ zs, (Lit.int k n).wf = true

theorem walk (a0 : Option Addr) (len0 cap0 : Nat) (z0 : List Int) (a1 : ByteArray) (a2 : ByteArray) (w : World) (w0 : IsRow .i64 w a0 len0 cap0 z0) (w1 : a1.size ≤ maxLen) (w2 : a2.size ≤ maxLen) :
    Calls Try.prog 7 #[.slice a0 len0 cap0, .string a1, .string a2] w fun e w' => e = .returned (.bool true) ∧ Below w.heap.size w w' := by
  obtain ⟨zs, rfl, hz, hI, _⟩ := rowInts (by unfold IsRow at w0; exact w0); exact codecRoundTrip_all a0 cap0 zs a1 a2 w hI hz (by unfold maxLen at w1; exact w1) (by unfold maxLen at w2; exact w2)

set_option maxRecDepth 100000 in
theorem lifted (os : Os) (started : os.Started) (H : Type) (enc : TypeId × Value → H) :
    ReturnsInHanded {} Try.checked os 7 .any (Rows.codecRoundTripSpec.pre6 enc Try.prog Try.f7 Rows.codecRoundTripRow.domain false) (Rows.codecRoundTripSpec.post enc Try.prog Try.f7 false true false false) := by
  refine returnsInHanded_of_change (C := Try.checked) own started (by kernel_rfl) Try.func7
    (ChangeSpec.witness6 (enc := enc) (C := Try.checked) false ⟨#[], #[.slice none 0 0, .string ByteArray.empty, .string ByteArray.empty], []⟩ 8 (by kernel_rfl) (by kernel_rfl) (by kernel_rfl) (by kernel_rfl)) ?_
  intro W base args ds gs before hval0 hW hcnd _
  have hval : ∀ (j : Nat) t v, Try.f7.params[j]? = some t → args[j]? = some v → Value.okWide Try.prog W .any base t v := hval0
  have hW' := hW
  obtain ⟨p, q, hA0, hV, rfl, hfz, hnd⟩ := hW
  have hA : DataW.TrodAll enc Try.prog W 0 (fun _ => true) true Try.f7.params.toList args.toList ds p := hA0
  rw [Try.params7] at hA hval
  obtain ⟨v0, vs0, d0, ds0, p0, q0, hargs, rfl, rfl, h0, r0⟩ := trodAll_cons hA
  obtain ⟨v1, vs1, d1, ds1, p1, q1, rfl, rfl, rfl, h1, r1⟩ := trodAll_cons r0
  obtain ⟨v2, vs2, d2, ds2, p2, q2, rfl, rfl, rfl, h2, r2⟩ := trodAll_cons r1
  obtain ⟨rfl, rfl, rfl⟩ := trodAll_nil r2
  obtain rfl : args = #[v0, v1, v2] := by cases args; simp_all
  obtain ⟨rfl, rfl⟩ := trodVars_none hV
  obtain ⟨a0, len0, cap0, rfl⟩ := okWide_slice Try.underlying34 (hval 0 34 v0 rfl rfl)
  have k0 := h0
  have lt0 : ∀ x ∈ p0, x.block < W.heap.size := by obtain ⟨m, hm⟩ := k0; exact DataW.trod_lt m _ _ _ hm
  obtain ⟨z0, w0⟩ : ∃ zs, IsRow .i64 W a0 len0 cap0 zs := by
    obtain ⟨fuel, hf⟩ := h0
    rcases open_ints Try.underlying34 Try.underlying3 (by kernel_rfl) hf with ⟨hcs, _⟩ | ⟨x, l, c, zs, hcs, _, hl, hm, hz, _, hcell, hwz⟩
    · simp [Value.cells] at hcs
      obtain ⟨rfl, rfl, rfl⟩ := hcs
      exact ⟨[], .inl ⟨rfl, rfl, rfl, rfl⟩⟩
    · simp [Value.cells] at hcs
      obtain ⟨rfl, rfl, rfl⟩ := hcs
      exact ⟨zs, .inr ⟨_, rfl, hl, hm, by simpa using hz, hcell, hwz⟩⟩
  obtain ⟨a1, rfl, rfl, rfl, w1⟩ := open_string Try.underlying9 (hval 1 9 v1 rfl rfl) h1
  obtain ⟨a2, rfl, rfl, rfl, w2⟩ := open_string Try.underlying9 (hval 2 9 v2 rfl rfl) h2
  clear hA0 hval0
  refine (walk a0 len0 cap0 z0 a1 a2 W w0 w1 w2).mono fun e W' ⟨he, bel⟩ => ?_
  subst he
  exact ⟨_, rfl, _, _, _, [], _, [], hW', trodAll_mk1 (shut_bool Try.underlying4 _), (trodAll_cons_mk (Below.trod laidOut (by kernel_rfl) (of_decide_eq_true (by kernel_rfl)) k0 bel lt0) (trodAll_cons_mk (shut_string Try.underlying9 w1) (trodAll_cons_mk (shut_string Try.underlying9 w2) trodAll_mk0))), rfl, bel.frame _, fun h => by cases h⟩

theorem over : Rows.codecRoundTripRow.holds Try.pinned (OpenSpec.ofChange Rows.codecRoundTripSpec) :=
  OpenClaim.holds_of_wide 7 Try.f7 rfl rfl rfl rfl rfl rfl rfl ⟨rfl, rfl, rfl, rfl, rfl⟩ rfl rfl rfl rfl rfl (by kernel_rfl) Try.func7 (by kernel_rfl)
    (of_decide_eq_true (by kernel_rfl)) (by unfold Func.isWrapper; first | (rw [if_pos (by decide +kernel)]; kernel_rfl) | (rw [if_neg (by decide +kernel)]; exact ⟨rfl, rfl⟩))
    (fun os started H enc _ => lifted os started H enc)

theorem proved : Rows.CodecRoundTripSaid := over
end Go.Proofs.Ytdnjjppidolnbaa.codecRoundTrip

