/-
  A string has another checksum if one of its bytes is changed: the law ChecksumByte returns true at every input, and leaves its arguments as they were. No condition.
-/
import Derived.Test.YtoffacjefnmmmaaChanged
import Derived.ProofKit
import Derived.OpenShut
import Derived.ShutString
namespace Go.Proofs.Ytoffacjefnmmmaa
open Go.RowKit

set_option maxRecDepth 100000 in
set_option maxHeartbeats 2000000 in
theorem checksumByte_main (s : ByteArray) (at_ : Nat) (c : UInt8) (hat : at_ ≤ 65535) (h0 : 1 ≤ s.size) (h1 : s.size ≤ 500) (hc : c ≠ 0) (w : World) :
    Calls Try.prog 7 #[.string s, .int .u16 (at_ : Int), .int .u8 (c.toNat : Int)] w fun e w' => e = .returned (.bool true) ∧ Below w.heap.size w w' := by
  have hz : ((s.size : Int) == 0) = false := by rw [beq_eq_false_iff_ne]; omega
  have hcb : ((c.toNat : Int) == 0) = false := by
    rw [beq_eq_false_iff_ne]
    intro e
    exact hc (UInt8.toNat_inj.1 (by simpa using e))
  have hl : s.data.toList.length = s.size := by simp
  have hlt : at_ % s.size < s.data.toList.length := by rw [hl]; exact Nat.mod_lt _ (by omega)
  have hx := List.getElem?_eq_getElem hlt
  have hch := changed_any s (at_ % s.size) _ c hx
  rw [Int.natCast_emod] at hch
  have hne := sumN_set_ne s.data.toList (at_ % s.size) (s.data.toList[at_ % s.size] ^^^ c) hlt (xor_ne hc)
  obtain ⟨y, hy⟩ : ∃ y, strOf (s.data.toList.set (at_ % s.size) (s.data.toList[at_ % s.size] ^^^ c)) = y := ⟨_, rfl⟩
  have hys : y.size = s.size := by rw [← hy, strOf_size, List.length_set, hl]
  have hyl : y.data.toList = s.data.toList.set (at_ % s.size) (s.data.toList[at_ % s.size] ^^^ c) := by rw [← hy, strOf_toList]
  rw [hy] at hch
  rw [← hyl] at hne
  have hb : ((sumN s.data.toList : Int) != (sumN y.data.toList : Int)) = true := by
    rw [bne_iff_ne]
    omega
  have hys2 : y.size ≤ 9223372036854775807 := by omega
  have H2 := Lib.hid hch
  have hs : s.size ≤ 9223372036854775807 := by omega
  have HS := Lib.hid hs
  have HY := Lib.hid hys2
  have q0 : (0 : Int) ≤ (at_ : Int) % (s.size : Int) := Int.emod_nonneg _ (by omega)
  have q1 : (at_ : Int) % (s.size : Int) < (s.size : Int) := Int.emod_lt_of_pos _ (by omega)
  clear hl hlt hx hch hne hy hys hyl hys2 hc hs
  go_enter Try.func7, Try.ntmps7
  go_wp2_with fail
  have q2 : (at_ : Int).tmod (s.size : Int) = (at_ : Int) % (s.size : Int) := Int.tmod_eq_emod_of_nonneg (by omega)
  have z1 : ¬ (s.size : Int) = 0 := by omega
  have z2 : ¬ s.size = 0 := by omega
  have q4 : IntKind.i64.wrap (at_ : Int) = (at_ : Int) := IntWalk.i64_in _ (by omega)
  go_region_held3 (fun w' => Below w.heap.size w w' ∧ w.heap.size ≤ w'.heap.size)
    (first | exact ⟨(Below.refl _ _).drew, Nat.le_refl _⟩ | assumption | exact keepB (by assumption) (by assumption))
    (first | (go_at_call 25; (with_reducible refine (H2.out _).mono ?_); rintro e w4 ⟨rfl, b4⟩) | (go_at_call 18; refine (sum_any _ (by first | exact HS.out | exact HY.out) _).mono ?_; rintro e w4 ⟨rfl, b4⟩) | (go_at_call 13; refine (awake_any _).mono ?_; rintro e w5 ⟨rfl, b5⟩))
  have hb5 : Below w.heap.size w w5 := keepB_below (by assumption)
  clear q2 q4
  go_wp2
  go_ret
  exact ⟨rfl, hb5⟩

set_option maxRecDepth 100000 in
set_option maxHeartbeats 2000000 in
theorem checksumByte_walk (s : ByteArray) (at_ : Nat) (c : UInt8) (hat : at_ ≤ 65535) (hs : s.size ≤ 9223372036854775807) (w : World) :
    Calls Try.prog 7 #[.string s, .int .u16 (at_ : Int), .int .u8 (c.toNat : Int)] w fun e w' => e = .returned (.bool true) ∧ Below w.heap.size w w' := by
  by_cases h1 : 500 < s.size
  · have hz : ((s.size : Int) == 0) = false := by rw [beq_eq_false_iff_ne]; omega
    go_enter Try.func7, Try.ntmps7
    go_wp2_with fail
    refine (awake_any _).mono ?_
    rintro e w1 ⟨rfl, b1⟩
    go_wp2
    go_ret
    exact ⟨rfl, b1⟩
  · by_cases h0 : s.size = 0
    · have hz : ((s.size : Int) == 0) = true := by rw [h0]; rfl
      clear h0
      go_enter Try.func7, Try.ntmps7
      go_wp2_with fail
      refine (awake_any _).mono ?_
      rintro e w1 ⟨rfl, b1⟩
      go_wp2
      go_ret
      exact ⟨rfl, b1⟩
    · by_cases hc : c = 0
      · have hz : ((s.size : Int) == 0) = false := by rw [beq_eq_false_iff_ne]; omega
        have hcb : ((c.toNat : Int) == 0) = true := by rw [hc]; rfl
        clear hc
        go_enter Try.func7, Try.ntmps7
        go_wp2_with fail
        refine (awake_any _).mono ?_
        rintro e w1 ⟨rfl, b1⟩
        go_wp2
        go_ret
        exact ⟨rfl, b1⟩
      · exact checksumByte_main s at_ c hat (by omega) (by omega) hc w

end Go.Proofs.Ytoffacjefnmmmaa
namespace Go.Proofs.Ytoffacjefnmmmaa.checksumByte
open Go.ChangeShapes Go.WideShapes Go.ChangeAt Go.RowKit
open Go.ChangeMaps (open_string shut_string)
set_option linter.unusedVariables false

theorem own : ownKnob Try.prog.godebug = none := by kernel_rfl
theorem laidOut : laidOutB Try.prog = true := by kernel_rfl

theorem walk (a0 : ByteArray) (a1 : Int) (a2 : Int) (w0 : a0.size ≤ maxLen) (w1 : (Lit.int .u16 a1).wf = true) (w2 : (Lit.int .u8 a2).wf = true) (w : World) :
    Calls Try.prog 7 #[.string a0, .int .u16 a1, .int .u8 a2] w fun e w' => e = .returned (.bool true) ∧ Below w.heap.size w w' := by
  obtain ⟨m, rfl, hm⟩ := wf_u16 w1; obtain ⟨c, rfl⟩ := wf_u8 w2; exact checksumByte_walk a0 m c hm (size_in w0) w

set_option maxRecDepth 100000 in
theorem lifted (os : Os) (started : os.Started) (H : Type) (enc : TypeId × Value → H) :
    ReturnsInHanded {} Try.checked os 7 .any (Rows.checksumByteSpec.pre6 enc Try.prog Try.f7 Rows.checksumByteRow.domain false) (Rows.checksumByteSpec.post enc Try.prog Try.f7 false true false false) := by
  refine returnsInHanded_of_change (C := Try.checked) own started (by kernel_rfl) Try.func7
    (ChangeSpec.witness6 (enc := enc) (C := Try.checked) false ⟨#[], #[.string ByteArray.empty, .int .u16 0, .int .u8 0], []⟩ 8 (by kernel_rfl) (by kernel_rfl) (by kernel_rfl) (by kernel_rfl)) ?_
  intro W base args ds gs before hval0 hW hcnd _
  have hval : ∀ (j : Nat) t v, Try.f7.params[j]? = some t → args[j]? = some v → Value.okWide Try.prog W .any base t v := hval0
  have hW' := hW
  obtain ⟨p, q, hA0, hV, rfl, hfz, hnd⟩ := hW
  have hA : DataW.TrodAll enc Try.prog W 0 (fun _ => true) true Try.f7.params.toList args.toList ds p := hA0
  rw [Try.params7] at hA hval
  obtain ⟨v0, vs0, d0, ds0, p0, q0, hargs, rfl, rfl, h0, r0⟩ := trodAll_cons hA
  obtain ⟨v1, vs1, d1, ds1, p1, q1, rfl, rfl, rfl, h1, r1⟩ := trodAll_cons r0
  obtain ⟨v2, vs2, d2, ds2, p2, q2, rfl, rfl, rfl, h2, r2⟩ := trodAll_cons r1
  obtain ⟨rfl, rfl, rfl⟩ := trodAll_nil r2
  obtain rfl : args = #[v0, v1, v2] := by cases args; simp_all
  obtain ⟨rfl, rfl⟩ := trodVars_none hV
  obtain ⟨a0, rfl, rfl, rfl, w0⟩ := open_string Try.underlying9 (hval 0 9 v0 rfl rfl) h0
  obtain ⟨a1, rfl, rfl, rfl, w1⟩ := open_int Try.underlying37 (hval 1 37 v1 rfl rfl) h1
  obtain ⟨a2, rfl, rfl, rfl, w2⟩ := open_int Try.underlying5 (hval 2 5 v2 rfl rfl) h2
  clear hA0 hval0
  simp only [List.append_nil] at hW'
  refine (walk a0 a1 a2 w0 w1 w2 W).mono fun e W' ⟨he, hg⟩ => ?_
  subst he
  exact ⟨_, rfl, _, _, _, [], [], [], hW', (trodAll_cons_mk (shut_bool Try.underlying4 _) trodAll_mk0), (trodAll_cons_mk (shut_string Try.underlying9 w0) (trodAll_cons_mk (shut_int Try.underlying37 w1) (trodAll_cons_mk (shut_int Try.underlying5 w2) trodAll_mk0))), rfl, hg.frame _, fun h => by cases h⟩

theorem over : Rows.checksumByteRow.holds Try.pinned (OpenSpec.ofChange Rows.checksumByteSpec) :=
  OpenClaim.holds_of_wide 7 Try.f7 rfl rfl rfl rfl rfl rfl rfl ⟨rfl, rfl, rfl, rfl, rfl⟩ rfl rfl rfl rfl rfl (by kernel_rfl) Try.func7 (by kernel_rfl)
    (of_decide_eq_true (by kernel_rfl)) (by unfold Func.isWrapper; first | (rw [if_pos (by decide +kernel)]; kernel_rfl) | (rw [if_neg (by decide +kernel)]; exact ⟨rfl, rfl⟩))
    (fun os started H enc _ => lifted os started H enc)

theorem proved : Rows.ChecksumByteSaid :=
  over
end Go.Proofs.Ytoffacjefnmmmaa.checksumByte

