/-
  For all strings Update and Combine of checksum return the checksum of the concatenation: the law ChecksumConcatenation returns true at every input, and leaves its arguments as they were. No condition.
-/
import Derived.Test.YtoffacjefnmmmaaAwake2
import Derived.ProofKit
import Derived.OpenShut
import Derived.ShutString
namespace Go.Proofs.Ytoffacjefnmmmaa
open Go.RowKit

theorem sumN_append (x y : List UInt8) : updV (sumN x : Int) y = (sumN (x ++ y) : Int) ∧ updE (sumN x : Int) = 0 := by
  have h := isSum_csOf (sum_ok x)
  unfold updV updE
  have h' : IsSum (sumN x : Int) := h
  rw [if_pos h', if_pos h']
  refine ⟨?_, rfl⟩
  have e : ((sumN x : Int).toNat % 65536, (sumN x : Int).toNat / 65536) = adl (1, 0) x := by
    rw [Int.toNat_natCast]
    exact Prod.ext (csOf_mod (sum_ok x)) (csOf_div (sum_ok x))
  rw [e]
  unfold sumN
  rw [adl_append]
theorem toT_sum (x : List UInt8) : toT (sumN x : Int) = adl (1, 0) x := by
  unfold toT
  rw [Int.toNat_natCast]
  exact Prod.ext (csOf_mod (sum_ok x)) (csOf_div (sum_ok x))
theorem combV_sum (x y : List UInt8) (h : y.length ≤ 1099511627776) : combV (sumN x : Int) (sumN y : Int) (y.length : Int) = (sumN (x ++ y) : Int) ∧ combE (sumN x : Int) (sumN y : Int) (y.length : Int) = 0 := by
  have hk : CombOk (sumN x : Int) (sumN y : Int) (y.length : Int) := ⟨isSum_csOf (sum_ok x), isSum_csOf (sum_ok y), by omega, by omega⟩
  unfold combV combE
  rw [if_pos hk, if_pos hk, toT_sum, toT_sum, Int.toNat_natCast, comb_adl]
  exact ⟨rfl, rfl⟩
theorem sumN_bound (x : List UInt8) : (-9223372036854775808 : Int) ≤ (sumN x : Int) ∧ (sumN x : Int) ≤ 9223372036854775807 := by
  have h : sumN x < 4294967296 := csOf_lt (sum_ok x)
  omega

set_option maxRecDepth 100000 in
set_option maxHeartbeats 2000000 in
theorem checksumConcatenation_walk (x y : ByteArray) (hx : x.size ≤ 9223372036854775807) (hy : y.size ≤ 9223372036854775807) (w : World) :
    Calls Try.prog 6 #[.string x, .string y] w fun e w' => e = .returned (.bool true) ∧ Below w.heap.size w w' := by
  by_cases h1 : 500 < x.size
  · go_enter Try.func6, Try.ntmps6
    go_wp2_with fail
    refine (awake_any _).mono ?_
    rintro e w1 ⟨rfl, b1⟩
    go_wp2
    go_ret
    exact ⟨rfl, b1⟩
  · by_cases h2 : 500 < y.size
    · go_enter Try.func6, Try.ntmps6
      go_wp2_with fail
      refine (awake_any _).mono ?_
      rintro e w1 ⟨rfl, b1⟩
      go_wp2
      go_ret
      exact ⟨rfl, b1⟩
    · have hyl : y.data.toList.length = y.size := by simp
      have hxb := sumN_bound x.data.toList
      have hyb := sumN_bound y.data.toList
      have e1 := sumN_append x.data.toList y.data.toList
      have e2 := combV_sum x.data.toList y.data.toList (by omega)
      have h1' := update_any (sumN x.data.toList : Int) hxb.1 hxb.2 y hy
      have h2' := combine_any (sumN x.data.toList : Int) (sumN y.data.toList : Int) (y.data.toList.length : Int) hxb hyb
      rw [e1.1, e1.2] at h1'
      rw [e2.1, e2.2, hyl] at h2'
      have h3' := sum_any (x ++ y) (by rw [ByteArray.size_append]; omega)
      rw [show (x ++ y).data.toList = x.data.toList ++ y.data.toList from by simp] at h3'
      have H1 := Lib.hid h1'
      have H2 := Lib.hid h2'
      have H3 := Lib.hid h3'
      have H4 := Lib.hid (sum_any x hx)
      have H5 := Lib.hid (sum_any y hy)
      generalize (sumN x.data.toList : Int) = v1 at H1 H2 H4
      generalize (sumN y.data.toList : Int) = v2 at H2 H5
      generalize (sumN (x.data.toList ++ y.data.toList) : Int) = v3 at H1 H2 H3
      clear hyl hxb hyb e1 e2 h1' h2' h3'
      go_enter Try.func6, Try.ntmps6
      go_wp2_with fail
      refine (H4.out _).mono ?_
      rintro e w1 ⟨rfl, b1⟩
      have s1 := b1.size
      go_wp2_with fail
      refine (H1.out _).mono ?_
      rintro e w2 ⟨rfl, b2⟩
      have c2 := b1.trans (b2.mono s1)
      have s2 := c2.size
      go_wp2_with fail
      refine (H4.out _).mono ?_
      rintro e w3 ⟨rfl, b3⟩
      have c3 := c2.trans (b3.mono s2)
      have s3 := c3.size
      go_wp2_with fail
      refine (H5.out _).mono ?_
      rintro e w4 ⟨rfl, b4⟩
      have c4 := c3.trans (b4.mono s3)
      have s4 := c4.size
      go_wp2_with fail
      refine (H2.out _).mono ?_
      rintro e w5 ⟨rfl, b5⟩
      have c5 := c4.trans (b5.mono s4)
      have s5 := c5.size
      go_wp2_with fail
      refine (H3.out _).mono ?_
      rintro e w6 ⟨rfl, b6⟩
      have c6 := c5.trans (b6.mono s5)
      have s6 := c6.size
      go_wp2_with fail
      refine (awake_any _).mono ?_
      rintro e w7 ⟨rfl, b7⟩
      go_wp2
      go_ret
      exact ⟨rfl, c6.trans (b7.mono s6)⟩

end Go.Proofs.Ytoffacjefnmmmaa
namespace Go.Proofs.Ytoffacjefnmmmaa.checksumConcatenation
open Go.ChangeShapes Go.WideShapes Go.ChangeAt Go.RowKit
open Go.ChangeMaps (open_string shut_string)
set_option linter.unusedVariables false

theorem own : ownKnob Try.prog.godebug = none := by kernel_rfl
theorem laidOut : laidOutB Try.prog = true := by kernel_rfl

theorem walk (a0 : ByteArray) (a1 : ByteArray) (w0 : a0.size ≤ maxLen) (w1 : a1.size ≤ maxLen) (w : World) :
    Calls Try.prog 6 #[.string a0, .string a1] w fun e w' => e = .returned (.bool true) ∧ Below w.heap.size w w' := by
  exact checksumConcatenation_walk a0 a1 (size_in w0) (size_in w1) w

set_option maxRecDepth 100000 in
theorem lifted (os : Os) (started : os.Started) (H : Type) (enc : TypeId × Value → H) :
    ReturnsInHanded {} Try.checked os 6 .any (Rows.checksumConcatenationSpec.pre6 enc Try.prog Try.f6 Rows.checksumConcatenationRow.domain false) (Rows.checksumConcatenationSpec.post enc Try.prog Try.f6 false true false false) := by
  refine returnsInHanded_of_change (C := Try.checked) own started (by kernel_rfl) Try.func6
    (ChangeSpec.witness6 (enc := enc) (C := Try.checked) false ⟨#[], #[.string ByteArray.empty, .string ByteArray.empty], []⟩ 8 (by kernel_rfl) (by kernel_rfl) (by kernel_rfl) (by kernel_rfl)) ?_
  intro W base args ds gs before hval0 hW hcnd _
  have hval : ∀ (j : Nat) t v, Try.f6.params[j]? = some t → args[j]? = some v → Value.okWide Try.prog W .any base t v := hval0
  have hW' := hW
  obtain ⟨p, q, hA0, hV, rfl, hfz, hnd⟩ := hW
  have hA : DataW.TrodAll enc Try.prog W 0 (fun _ => true) true Try.f6.params.toList args.toList ds p := hA0
  rw [Try.params6] at hA hval
  obtain ⟨v0, vs0, d0, ds0, p0, q0, hargs, rfl, rfl, h0, r0⟩ := trodAll_cons hA
  obtain ⟨v1, vs1, d1, ds1, p1, q1, rfl, rfl, rfl, h1, r1⟩ := trodAll_cons r0
  obtain ⟨rfl, rfl, rfl⟩ := trodAll_nil r1
  obtain rfl : args = #[v0, v1] := by cases args; simp_all
  obtain ⟨rfl, rfl⟩ := trodVars_none hV
  obtain ⟨a0, rfl, rfl, rfl, w0⟩ := open_string Try.underlying9 (hval 0 9 v0 rfl rfl) h0
  obtain ⟨a1, rfl, rfl, rfl, w1⟩ := open_string Try.underlying9 (hval 1 9 v1 rfl rfl) h1
  clear hA0 hval0
  simp only [List.append_nil] at hW'
  refine (walk a0 a1 w0 w1 W).mono fun e W' ⟨he, hg⟩ => ?_
  subst he
  exact ⟨_, rfl, _, _, _, [], [], [], hW', (trodAll_cons_mk (shut_bool Try.underlying4 _) trodAll_mk0), (trodAll_cons_mk (shut_string Try.underlying9 w0) (trodAll_cons_mk (shut_string Try.underlying9 w1) trodAll_mk0)), rfl, hg.frame _, fun h => by cases h⟩

theorem over : Rows.checksumConcatenationRow.holds Try.pinned (OpenSpec.ofChange Rows.checksumConcatenationSpec) :=
  OpenClaim.holds_of_wide 6 Try.f6 rfl rfl rfl rfl rfl rfl rfl ⟨rfl, rfl, rfl, rfl, rfl⟩ rfl rfl rfl rfl rfl (by kernel_rfl) Try.func6 (by kernel_rfl)
    (of_decide_eq_true (by kernel_rfl)) (by unfold Func.isWrapper; first | (rw [if_pos (by decide +kernel)]; kernel_rfl) | (rw [if_neg (by decide +kernel)]; exact ⟨rfl, rfl⟩))
    (fun os started H enc _ => lifted os started H enc)

theorem proved : Rows.ChecksumConcatenationSaid :=
  over
end Go.Proofs.Ytoffacjefnmmmaa.checksumConcatenation

