/-
  Seal of checksum returns ErrLimit exactly for strings of more than 100000 bytes, and the checksum of a string of equal bytes is that of the reference (99900 to 100155 bytes): the law ChecksumLong returns true at every input, and leaves its arguments as they were. No condition.
-/
import Derived.Test.YtoffacjefnmmmaaAwake2
import Derived.ProofKit
import Derived.OpenShut
import Derived.ShutString
namespace Go.Proofs.Ytoffacjefnmmmaa
open Go.RowKit

theorem head_long {l : List UInt8} {n : Nat} (hn : l.length = n) (h0 : 65536 ≤ n) (h1 : n < 16777216) : (headL l).length = 4 := by
  unfold headL encInt
  have hm : magOf (l.length : Int) = n := by unfold magOf; rw [if_neg (by omega)]; omega
  rw [hm, encM_length]
  have a := mag_length_le (m := n) (k := 3) (by omega)
  by_cases b : (mag n).length ≤ 2
  · have := lt_of_mag_length b
    omega
  · omega
/-- The text of the law: the string of one byte, and its repetition. -/
theorem long_text (x : UInt8) (N : Nat) (hN : N ≤ 1000000) : ∃ X T : ByteArray, T.size = N ∧
    (∀ w : World, (convert 35 9 (.slice (some ⟨w.heap.size, 0, none⟩) 1 1)).run Try.prog (w.alloc (.cells #[.int .u8 (x.toNat : Int)] T8)) = .ok (.string X) (w.alloc (.cells #[.int .u8 (x.toNat : Int)] T8))) ∧
    (∀ w : World, Calls Try.prog 24 #[.string X, .int .i64 (N : Int)] w fun e w' => e = .returned (.string T) ∧ Below w.heap.size w w') := by
  have hL : (Lib.repeatL [x] N).length = N := by rw [Lib.repeatL_length]; simp
  generalize hR : Lib.repeatL [x] N = L at hL
  refine ⟨strOf [x], strOf L, by rw [strOf_size, hL], fun w => ?_, fun w => ?_⟩
  · refine run_convert_bytes_back (P := Try.prog) _ 35 9 T8 ⟨w.heap.size, 0, none⟩ 1 [x] Try.underlying35 Try.underlying5 Try.underlying9 fun j hj => ?_
    have : j = 0 := by simpa using hj
    subst this
    rw [show (⟨w.heap.size, 0, none⟩ : Addr).add 0 = ⟨w.heap.size, 0, none⟩ from rfl, Lib.cell_of_heap (World.alloc_heap_new w _)]
    rfl
  · have h := Try.strings_Repeat (strOf [x]) N w (by omega) (by rw [show (strOf [x]).size = 1 from rfl]; omega)
    rw [strOf_toList, hR] at h
    exact h

set_option maxRecDepth 100000 in
set_option maxHeartbeats 4000000 in
theorem checksumLong_small (c d : UInt8) (N : Nat) (hN : (99900 : Int) + (d.toNat : Int) = (N : Int)) (h : N ≤ 100000) (w : World) :
    Calls Try.prog 5 #[.int .u8 (c.toNat : Int), .int .u8 (d.toNat : Int)] w fun e w' => e = .returned (.bool true) ∧ Below w.heap.size w w' := by
  have hd8 := byte_lt d
  obtain ⟨X, T, hT, hcv, hrep⟩ := long_text c N (by omega)
  have hTl : T.data.toList.length = N := by rw [← hT]; simp
  have hcv0 := hcv w
  have HREP := Lib.hid hrep
  have hse := seal_small T (by omega)
  have hfl := frameL_length T.data.toList
  rw [head_long hTl (by omega) (by omega), hTl] at hfl
  obtain ⟨f, hf⟩ : ∃ f, strOf (frameL T.data.toList) = f := ⟨_, rfl⟩
  have hfs : f.size = N + 8 := by rw [← hf, strOf_size, hfl]; omega
  rw [hf] at hse
  have HSE := Lib.hid hse
  have H5 := Lib.hid (sum_any T (by omega))
  have H6 := Lib.hid (refSum_any T (by omega))
  generalize (sumN T.data.toList : Int) = v at H5 H6
  have hT1 : T.size ≤ 100000 := by omega
  have hT2 : decide ((100000 : Int) < (T.size : Int)) = false := by simp; omega
  have hlen : ((f.size : Int) == (T.size : Int) + 8) = true := by rw [beq_iff_eq]; omega
  have hb0 : Below w.heap.size w (w.alloc (.cells #[.int .u8 (c.toNat : Int)] T8)) := (Below.refl _ w).alloc (Nat.le_refl _) _
  clear hcv hrep hse hfl hf hTl hT hfs
  go_enter Try.func5, Try.ntmps5
  go_wp2_with fail
  refine (HREP.out _).mono ?_
  rintro e w1 ⟨rfl, b1⟩
  have c1 := hb0.trans (b1.mono (by simp))
  have s1 := c1.size
  clear hcv0 hb0 hN h
  go_wp2_with fail
  refine (HSE.out _).mono ?_
  rintro e w2 ⟨rfl, b2⟩
  have c2 := c1.trans (b2.mono s1)
  have s2 := c2.size
  go_wp2_with fail
  refine (H5.out _).mono ?_
  rintro e w3 ⟨rfl, b3⟩
  have c3 := c2.trans (b3.mono s2)
  have s3 := c3.size
  go_wp2_with fail
  refine (H6.out _).mono ?_
  rintro e w4 ⟨rfl, rfl⟩
  go_wp2_with fail
  refine (awake_any _).mono ?_
  rintro e w5 ⟨rfl, b5⟩
  go_wp2
  go_ret
  exact ⟨rfl, c3.trans (b5.mono s3)⟩

set_option maxRecDepth 100000 in
set_option maxHeartbeats 4000000 in
theorem checksumLong_great (c d : UInt8) (N : Nat) (hN : (99900 : Int) + (d.toNat : Int) = (N : Int)) (h : 100000 < N) (w : World) :
    Calls Try.prog 5 #[.int .u8 (c.toNat : Int), .int .u8 (d.toNat : Int)] w fun e w' => e = .returned (.bool true) ∧ Below w.heap.size w w' := by
  have hd8 := byte_lt d
  obtain ⟨X, T, hT, hcv, hrep⟩ := long_text c N (by omega)
  have hcv0 := hcv w
  have HREP := Lib.hid hrep
  have hse := seal_any T (by omega)
  have hTl : T.data.toList.length = N := by rw [← hT]; simp
  unfold sealL sealE at hse
  rw [if_pos (by omega), if_pos (by omega), strOf_nil] at hse
  have HSE := Lib.hid hse
  have H5 := Lib.hid (sum_any T (by omega))
  have H6 := Lib.hid (refSum_any T (by omega))
  generalize (sumN T.data.toList : Int) = v at H5 H6
  have hT1 : 100000 < T.size := by omega
  have hT3 : T.size ≤ 1000000 := by omega
  have hT2 : decide ((100000 : Int) < (T.size : Int)) = true := by simp; omega
  have hb0 : Below w.heap.size w (w.alloc (.cells #[.int .u8 (c.toNat : Int)] T8)) := (Below.refl _ w).alloc (Nat.le_refl _) _
  clear hcv hrep hse hTl hT
  go_enter Try.func5, Try.ntmps5
  go_wp2_with fail
  refine (HREP.out _).mono ?_
  rintro e w1 ⟨rfl, b1⟩
  have c1 := hb0.trans (b1.mono (by simp))
  have s1 := c1.size
  clear hcv0 hb0 hN h
  go_wp2_with fail
  refine (HSE.out _).mono ?_
  rintro e w2 ⟨rfl, b2⟩
  have c2 := c1.trans (b2.mono s1)
  have s2 := c2.size
  go_wp2_with fail
  refine (H5.out _).mono ?_
  rintro e w3 ⟨rfl, b3⟩
  have c3 := c2.trans (b3.mono s2)
  have s3 := c3.size
  go_wp2_with fail
  refine (H6.out _).mono ?_
  rintro e w4 ⟨rfl, rfl⟩
  go_wp2_with fail
  refine (awake_any _).mono ?_
  rintro e w5 ⟨rfl, b5⟩
  go_wp2
  go_ret
  exact ⟨rfl, c3.trans (b5.mono s3)⟩

theorem checksumLong_walk (c d : UInt8) (w : World) :
    Calls Try.prog 5 #[.int .u8 (c.toNat : Int), .int .u8 (d.toNat : Int)] w fun e w' => e = .returned (.bool true) ∧ Below w.heap.size w w' := by
  obtain ⟨N, hN⟩ : ∃ N : Nat, (99900 : Int) + (d.toNat : Int) = (N : Int) := ⟨99900 + d.toNat, by omega⟩
  by_cases h : N ≤ 100000
  · exact checksumLong_small c d N hN h w
  · exact checksumLong_great c d N hN (by omega) w

end Go.Proofs.Ytoffacjefnmmmaa
namespace Go.Proofs.Ytoffacjefnmmmaa.checksumLong
open Go.ChangeShapes Go.WideShapes Go.ChangeAt Go.RowKit
open Go.ChangeMaps (open_string shut_string)
set_option linter.unusedVariables false

theorem own : ownKnob Try.prog.godebug = none := by kernel_rfl
theorem laidOut : laidOutB Try.prog = true := by kernel_rfl

theorem walk (a0 : Int) (a1 : Int) (w0 : (Lit.int .u8 a0).wf = true) (w1 : (Lit.int .u8 a1).wf = true) (w : World) :
    Calls Try.prog 5 #[.int .u8 a0, .int .u8 a1] w fun e w' => e = .returned (.bool true) ∧ Below w.heap.size w w' := by
  obtain ⟨c, rfl⟩ := wf_u8 w0; obtain ⟨d, rfl⟩ := wf_u8 w1; exact checksumLong_walk c d w

set_option maxRecDepth 100000 in
theorem lifted (os : Os) (started : os.Started) (H : Type) (enc : TypeId × Value → H) :
    ReturnsInHanded {} Try.checked os 5 .any (Rows.checksumLongSpec.pre6 enc Try.prog Try.f5 Rows.checksumLongRow.domain false) (Rows.checksumLongSpec.post enc Try.prog Try.f5 false true false false) := by
  refine returnsInHanded_of_change (C := Try.checked) own started (by kernel_rfl) Try.func5
    (ChangeSpec.witness6 (enc := enc) (C := Try.checked) false ⟨#[], #[.int .u8 0, .int .u8 0], []⟩ 8 (by kernel_rfl) (by kernel_rfl) (by kernel_rfl) (by kernel_rfl)) ?_
  intro W base args ds gs before hval0 hW hcnd _
  have hval : ∀ (j : Nat) t v, Try.f5.params[j]? = some t → args[j]? = some v → Value.okWide Try.prog W .any base t v := hval0
  have hW' := hW
  obtain ⟨p, q, hA0, hV, rfl, hfz, hnd⟩ := hW
  have hA : DataW.TrodAll enc Try.prog W 0 (fun _ => true) true Try.f5.params.toList args.toList ds p := hA0
  rw [Try.params5] at hA hval
  obtain ⟨v0, vs0, d0, ds0, p0, q0, hargs, rfl, rfl, h0, r0⟩ := trodAll_cons hA
  obtain ⟨v1, vs1, d1, ds1, p1, q1, rfl, rfl, rfl, h1, r1⟩ := trodAll_cons r0
  obtain ⟨rfl, rfl, rfl⟩ := trodAll_nil r1
  obtain rfl : args = #[v0, v1] := by cases args; simp_all
  obtain ⟨rfl, rfl⟩ := trodVars_none hV
  obtain ⟨a0, rfl, rfl, rfl, w0⟩ := open_int Try.underlying5 (hval 0 5 v0 rfl rfl) h0
  obtain ⟨a1, rfl, rfl, rfl, w1⟩ := open_int Try.underlying5 (hval 1 5 v1 rfl rfl) h1
  clear hA0 hval0
  simp only [List.append_nil] at hW'
  refine (walk a0 a1 w0 w1 W).mono fun e W' ⟨he, hg⟩ => ?_
  subst he
  exact ⟨_, rfl, _, _, _, [], [], [], hW', (trodAll_cons_mk (shut_bool Try.underlying4 _) trodAll_mk0), (trodAll_cons_mk (shut_int Try.underlying5 w0) (trodAll_cons_mk (shut_int Try.underlying5 w1) trodAll_mk0)), rfl, hg.frame _, fun h => by cases h⟩

theorem over : Rows.checksumLongRow.holds Try.pinned (OpenSpec.ofChange Rows.checksumLongSpec) :=
  OpenClaim.holds_of_wide 5 Try.f5 rfl rfl rfl rfl rfl rfl rfl ⟨rfl, rfl, rfl, rfl, rfl⟩ rfl rfl rfl rfl rfl (by kernel_rfl) Try.func5 (by kernel_rfl)
    (of_decide_eq_true (by kernel_rfl)) (by unfold Func.isWrapper; first | (rw [if_pos (by decide +kernel)]; kernel_rfl) | (rw [if_neg (by decide +kernel)]; exact ⟨rfl, rfl⟩))
    (fun os started H enc _ => lifted os started H enc)

theorem proved : Rows.ChecksumLongSaid :=
  over
end Go.Proofs.Ytoffacjefnmmmaa.checksumLong

