/-
  If a byte of the string or of the checksum in a frame of checksum is changed, opening it is ErrChecksum: the law ChecksumDamage returns true at every input, and leaves its arguments as they were. No condition.
-/
import Derived.Test.YtoffacjefnmmmaaChanged
import Derived.ProofKit
import Derived.OpenShut
import Derived.ShutString
namespace Go.Proofs.Ytoffacjefnmmmaa
open Go.RowKit

set_option maxRecDepth 100000 in
set_option maxHeartbeats 2000000 in
theorem checksumDamage_walk (s : ByteArray) (at_ : Nat) (c : UInt8) (hat : at_ ≤ 65535) (hs : s.size ≤ 9223372036854775807) (w : World) :
    Calls Try.prog 11 #[.string s, .int .u16 (at_ : Int), .int .u8 (c.toNat : Int)] w fun e w' => e = .returned (.bool true) ∧ Below w.heap.size w w' := by
  by_cases h1 : 500 < s.size
  · go_enter Try.func11, Try.ntmps11
    go_wp2_with fail
    refine (awake_any _).mono ?_
    rintro e w1 ⟨rfl, b1⟩
    go_wp2
    go_ret
    exact ⟨rfl, b1⟩
  · by_cases hc : c = 0
    · have hcb : ((c.toNat : Int) == 0) = true := by rw [hc]; rfl
      clear hc
      go_enter Try.func11, Try.ntmps11
      go_wp2_with fail
      refine (awake_any _).mono ?_
      rintro e w1 ⟨rfl, b1⟩
      go_wp2
      go_ret
      exact ⟨rfl, b1⟩
    · have hcb : ((c.toNat : Int) == 0) = false := by
        rw [beq_eq_false_iff_ne]
        intro e
        exact hc (UInt8.toNat_inj.1 (by simpa using e))
      have hl : s.data.toList.length = s.size := by simp
      have H1 := Lib.hid (seal_small s (by omega))
      have hfl := frameL_length s.data.toList
      have hhl := headL_length_le (l := s.data.toList) (by omega)
      obtain ⟨f, hf⟩ : ∃ f, strOf (frameL s.data.toList) = f := ⟨_, rfl⟩
      have hfs : f.size = (frameL s.data.toList).length := by rw [← hf, strOf_size]
      have hfd : f.data.toList = frameL s.data.toList := by rw [← hf, strOf_toList]
      have hm : at_ % (s.size + 4) < s.size + 4 := Nat.mod_lt _ (by omega)
      have hlt : (headL s.data.toList).length + at_ % (s.size + 4) < (frameL s.data.toList).length := by omega
      have hx := List.getElem?_eq_getElem hlt
      have hch := changed_any f ((headL s.data.toList).length + at_ % (s.size + 4)) _ c (by rw [hfd]; exact hx)
      have hz : (((headL s.data.toList).length + at_ % (s.size + 4) : Nat) : Int) = (f.size : Int) - (s.size : Int) - 4 + (at_ : Int) % ((s.size : Int) + 4) := by
        have e4 : ((s.size + 4 : Nat) : Int) = (s.size : Int) + 4 := by omega
        rw [Int.natCast_add, Int.natCast_emod, e4]
        omega
      rw [hz, hfd] at hch
      have hop := openR_damage s.data.toList (at_ % (s.size + 4)) _ _ (by omega) hx (xor_ne hc)
      obtain ⟨y, hy⟩ : ∃ y, strOf ((frameL s.data.toList).set ((headL s.data.toList).length + at_ % (s.size + 4)) ((frameL s.data.toList)[(headL s.data.toList).length + at_ % (s.size + 4)] ^^^ c)) = y := ⟨_, rfl⟩
      have hys : y.size = f.size := by rw [← hy, strOf_size, List.length_set, hfs]
      have ho := open_any y (by omega)
      rw [← hy, strOf_toList, hop, hy] at ho
      simp only [Rd.val, Rd.len, Rd.e, strOf_nil] at ho
      rw [hy] at hch
      rw [hf] at H1
      have H2 := Lib.hid hch
      have H3 := Lib.hid ho
      have hf1 : s.size + 5 ≤ f.size := by omega
      have hf2 : f.size ≤ 600 := by omega
      have q0 : (0 : Int) ≤ (at_ : Int) % ((s.size : Int) + 4) := Int.emod_nonneg _ (by omega)
      have q1 : (at_ : Int) % ((s.size : Int) + 4) ≤ 600 := by
        have := Int.emod_lt_of_pos (at_ : Int) (b := (s.size : Int) + 4) (by omega)
        omega
      clear hl hfl hhl hf hfs hfd hm hlt hx hch hz hop hy hys ho hc
      go_enter Try.func11, Try.ntmps11
      go_wp2_with fail
      refine (H1.out _).mono ?_
      rintro e w1 ⟨rfl, b1⟩
      have s1 := b1.size
      go_wp2_with fail
      refine (H2.out _).mono ?_
      rintro e w2 ⟨rfl, b2⟩
      have c2 := b1.trans (b2.mono s1)
      have s2 := c2.size
      go_wp2_with fail
      refine (H3.out _).mono ?_
      rintro e w3 ⟨rfl, b3⟩
      have c3 := c2.trans (b3.mono s2)
      have s3 := c3.size
      go_wp2_with fail
      refine (awake_any _).mono ?_
      rintro e w4 ⟨rfl, b4⟩
      go_wp2
      go_ret
      exact ⟨rfl, c3.trans (b4.mono s3)⟩

end Go.Proofs.Ytoffacjefnmmmaa
namespace Go.Proofs.Ytoffacjefnmmmaa.checksumDamage
open Go.ChangeShapes Go.WideShapes Go.ChangeAt Go.RowKit
open Go.ChangeMaps (open_string shut_string)
set_option linter.unusedVariables false

theorem own : ownKnob Try.prog.godebug = none := by kernel_rfl
theorem laidOut : laidOutB Try.prog = true := by kernel_rfl

theorem walk (a0 : ByteArray) (a1 : Int) (a2 : Int) (w0 : a0.size ≤ maxLen) (w1 : (Lit.int .u16 a1).wf = true) (w2 : (Lit.int .u8 a2).wf = true) (w : World) :
    Calls Try.prog 11 #[.string a0, .int .u16 a1, .int .u8 a2] w fun e w' => e = .returned (.bool true) ∧ Below w.heap.size w w' := by
  obtain ⟨m, rfl, hm⟩ := wf_u16 w1; obtain ⟨c, rfl⟩ := wf_u8 w2; exact checksumDamage_walk a0 m c hm (size_in w0) w

set_option maxRecDepth 100000 in
theorem lifted (os : Os) (started : os.Started) (H : Type) (enc : TypeId × Value → H) :
    ReturnsInHanded {} Try.checked os 11 .any (Rows.checksumDamageSpec.pre6 enc Try.prog Try.f11 Rows.checksumDamageRow.domain false) (Rows.checksumDamageSpec.post enc Try.prog Try.f11 false true false false) := by
  refine returnsInHanded_of_change (C := Try.checked) own started (by kernel_rfl) Try.func11
    (ChangeSpec.witness6 (enc := enc) (C := Try.checked) false ⟨#[], #[.string ByteArray.empty, .int .u16 0, .int .u8 0], []⟩ 8 (by kernel_rfl) (by kernel_rfl) (by kernel_rfl) (by kernel_rfl)) ?_
  intro W base args ds gs before hval0 hW hcnd _
  have hval : ∀ (j : Nat) t v, Try.f11.params[j]? = some t → args[j]? = some v → Value.okWide Try.prog W .any base t v := hval0
  have hW' := hW
  obtain ⟨p, q, hA0, hV, rfl, hfz, hnd⟩ := hW
  have hA : DataW.TrodAll enc Try.prog W 0 (fun _ => true) true Try.f11.params.toList args.toList ds p := hA0
  rw [Try.params11] at hA hval
  obtain ⟨v0, vs0, d0, ds0, p0, q0, hargs, rfl, rfl, h0, r0⟩ := trodAll_cons hA
  obtain ⟨v1, vs1, d1, ds1, p1, q1, rfl, rfl, rfl, h1, r1⟩ := trodAll_cons r0
  obtain ⟨v2, vs2, d2, ds2, p2, q2, rfl, rfl, rfl, h2, r2⟩ := trodAll_cons r1
  obtain ⟨rfl, rfl, rfl⟩ := trodAll_nil r2
  obtain rfl : args = #[v0, v1, v2] := by cases args; simp_all
  obtain ⟨rfl, rfl⟩ := trodVars_none hV
  obtain ⟨a0, rfl, rfl, rfl, w0⟩ := open_string Try.underlying9 (hval 0 9 v0 rfl rfl) h0
  obtain ⟨a1, rfl, rfl, rfl, w1⟩ := open_int Try.underlying37 (hval 1 37 v1 rfl rfl) h1
  obtain ⟨a2, rfl, rfl, rfl, w2⟩ := open_int Try.underlying5 (hval 2 5 v2 rfl rfl) h2
  clear hA0 hval0
  simp only [List.append_nil] at hW'
  refine (walk a0 a1 a2 w0 w1 w2 W).mono fun e W' ⟨he, hg⟩ => ?_
  subst he
  exact ⟨_, rfl, _, _, _, [], [], [], hW', (trodAll_cons_mk (shut_bool Try.underlying4 _) trodAll_mk0), (trodAll_cons_mk (shut_string Try.underlying9 w0) (trodAll_cons_mk (shut_int Try.underlying37 w1) (trodAll_cons_mk (shut_int Try.underlying5 w2) trodAll_mk0))), rfl, hg.frame _, fun h => by cases h⟩

theorem over : Rows.checksumDamageRow.holds Try.pinned (OpenSpec.ofChange Rows.checksumDamageSpec) :=
  OpenClaim.holds_of_wide 11 Try.f11 rfl rfl rfl rfl rfl rfl rfl ⟨rfl, rfl, rfl, rfl, rfl⟩ rfl rfl rfl rfl rfl (by kernel_rfl) Try.func11 (by kernel_rfl)
    (of_decide_eq_true (by kernel_rfl)) (by unfold Func.isWrapper; first | (rw [if_pos (by decide +kernel)]; kernel_rfl) | (rw [if_neg (by decide +kernel)]; exact ⟨rfl, rfl⟩))
    (fun os started H enc _ => lifted os started H enc)

theorem proved : Rows.ChecksumDamageSaid :=
  over
end Go.Proofs.Ytoffacjefnmmmaa.checksumDamage

