/-
  Whatever Open of checksum opens is the frame of the result: the law ChecksumCanonical returns true at every input, and leaves its arguments as they were. No condition.
-/
import Derived.Test.YtoffacjefnmmmaaAwake2
import Derived.ProofKit
import Derived.OpenShut
import Derived.ShutString
namespace Go.Proofs.Ytoffacjefnmmmaa
open Go.RowKit

theorem openR_err_ne {l : List UInt8} {e : Nat} (h : openR l = .err e) : e ≠ 0 := by
  unfold openR at h
  cases hd : decInt l with
  | err x =>
    rw [hd] at h
    have := decInt_err11 hd
    cases h
    omega
  | ok n k =>
    rw [hd] at h
    simp only [] at h
    split at h
    · cases h; decide
    · split at h
      · cases h; decide
      · split at h
        · cases h
        · cases h; decide

set_option maxRecDepth 100000 in
set_option maxHeartbeats 2000000 in
theorem checksumCanonical_walk (s : ByteArray) (hs : s.size ≤ 9223372036854775807) (w : World) :
    Calls Try.prog 10 #[.string s] w fun e w' => e = .returned (.bool true) ∧ Below w.heap.size w w' := by
  by_cases h1 : 500 < s.size
  · go_enter Try.func10, Try.ntmps10
    go_wp2_with fail
    refine (awake_any _).mono ?_
    rintro e w1 ⟨rfl, b1⟩
    go_wp2
    go_ret
    exact ⟨rfl, b1⟩
  · have ho := open_any s hs
    cases hd : openR s.data.toList with
    | err x =>
      have hx := openR_err_ne hd
      rw [hd] at ho
      simp only [Rd.val, Rd.len, Rd.e, strOf_nil] at ho
      have hxb : ((x : Int) != 0) = true := by simpa using hx
      have H1 := Lib.hid ho
      clear ho hd hx
      go_enter Try.func10, Try.ntmps10
      go_wp2_with fail
      refine (H1.out _).mono ?_
      rintro e w1 ⟨rfl, b1⟩
      have s1 := b1.size
      go_wp2_with fail
      refine (awake_any _).mono ?_
      rintro e w2 ⟨rfl, b2⟩
      go_wp2
      go_ret
      exact ⟨rfl, b1.trans (b2.mono s1)⟩
    | ok t k =>
      obtain ⟨c1, c2, c3, c4⟩ := openR_canonical hd
      rw [hd] at ho
      simp only [Rd.val, Rd.len, Rd.e] at ho
      obtain ⟨f, hf⟩ : ∃ f, strOf (frameL t) = f := ⟨_, rfl⟩
      obtain ⟨x, hx⟩ : ∃ x, strOf t = x := ⟨_, rfl⟩
      have hxl : x.data.toList = t := by rw [← hx, strOf_toList]
      have hk : k = f.size := by rw [← hf, strOf_size]; exact c2
      subst hk
      have hsl : s.data.toList.length = s.size := by simp
      have hle : f.size ≤ s.size := by omega
      have hse := seal_small x (by have : x.data.toList.length = x.size := by simp
                                   rw [← this, hxl]; exact c1)
      rw [hxl, hf] at hse
      rw [hx] at ho
      have he : s.extract 0 f.size = f := by
        apply ByteArray.ext
        apply Array.toList_inj.1
        rw [extract_toList, List.drop_zero, Nat.sub_zero, c4, ← hf, strOf_toList]
      have H1 := Lib.hid ho
      have H2 := Lib.hid hse
      have HE := Lib.hid he
      clear ho hd hse he c1 c2 c3 c4 hf hx hxl hsl
      go_enter Try.func10, Try.ntmps10
      go_wp2_with fail
      refine (H1.out _).mono ?_
      rintro e w1 ⟨rfl, b1⟩
      have s1 := b1.size
      go_wp2_with fail
      refine (H2.out _).mono ?_
      rintro e w2 ⟨rfl, b2⟩
      have c2 := b1.trans (b2.mono s1)
      have s2 := c2.size
      have he := HE.out
      go_wp2_with fail
      refine (awake_any _).mono ?_
      rintro e w3 ⟨rfl, b3⟩
      go_wp2
      go_ret
      exact ⟨rfl, c2.trans (b3.mono s2)⟩

end Go.Proofs.Ytoffacjefnmmmaa
namespace Go.Proofs.Ytoffacjefnmmmaa.checksumCanonical
open Go.ChangeShapes Go.WideShapes Go.ChangeAt Go.RowKit
open Go.ChangeMaps (open_string shut_string)
set_option linter.unusedVariables false

theorem own : ownKnob Try.prog.godebug = none := by kernel_rfl
theorem laidOut : laidOutB Try.prog = true := by kernel_rfl

theorem walk (a0 : ByteArray) (w0 : a0.size ≤ maxLen) (w : World) :
    Calls Try.prog 10 #[.string a0] w fun e w' => e = .returned (.bool true) ∧ Below w.heap.size w w' := by
  exact checksumCanonical_walk a0 (size_in w0) w

set_option maxRecDepth 100000 in
theorem lifted (os : Os) (started : os.Started) (H : Type) (enc : TypeId × Value → H) :
    ReturnsInHanded {} Try.checked os 10 .any (Rows.checksumCanonicalSpec.pre6 enc Try.prog Try.f10 Rows.checksumCanonicalRow.domain false) (Rows.checksumCanonicalSpec.post enc Try.prog Try.f10 false true false false) := by
  refine returnsInHanded_of_change (C := Try.checked) own started (by kernel_rfl) Try.func10
    (ChangeSpec.witness6 (enc := enc) (C := Try.checked) false ⟨#[], #[.string ByteArray.empty], []⟩ 8 (by kernel_rfl) (by kernel_rfl) (by kernel_rfl) (by kernel_rfl)) ?_
  intro W base args ds gs before hval0 hW hcnd _
  have hval : ∀ (j : Nat) t v, Try.f10.params[j]? = some t → args[j]? = some v → Value.okWide Try.prog W .any base t v := hval0
  have hW' := hW
  obtain ⟨p, q, hA0, hV, rfl, hfz, hnd⟩ := hW
  have hA : DataW.TrodAll enc Try.prog W 0 (fun _ => true) true Try.f10.params.toList args.toList ds p := hA0
  rw [Try.params10] at hA hval
  obtain ⟨v0, vs0, d0, ds0, p0, q0, hargs, rfl, rfl, h0, r0⟩ := trodAll_cons hA
  obtain ⟨rfl, rfl, rfl⟩ := trodAll_nil r0
  obtain rfl : args = #[v0] := by cases args; simp_all
  obtain ⟨rfl, rfl⟩ := trodVars_none hV
  obtain ⟨a0, rfl, rfl, rfl, w0⟩ := open_string Try.underlying9 (hval 0 9 v0 rfl rfl) h0
  clear hA0 hval0
  simp only [List.append_nil] at hW'
  refine (walk a0 w0 W).mono fun e W' ⟨he, hg⟩ => ?_
  subst he
  exact ⟨_, rfl, _, _, _, [], [], [], hW', (trodAll_cons_mk (shut_bool Try.underlying4 _) trodAll_mk0), (trodAll_cons_mk (shut_string Try.underlying9 w0) trodAll_mk0), rfl, hg.frame _, fun h => by cases h⟩

theorem over : Rows.checksumCanonicalRow.holds Try.pinned (OpenSpec.ofChange Rows.checksumCanonicalSpec) :=
  OpenClaim.holds_of_wide 10 Try.f10 rfl rfl rfl rfl rfl rfl rfl ⟨rfl, rfl, rfl, rfl, rfl⟩ rfl rfl rfl rfl rfl (by kernel_rfl) Try.func10 (by kernel_rfl)
    (of_decide_eq_true (by kernel_rfl)) (by unfold Func.isWrapper; first | (rw [if_pos (by decide +kernel)]; kernel_rfl) | (rw [if_neg (by decide +kernel)]; exact ⟨rfl, rfl⟩))
    (fun os started H enc _ => lifted os started H enc)

theorem proved : Rows.ChecksumCanonicalSaid :=
  over
end Go.Proofs.Ytoffacjefnmmmaa.checksumCanonical

