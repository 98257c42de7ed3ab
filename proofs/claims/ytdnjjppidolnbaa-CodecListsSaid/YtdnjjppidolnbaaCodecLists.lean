/-
  For any list of up to 40 integers and any string of up to 400 bytes, List and ReadList of codec return what the reference returns, and the chapter's examples hold: the law CodecLists returns true at every input, and leaves its arguments as they were. No condition.
-/
import Derived.Test.YtdnjjppidolnbaaReadListB
import Derived.Test.YtdnjjppidolnbaaAwake
import Derived.Test.YtdnjjppidolnbaaLawKit
import Derived.ProofKit
import Derived.OpenShut
import Derived.ShutString
namespace Go.Proofs.Ytdnjjppidolnbaa
open Go.RowKit

set_option maxRecDepth 100000 in
set_option maxHeartbeats 2000000 in
theorem codecLists_walk (ad : Option Addr) (cap : Nat) (zs : List Int) (s : ByteArray) (w : World) (hI : IntsA w.heap.size w ad zs) (hz : zs.length ≤ 9223372036854775807) (hs : s.size ≤ 9223372036854775807) :
    Calls Try.prog 5 #[.slice ad zs.length cap, .string s] w fun e w' => e = .returned (.bool true) ∧ Below w.heap.size w w' := by
  have hb0 : Below w.heap.size w (w.alloc (.cells #[.slice ad zs.length cap] 34)) := (Below.refl _ w).alloc (Nat.le_refl _) _
  by_cases h1 : 40 < zs.length
  · have h1' : 40 < (zs.length : Int) := by omega
    clear hI
    go_enter Try.func5, Try.ntmps5
    go_wp2_with fail
    refine (great1_yes w.heap.size zs.length cap ad _ (by simp) h1).mono ?_
    rintro e w1 ⟨rfl, rfl⟩
    go_wp2_with fail
    refine (awake_any _).mono ?_
    rintro e w5 ⟨rfl, b5⟩
    go_wp2
    go_ret
    exact ⟨rfl, hb0.trans (b5.mono (by simp))⟩
  · have h1' : zs.length ≤ 40 := by omega
    by_cases h2 : 400 < s.size
    · have h2' : 400 < (s.size : Int) := by omega
      clear hI
      go_enter Try.func5, Try.ntmps5
      go_wp2_with fail
      refine (great1_no w.heap.size zs.length cap ad _ (by simp) h1').mono ?_
      rintro e w1 ⟨rfl, rfl⟩
      go_wp2_with fail
      refine (awake_any _).mono ?_
      rintro e w5 ⟨rfl, b5⟩
      go_wp2
      go_ret
      exact ⟨rfl, hb0.trans (b5.mono (by simp))⟩
    · have h2' : (s.size : Int) ≤ 400 := by omega
      have HI := Lib.hid hI
      clear hI
      go_enter Try.func5, Try.ntmps5
      go_wp2_with fail
      refine (great1_no w.heap.size zs.length cap ad _ (by simp) h1').mono ?_
      rintro e w1 ⟨rfl, rfl⟩
      go_wp2_with fail
      refine (list_anyA ad cap zs _ ((HI.out.below hb0).mono (by simp)) hz).mono ?_
      rintro e w1 ⟨rfl, b1⟩
      have c1 := hb0.trans (b1.mono (by simp))
      have s1 := c1.size
      go_wp2_with fail
      refine (refList_anyA ad cap zs _ ((HI.out.below c1).mono s1) hz).mono ?_
      rintro e w2 ⟨rfl, b2⟩
      have c2 := c1.trans (b2.mono s1)
      have s2 := c2.size
      go_wp2_with fail
      refine (readList_any s hs _).mono ?_
      rintro e w3 ⟨ad1, cap1, rfl, i1, b3⟩
      have c3 := c2.trans (b3.mono s2)
      have s3 := c3.size
      have I1 := Lib.hid i1
      clear i1
      go_wp2_with fail
      refine (refReadList_any s hs _).mono ?_
      rintro e w4 ⟨ad2, cap2, rfl, i2, b4⟩
      have c4 := c3.trans (b4.mono s3)
      have s4 := c4.size
      have I2 := Lib.hid i2
      have I3 := Lib.hid (I1.out.below b4)
      clear i2
      go_wp2_with fail
      have hdl := decL_length s.data.toList
      have hsame := same_any w4.heap.size w4.heap.size ad1 ad2 cap1 cap2 _ _ w4 (I3.out.mono b4.size) I2.out (by omega) (by omega)
      simp only [decide_true] at hsame
      refine hsame.mono ?_
      rintro e w5 ⟨rfl, b5⟩
      have c5 := c4.trans (b5.mono s4)
      have s5 := c5.size
      clear hsame
      go_wp2_with fail
      refine (awake_any _).mono ?_
      rintro e w6 ⟨rfl, b6⟩
      go_wp2
      go_ret
      exact ⟨rfl, c5.trans (b6.mono s5)⟩

end Go.Proofs.Ytdnjjppidolnbaa
namespace Go.Proofs.Ytdnjjppidolnbaa.codecLists
open Go.ChangeShapes Go.WideShapes Go.ChangeAt Go.RowKit
open Go.ChangeMaps (open_string shut_string)
set_option linter.unusedVariables false

theorem own : ownKnob Try.prog.godebug = none := by kernel_rfl
theorem laidOut : laidOutB Try.prog = true := by kernel_rfl

def IsRow (k : IntKind) (w : World) (a : Option Addr) (len cap : Nat) (zs : List Int) : Prop :=
  (a = none ∧ len = 0 ∧ cap = 0 ∧ zs = []) ∨
  ∃ x, a = some x ∧ len ≤ cap ∧ cap ≤ maxLen ∧ zs.length = cap ∧ (∀ i, i < zs.length → w.cell? (x.add i) = some (.int k (zs.getD i 0))) ∧ ∀ n ∈ zs, (Lit.int k n).wf = true

theorem walk (a0 : Option Addr) (len0 cap0 : Nat) (z0 : List Int) (a1 : ByteArray) (w : World) (w0 : IsRow .i64 w a0 len0 cap0 z0) (w1 : a1.size ≤ maxLen) :
    Calls Try.prog 5 #[.slice a0 len0 cap0, .string a1] w fun e w' => e = .returned (.bool true) ∧ Below w.heap.size w w' := by
  obtain ⟨zs, rfl, hz, hI, _⟩ := rowInts (by unfold IsRow at w0; exact w0); exact codecLists_walk a0 cap0 zs a1 w hI hz (by unfold maxLen at w1; exact w1)

set_option maxRecDepth 100000 in
theorem lifted (os : Os) (started : os.Started) (H : Type) (enc : TypeId × Value → H) :
    ReturnsInHanded {} Try.checked os 5 .any (Rows.codecListsSpec.pre6 enc Try.prog Try.f5 Rows.codecListsRow.domain false) (Rows.codecListsSpec.post enc Try.prog Try.f5 false true false false) := by
  refine returnsInHanded_of_change (C := Try.checked) own started (by kernel_rfl) Try.func5
    (ChangeSpec.witness6 (enc := enc) (C := Try.checked) false ⟨#[], #[.slice none 0 0, .string ByteArray.empty], []⟩ 8 (by kernel_rfl) (by kernel_rfl) (by kernel_rfl) (by kernel_rfl)) ?_
  intro W base args ds gs before hval0 hW hcnd _
  have hval : ∀ (j : Nat) t v, Try.f5.params[j]? = some t → args[j]? = some v → Value.okWide Try.prog W .any base t v := hval0
  have hW' := hW
  obtain ⟨p, q, hA0, hV, rfl, hfz, hnd⟩ := hW
  have hA : DataW.TrodAll enc Try.prog W 0 (fun _ => true) true Try.f5.params.toList args.toList ds p := hA0
  rw [Try.params5] at hA hval
  obtain ⟨v0, vs0, d0, ds0, p0, q0, hargs, rfl, rfl, h0, r0⟩ := trodAll_cons hA
  obtain ⟨v1, vs1, d1, ds1, p1, q1, rfl, rfl, rfl, h1, r1⟩ := trodAll_cons r0
  obtain ⟨rfl, rfl, rfl⟩ := trodAll_nil r1
  obtain rfl : args = #[v0, v1] := by cases args; simp_all
  obtain ⟨rfl, rfl⟩ := trodVars_none hV
  obtain ⟨a0, len0, cap0, rfl⟩ := okWide_slice Try.underlying34 (hval 0 34 v0 rfl rfl)
  have k0 := h0
  have lt0 : ∀ x ∈ p0, x.block < W.heap.size := by obtain ⟨m, hm⟩ := k0; exact DataW.trod_lt m _ _ _ hm
  obtain ⟨z0, w0⟩ : ∃ zs, IsRow .i64 W a0 len0 cap0 zs := by
    obtain ⟨fuel, hf⟩ := h0
    rcases open_ints Try.underlying34 Try.underlying3 (by kernel_rfl) hf with ⟨hcs, _⟩ | ⟨x, l, c, zs, hcs, _, hl, hm, hz, _, hcell, hwz⟩
    · simp [Value.cells] at hcs
      obtain ⟨rfl, rfl, rfl⟩ := hcs
      exact ⟨[], .inl ⟨rfl, rfl, rfl, rfl⟩⟩
    · simp [Value.cells] at hcs
      obtain ⟨rfl, rfl, rfl⟩ := hcs
      exact ⟨zs, .inr ⟨_, rfl, hl, hm, by simpa using hz, hcell, hwz⟩⟩
  obtain ⟨a1, rfl, rfl, rfl, w1⟩ := open_string Try.underlying9 (hval 1 9 v1 rfl rfl) h1
  clear hA0 hval0
  refine (walk a0 len0 cap0 z0 a1 W w0 w1).mono fun e W' ⟨he, bel⟩ => ?_
  subst he
  exact ⟨_, rfl, _, _, _, [], _, [], hW', trodAll_mk1 (shut_bool Try.underlying4 _), (trodAll_cons_mk (Below.trod laidOut (by kernel_rfl) (of_decide_eq_true (by kernel_rfl)) k0 bel lt0) (trodAll_cons_mk (shut_string Try.underlying9 w1) trodAll_mk0)), rfl, bel.frame _, fun h => by cases h⟩

theorem over : Rows.codecListsRow.holds Try.pinned (OpenSpec.ofChange Rows.codecListsSpec) :=
  OpenClaim.holds_of_wide 5 Try.f5 rfl rfl rfl rfl rfl rfl rfl ⟨rfl, rfl, rfl, rfl, rfl⟩ rfl rfl rfl rfl rfl (by kernel_rfl) Try.func5 (by kernel_rfl)
    (of_decide_eq_true (by kernel_rfl)) (by unfold Func.isWrapper; first | (rw [if_pos (by decide +kernel)]; kernel_rfl) | (rw [if_neg (by decide +kernel)]; exact ⟨rfl, rfl⟩))
    (fun os started H enc _ => lifted os started H enc)

theorem proved : Rows.CodecListsSaid := over
end Go.Proofs.Ytdnjjppidolnbaa.codecLists

