/-
  What the reference's Type and Eval return.
-/
import Derived.Test.YtfgaihajopfmfaaDoorExRefA
import Derived.Test.YtfgaihajopfmfaaDoorExRefB
import Derived.Test.YtfgaihajopfmfaaDoorExRefC
namespace Go.Proofs.YtfgaihajopfmfaaDoor
set_option linter.unusedSimpArgs false
set_option linter.unusedVariables false
open Go.RowKit

set_option maxRecDepth 100000 in
set_option maxHeartbeats 4000000 in
theorem rType_any (l : List Bd) (vb : Value) (e : Ex) (sl : Value) (w : World) (hK : KX w e sl) (hB : KB w vb l) (hf : fitE e) (hl : fitB l) :
    Calls Tryd.prog 11 #[exV e sl, vb] w fun x w' => x = .returned (.tuple #[.int .i64 (tyF l e).1, .int .i64 (tyF l e).2]) ∧ Below w.heap.size w w' := by
  have hb0 : Below w.heap.size w (w.alloc (.cells #[.int .i64 e.k, .int .i64 e.o, .string e.s, .int .i64 e.v, sl] TX)) := (Below.refl _ w).alloc (Nat.le_refl _) _
  have HB0 := Lib.hid hb0
  have HX0 : Hid (AtX (w.alloc (.cells #[.int .i64 e.k, .int .i64 e.o, .string e.s, .int .i64 e.v, sl] TX)) w.heap.size 0 e sl) := Lib.hid (boxX w e.k e.o e.s e.v sl e.es)
  have HIN := Lib.hid (rCheck_any e sl _ (hK.carry hb0) hf)
  have HK0 := Lib.hid (hK.carry hb0)
  have HKB0 := Lib.hid (hB.carry hb0)
  have HF := Lib.hid hl
  simp only [exV] at HIN ⊢
  clear hb0 hK hB hf hl
  go_enter Tryd.func11, Tryd.ntmps11
  go_wp2_with fail
  refine HIN.out.mono ?_
  rintro x w4 ⟨rfl, b4⟩
  have HB4 := Lib.hid (HB0.out.trans (b4.mono HB0.out.size))
  have HX4 := Lib.hid (HX0.out.keep (b4.block _ HX0.out.lt))
  have HK4 := Lib.hid (HK0.out.carry b4)
  have HKB4 := Lib.hid (HKB0.out.carry b4)
  clear b4 HIN HX0 HK0 HKB0
  by_cases h : ckE e = 0
  · obtain ⟨q1, q2⟩ := ieq h
    have HH := Lib.hid h
    have HC := Lib.hid (rCheckB_any l vb w4 HKB4.out HF.out)
    rw [h] at q1 q2 ⊢
    clear h q1 q2
    go_wp2_with fail
    refine HC.out.mono ?_
    rintro x w5 ⟨rfl, b5⟩
    have HB5 := Lib.hid (HB4.out.trans (b5.mono HB4.out.size))
    have HX5 := Lib.hid (HX4.out.keep (b5.block _ HX4.out.lt))
    have HK5 := Lib.hid (HK4.out.carry b5)
    have HKB5 := Lib.hid (HKB4.out.carry b5)
    clear b5 HC HX4 HK4 HKB4
    cases hc : ckB l with
    | true =>
      have HE : Hid (tyF l e = tyE l e) := Lib.hid (by unfold tyF; rw [if_neg (by simp [HH.out]), if_neg (by simp [hc])])
      have hce : ckBE l = 0 := by unfold ckBE; rw [hc]; rfl
      have HT := Lib.hid (rtypeOf_any l vb e sl w5 HK5.out HKB5.out (ckE_ok.1 HH.out).2.2 (ckE_ok.1 HH.out).1)
      obtain ⟨x0, x1, x2, x3, x4⟩ := HX5.out
      simp only [exV] at HT
      rw [hce]
      clear hc hce
      go_wp2_with fail
      refine HT.out.mono ?_
      rintro x w6 ⟨rfl, b6⟩
      have HB6 := Lib.hid (HB5.out.trans (b6.mono HB5.out.size))
      clear b6
      go_wp2
      go_ret2
      exact ⟨by rw [HE.out]; rfl, HB6.out⟩
    | false =>
      have HE : Hid (tyF l e = (0, 1)) := Lib.hid (by unfold tyF; rw [if_neg (by simp [HH.out]), if_pos hc])
      have hce : ckBE l = 1 := by unfold ckBE; rw [hc]; rfl
      rw [hce]
      clear hc hce
      go_wp2
      go_ret2
      exact ⟨by rw [HE.out]; rfl, HB5.out⟩
  · obtain ⟨q1, q2⟩ := ine h
    have HE : Hid (tyF l e = (0, ckE e)) := Lib.hid (by unfold tyF; rw [if_pos h])
    clear h
    go_wp2
    go_ret2
    exact ⟨by rw [HE.out]; rfl, HB4.out⟩
set_option maxRecDepth 100000 in
set_option maxHeartbeats 4000000 in
theorem rEval_any (l : List Bd) (vb : Value) (e : Ex) (sl : Value) (w : World) (hK : KX w e sl) (hB : KB w vb l) (hf : fitE e) (hl : fitB l) :
    Calls Tryd.prog 13 #[exV e sl, vb] w fun x w' => x = .returned (.tuple #[.int .i64 (vlF l e).1, .int .i64 (vlF l e).2]) ∧ Below w.heap.size w w' := by
  have hb0 : Below w.heap.size w (w.alloc (.cells #[.int .i64 e.k, .int .i64 e.o, .string e.s, .int .i64 e.v, sl] TX)) := (Below.refl _ w).alloc (Nat.le_refl _) _
  have HB0 := Lib.hid hb0
  have HX0 : Hid (AtX (w.alloc (.cells #[.int .i64 e.k, .int .i64 e.o, .string e.s, .int .i64 e.v, sl] TX)) w.heap.size 0 e sl) := Lib.hid (boxX w e.k e.o e.s e.v sl e.es)
  have HIN := Lib.hid (rType_any l vb e sl _ (hK.carry hb0) (hB.carry hb0) hf hl)
  have HK0 := Lib.hid (hK.carry hb0)
  have HKB0 := Lib.hid (hB.carry hb0)
  simp only [exV] at HIN ⊢
  clear hb0 hK hB hf hl
  go_enter Tryd.func13, Tryd.ntmps13
  go_wp2_with fail
  refine HIN.out.mono ?_
  rintro x w4 ⟨rfl, b4⟩
  have HB4 := Lib.hid (HB0.out.trans (b4.mono HB0.out.size))
  have HX4 := Lib.hid (HX0.out.keep (b4.block _ HX0.out.lt))
  have HK4 := Lib.hid (HK0.out.carry b4)
  have HKB4 := Lib.hid (HKB0.out.carry b4)
  clear b4 HIN HX0 HK0 HKB0
  by_cases h : (tyF l e).2 = 0
  · obtain ⟨q1, q2⟩ := ieq h
    have HE : Hid (vlF l e = vlE l e) := Lib.hid (by unfold vlF; rw [if_neg (by simpa using h)])
    obtain ⟨h1, h2, h3⟩ := tyF_ok h
    have HT := Lib.hid (reval_any l h2 vb e sl w4 HK4.out HKB4.out (ckE_ok.1 h1).2.2 (ckE_ok.1 h1).1 (by rw [← h3]; exact h))
    obtain ⟨x0, x1, x2, x3, x4⟩ := HX4.out
    simp only [exV] at HT
    obtain ⟨p, hp⟩ : ∃ p, tyF l e = p := ⟨_, rfl⟩
    rw [hp] at h q1 q2 ⊢
    obtain ⟨p1, p2⟩ := p
    simp only [] at h q1 q2 ⊢
    subst h
    clear h1 h2 h3 hp q1 q2
    go_wp2_with fail
    refine HT.out.mono ?_
    rintro x w6 ⟨rfl, b6⟩
    have HB6 := Lib.hid (HB4.out.trans (b6.mono HB4.out.size))
    clear b6
    go_wp2
    go_ret2
    exact ⟨by rw [HE.out]; rfl, HB6.out⟩
  · obtain ⟨q1, q2⟩ := ine h
    have HE : Hid (vlF l e = (0, (tyF l e).2)) := Lib.hid (by unfold vlF; rw [if_pos h])
    clear h
    go_wp2
    go_ret2
    exact ⟨by rw [HE.out]; rfl, HB4.out⟩

end Go.Proofs.YtfgaihajopfmfaaDoor
