/-
  What the reference's Print returns; slices.Equal of the same strings.
-/
import Derived.Test.YtfgaihajopfmfaaGreatDoorExRText
namespace Go.Proofs.YtfgaihajopfmfaaGreatDoor
set_option linter.unusedSimpArgs false
set_option linter.unusedVariables false
open Go.RowKit Go.Shelf

set_option maxRecDepth 100000 in
set_option maxHeartbeats 4000000 in
theorem rPrint_any (e : Ex) (a : Option Addr) (n c : Nat) (w : World) (hK : KX w e (.slice a n c)) (hf : fitE e) :
    Calls Tryz.prog 10 #[exV e (.slice a n c)] w fun x w' => x = .returned (.tuple #[.string (txF e), .int .i64 (ckE e)]) ∧ Below w.heap.size w w' := by
  obtain ⟨w1, hw1⟩ : ∃ X, w.alloc (.cells #[.int .i64 e.k, .int .i64 e.o, .string e.s, .int .i64 e.v, .slice a n c] TX) = X := ⟨_, rfl⟩
  have hb1 : Below w.heap.size w w1 := by rw [← hw1]; exact below_allocW w _
  have hx1 : AtX w1 w.heap.size 0 e (.slice a n c) := by rw [← hw1]; exact boxX w e.k e.o e.s e.v _ e.es
  have HCK := Lib.hid (rCheck_any e (.slice a n c) w1 (hK.carry hb1) hf)
  have HW := Lib.hid hw1
  have HX1 := Lib.hid hx1
  have HB1 := Lib.hid hb1
  have HK := Lib.hid hK
  obtain ⟨C, hC⟩ : ∃ C, ckE e = C := ⟨_, rfl⟩
  rw [hC] at HCK
  simp only [exV] at HCK ⊢
  have HCE := Lib.hid hC
  clear hw1 hx1 hb1 hK hC
  by_cases h : C = 0
  · obtain ⟨q1, q2⟩ := ieq h
    have HN : Hid (txF e = txE e) := Lib.hid (by unfold txF; rw [if_pos (HCE.out.trans h)])
    have HT := Lib.hid (rtext_any e (ckE_ok.1 (HCE.out.trans h)).2.2 (ckE_ok.1 (HCE.out.trans h)).1)
    have HC2 : Hid (ckE e = 0) := Lib.hid (HCE.out.trans h)
    subst h
    go_enter Tryz.func10, Tryz.ntmps10
    go_wp2_with fail
    rw [HW.out]
    refine HCK.out.mono ?_
    rintro x w2 ⟨rfl, b2⟩
    have HX2 := Lib.hid (AtX.later HX1.out b2)
    have HB2 := Lib.hid (HB1.out.trans (b2.mono HB1.out.size))
    obtain ⟨r0, r1, r2, r3, r4⟩ := HX2.out
    simp only [Nat.zero_add] at r1 r2 r3 r4
    have HIN := Lib.hid (HT.out (.slice a n c) w2 (HK.out.carry HB2.out))
    simp only [exV] at HIN
    clear b2
    go_wp2_with fail
    refine HIN.out.mono ?_
    rintro x w4 ⟨rfl, b4⟩
    have HB4 := Lib.hid (HB2.out.trans (b4.mono HB2.out.size))
    clear b4
    go_wp2
    go_ret2
    exact ⟨by rw [HN.out, HC2.out]; rfl, HB4.out⟩
  · obtain ⟨q1, q2⟩ := ine h
    have HN : Hid (txF e = ⟨#[]⟩) := Lib.hid (by unfold txF; rw [if_neg (by rw [HCE.out]; exact h)]; rfl)
    clear h
    go_enter Tryz.func10, Tryz.ntmps10
    go_wp2_with fail
    rw [HW.out]
    refine HCK.out.mono ?_
    rintro x w2 ⟨rfl, b2⟩
    have HB2 := Lib.hid (HB1.out.trans (b2.mono HB1.out.size))
    clear b2
    go_wp2
    go_ret2
    exact ⟨by rw [HN.out, HCE.out]; rfl, HB2.out⟩

set_option maxRecDepth 100000 in
set_option maxHeartbeats 4000000 in
theorem eqStr_any (ss : List (List UInt8)) (u v : Value) (w : World) (hu : KS w u ss) (hv : KS w v ss) :
    Calls Tryz.prog 15 #[u, v] w fun e w' => e = .returned (.bool true) ∧ Below w.heap.size w w' := by
  obtain ⟨a, c, rfl, h1, h2, _⟩ := id hu
  obtain ⟨a', c', rfl, h1', h2', _⟩ := id hv
  have HU := Lib.hid hu
  have HV := Lib.hid hv
  have e0 : ((ss.length : Int) != (ss.length : Int)) = false := by simp
  clear hu hv
  go_enter Tryz.func15, Tryz.ntmps15
  go_wp2
  go_loopw [13] (fun x wr => ∃ j : Nat, j ≤ ss.length ∧ x = .int .i64 j ∧ Hid (Below w.heap.size w wr)) (fun x _ => ss.length - (intOf x).toNat)
  case atStart => exact ⟨0, Nat.zero_le _, rfl, Lib.hid (Below.refl _ _)⟩
  case round =>
    obtain ⟨j, hj, rfl, HB⟩ := hrel
    by_cases hlt : j < ss.length
    · have k1 : (j : Int) < (ss.length : Int) := by omega
      obtain ⟨wd, hwd⟩ : ∃ W, wr.drew = W := ⟨_, rfl⟩
      have HBd : Hid (Below w.heap.size w wd) := Lib.hid (by rw [← hwd]; exact HB.out.drew)
      obtain ⟨b, off, rfl, _, y0⟩ := KS.at2 (HU.out.carry HBd.out) j hlt
      obtain ⟨b', off', rfl, _, y1⟩ := KS.at2 (HV.out.carry HBd.out) j hlt
      obtain ⟨q, hq1, hq2⟩ := gs_str ss j
      rw [hq1] at y0 y1
      obtain ⟨s1, s2, s3⟩ := str_yes (show q = q from rfl)
      clear hq1 hq2
      go_wp2_with fail
      refine wp_region_still_tail 8 (by kernel_rfl) (by kernel_rfl) ?_
      change wpStill _ _ wr.drew (fun a' => wpList _ _ _ _ a' wr.drew) _ _
      rw [hwd]
      clear hwd
      simp only [List.take_succ_cons, List.take_zero, List.drop_succ_cons, List.drop_zero]
      repeat still_step
      refine wpStill_nil ?_
      go_wp2
      go_roundw
      case rel => exact ⟨j + 1, by omega, by go_num, HBd⟩
      case measure => simp [intOf]; omega
    · have k1 : ¬ (j : Int) < (ss.length : Int) := by omega
      go_wp2
      go_ret
      exact ⟨rfl, HB.out⟩

end Go.Proofs.YtfgaihajopfmfaaGreatDoor
