/-
  The walk of DequePlay.
-/
import Derived.Test.YtmgadcfiaipimaaDqAwake
import Derived.Test.YtmgadcfiaipimaaDqRPlay
import Derived.Test.YtmgadcfiaipimaaDqOpen
namespace Go.Proofs.Ytmgadcfiaipimaa
open Go.RowKit

set_option maxRecDepth 100000 in
set_option maxHeartbeats 8000000 in
theorem dequePlay_walk (v u : Value) (l : List Int) (ops : List (Int × Int)) (w : World) (hK : KZ w v l) (hE : KE w u ops) :
    Calls Try.prog 4 #[v, u] w fun e w' => e = .returned (.bool true) ∧ Below w.heap.size w w' := by
  have HB0 : Hid (Below w.heap.size w w) := Lib.hid (Below.refl _ w)
  have K0 := Lib.hid hK
  have E0 := Lib.hid hE
  obtain ⟨ad, cap, rfl, hc1, hc2, hA⟩ := hK
  obtain ⟨ae, cae, rfl, he1, he2, hAE⟩ := hE
  clear hA hAE
  by_cases hg : 40 < l.length
  · have hgI : (40 : Int) < (l.length : Int) := by omega
    go_enter Try.func4, Try.ntmps4
    have hC1 := awake_any w
    have HC1 := Lib.hid hC1
    clear hC1
    go_wp2_with fail
    refine HC1.out.mono ?_
    rintro e w1 ⟨rfl, b1⟩
    have HB1 := Lib.hid (HB0.out.trans (b1.mono HB0.out.size))
    clear b1
    go_wp2
    go_ret
    exact ⟨rfl, HB1.out⟩
  · have hgI : ¬ (40 : Int) < (l.length : Int) := by omega
    by_cases hh : 40 < ops.length
    · have hhI : (40 : Int) < (ops.length : Int) := by omega
      go_enter Try.func4, Try.ntmps4
      have hC1 := awake_any w
      have HC1 := Lib.hid hC1
      clear hC1
      go_wp2_with fail
      refine HC1.out.mono ?_
      rintro e w1 ⟨rfl, b1⟩
      have HB1 := Lib.hid (HB0.out.trans (b1.mono HB0.out.size))
      clear b1
      go_wp2
      go_ret
      exact ⟨rfl, HB1.out⟩
    · have hhI : ¬ (40 : Int) < (ops.length : Int) := by omega
      obtain ⟨⟨SL, SO, SE⟩, hS⟩ : ∃ q, playS l ops = q := ⟨_, rfl⟩
      have HS := Lib.hid hS
      clear hS
      have nSE : (SE != SE) = false := by simp
      have mSE : (SE == SE) = true := by simp
      go_enter Try.func4, Try.ntmps4
      have hC1 := play_any _ _ l ops w K0.out E0.out
      unfold RetP at hC1
      rw [HS.out] at hC1
      have HC1 := Lib.hid hC1
      clear hC1
      go_wp2_with fail
      refine HC1.out.mono ?_
      rintro e w1 ⟨ua, ux, rfl, ka, kx, b1⟩
      have HB1 := Lib.hid (HB0.out.trans (b1.mono HB0.out.size))
      have Kl_1 := Lib.hid (KZ.below K0.out b1)
      have Eo_1 := Lib.hid (KE.below E0.out b1)
      have Ka_1 := Lib.hid (ka.kz)
      have Kx_1 := Lib.hid (kx.kz)
      clear b1 ka kx
      have hC2 := rPlay_any _ _ l ops w1 Kl_1.out Eo_1.out
      rw [HS.out] at hC2
      have HC2 := Lib.hid hC2
      clear hC2
      go_wp2_with fail
      refine HC2.out.mono ?_
      rintro e w2 ⟨ub, uy, rfl, kb, ky, b2⟩
      have HB2 := Lib.hid (HB1.out.trans (b2.mono HB1.out.size))
      have Kl_2 := Lib.hid (KZ.below Kl_1.out b2)
      have Ka_2 := Lib.hid (KZ.below Ka_1.out b2)
      have Kx_2 := Lib.hid (KZ.below Kx_1.out b2)
      have Eo_2 := Lib.hid (KE.below Eo_1.out b2)
      have Kb_2 := Lib.hid (kb)
      have Ky_2 := Lib.hid (ky)
      clear b2 kb ky
      have hC3 := same_yes _ _ SL w2 Ka_2.out Kb_2.out
      have HC3 := Lib.hid hC3
      clear hC3
      go_wp2_with fail
      refine HC3.out.mono ?_
      rintro e w3 ⟨rfl, b3⟩
      have HB3 := Lib.hid (HB2.out.trans (b3.mono HB2.out.size))
      have Ka_3 := Lib.hid (KZ.below Ka_2.out b3)
      have Kx_3 := Lib.hid (KZ.below Kx_2.out b3)
      have Kb_3 := Lib.hid (KZ.below Kb_2.out b3)
      have Ky_3 := Lib.hid (KZ.below Ky_2.out b3)
      clear b3
      have hC4 := same_yes _ _ SO w3 Kx_3.out Ky_3.out
      have HC4 := Lib.hid hC4
      clear hC4
      go_wp2_with fail
      refine HC4.out.mono ?_
      rintro e w4 ⟨rfl, b4⟩
      have HB4 := Lib.hid (HB3.out.trans (b4.mono HB3.out.size))
      have Kx_4 := Lib.hid (KZ.below Kx_3.out b4)
      have Ky_4 := Lib.hid (KZ.below Ky_3.out b4)
      clear b4
      have hC5 := awake_any w4
      have HC5 := Lib.hid hC5
      clear hC5
      go_wp2_with fail
      refine HC5.out.mono ?_
      rintro e w5 ⟨rfl, b5⟩
      have HB5 := Lib.hid (HB4.out.trans (b5.mono HB4.out.size))
      clear b5
      go_wp2
      go_ret
      exact ⟨rfl, HB5.out⟩

end Go.Proofs.Ytmgadcfiaipimaa
