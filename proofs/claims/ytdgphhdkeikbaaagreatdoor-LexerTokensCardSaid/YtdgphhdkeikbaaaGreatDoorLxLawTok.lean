/-
  The walk of LexerTokens.
-/
import Derived.Test.YtdgphhdkeikbaaaGreatDoorLxAwake
import Derived.Test.YtdgphhdkeikbaaaGreatDoorLxRef5
namespace Go.Proofs.YtdgphhdkeikbaaaGreatDoor
set_option linter.unusedSimpArgs false
set_option linter.unusedVariables false
open Go.RowKit

/-- The reference's Tokens, of known results. -/
theorem rtokA (s : ByteArray) (ts : List Tk) (i : Nat) (q : Int) (w : World) (hs : s.size ≤ 9223372036854775807) (h : lexT s = (ts, i, q)) :
    Calls Tryz.prog 8 #[.string s] w fun x w' => ∃ a n c, x = .returned (.tuple #[.slice a n c, .int .i64 (i : Int), .int .i64 q]) ∧ LkC (fun b => w.heap.size ≤ b) w' (.slice a n c) ts ∧ Below w.heap.size w w' := by
  have := rTokens_any s w hs
  rw [h] at this
  refine this.mono ?_
  rintro x w' ⟨v, rfl, ⟨a, c, rfl, q⟩, hb⟩
  exact ⟨a, _, c, rfl, ⟨a, c, rfl, q⟩, hb⟩
set_option maxRecDepth 100000 in
set_option maxHeartbeats 16000000 in
theorem lexerTokens_walk (s : ByteArray) (at_ : Int) (w : World) (hV : LxV w) (hT : TabJ w) :
    Calls Tryz.prog 3 #[.string s, .int .i64 at_] w fun e w' => e = .returned (.bool true) ∧ Below w.heap.size w w' := by
  have HB0 : Hid (Below w.heap.size w w) := Lib.hid (Below.refl _ w)
  have ZV_0 := Lib.hid hV
  have ZT_0 := Lib.hid hT
  clear hV hT
  by_cases h : 400 < s.size
  · have h1 : (400 : Int) < (s.size : Int) := by omega
    clear h
    go_enter Tryz.func3, Tryz.ntmps3
    have hC1 := awake_any w ZV_0.out ZT_0.out
    have HC1 := Lib.hid hC1
    clear hC1
    go_wp2_with fail
    refine HC1.out.mono ?_
    rintro e w1 ⟨rfl, b1⟩
    have HB1 := Lib.hid (HB0.out.trans (b1.mono HB0.out.size))
    have ZV_1 := Lib.hid (LxV.carry ZV_0.out b1)
    have ZT_1 := Lib.hid (TabJ.below ZT_0.out b1)
    clear b1 HC1
    go_wp2
    go_ret
    exact ⟨rfl, HB1.out⟩
  · have h1 : ¬ (400 : Int) < (s.size : Int) := by omega
    have hs : s.size ≤ 9223372036854775807 := by omega
    have HP := Lib.hid (fun W => Position_any s at_ W (by omega))
    have HRP := Lib.hid (fun W => rPosition_any s at_ W (by omega))
    have HKW := Lib.hid (fun W => Keyword_any s W)
    have HRK := Lib.hid (fun W => rKeyword_any s W)
    obtain ⟨ts, i, q, hl⟩ : ∃ e i q, lexT s = (e, i, q) := ⟨_, _, _, rfl⟩
    obtain ⟨⟨l, c⟩, hpo⟩ : ∃ p, posF s at_ = p := ⟨_, rfl⟩
    obtain ⟨kb, hkb⟩ : ∃ b, kwB s = b := ⟨_, rfl⟩
    rw [hpo] at HP HRP
    rw [hkb] at HKW HRK
    simp only at HP HRP
    have HL := Lib.hid hl
    have e1 := (ieq (show (i : Int) = i from rfl)).1
    have e2 := (ieq (show q = q from rfl)).1
    have e3 := (ieq (show l = l from rfl)).1
    have e4 := (ieq (show c = c from rfl)).1
    have e5 : (kb == kb) = true := by simp
    clear h hl hpo hkb
    go_enter Tryz.func3, Tryz.ntmps3
    have hC1 := tokA s ts i q w hs ZV_0.out HL.out
    have HC1 := Lib.hid hC1
    clear hC1
    go_wp2_with fail
    refine HC1.out.mono ?_
    rintro e w1 ⟨ax, mx, cx, rfl, kx, b1⟩
    have HB1 := Lib.hid (HB0.out.trans (b1.mono HB0.out.size))
    have ZV_1 := Lib.hid (LxV.carry ZV_0.out b1)
    have ZT_1 := Lib.hid (TabJ.below ZT_0.out b1)
    clear b1 HC1
    have Zx_1 := Lib.hid (LkC.any kx)
    clear kx
    have hC2 := rtokA s ts i q w1 hs HL.out
    have HC2 := Lib.hid hC2
    clear hC2
    go_wp2_with fail
    refine HC2.out.mono ?_
    rintro e w2 ⟨ay, my, cy, rfl, ky, b2⟩
    have HB2 := Lib.hid (HB1.out.trans (b2.mono HB1.out.size))
    have ZV_2 := Lib.hid (LxV.carry ZV_1.out b2)
    have ZT_2 := Lib.hid (TabJ.below ZT_1.out b2)
    have Zx_2 := Lib.hid (LkC.below Zx_1.out b2)
    clear b2 HC2
    have Zy_2 := Lib.hid (LkC.any ky)
    clear ky
    go_wp2_with fail
    refine (HP.out _).mono ?_
    rintro e wq ⟨rfl, hw⟩
    have hw := hw.symm
    subst hw
    go_wp2_with fail
    refine (HRP.out _).mono ?_
    rintro e wq ⟨rfl, hw⟩
    have hw := hw.symm
    subst hw
    have hC3 := rSame_at anyB anyB (.slice ax mx cx) (.slice ay my cy) ts ts w2 Zx_2.out Zy_2.out
    rw [decide_eq_true (rfl : ts = ts)] at hC3
    have HC3 := Lib.hid hC3
    clear hC3
    go_wp2_with fail
    refine HC3.out.mono ?_
    rintro e w3 ⟨rfl, b3⟩
    have HB3 := Lib.hid (HB2.out.trans (b3.mono HB2.out.size))
    have ZV_3 := Lib.hid (LxV.carry ZV_2.out b3)
    have ZT_3 := Lib.hid (TabJ.below ZT_2.out b3)
    have Zx_3 := Lib.hid (LkC.below Zx_2.out b3)
    have Zy_3 := Lib.hid (LkC.below Zy_2.out b3)
    clear b3 HC3
    go_wp2_with fail
    refine (HKW.out _).mono ?_
    rintro e wq ⟨rfl, hw⟩
    have hw := hw.symm
    subst hw
    have hC4 := HRK.out w3
    have HC4 := Lib.hid hC4
    clear hC4
    go_wp2_with fail
    refine HC4.out.mono ?_
    rintro e w4 ⟨rfl, b4⟩
    have HB4 := Lib.hid (HB3.out.trans (b4.mono HB3.out.size))
    have ZV_4 := Lib.hid (LxV.carry ZV_3.out b4)
    have ZT_4 := Lib.hid (TabJ.below ZT_3.out b4)
    have Zx_4 := Lib.hid (LkC.below Zx_3.out b4)
    have Zy_4 := Lib.hid (LkC.below Zy_3.out b4)
    clear b4 HC4
    have hC5 := awake_any w4 ZV_4.out ZT_4.out
    have HC5 := Lib.hid hC5
    clear hC5
    go_wp2_with fail
    refine HC5.out.mono ?_
    rintro e w5 ⟨rfl, b5⟩
    have HB5 := Lib.hid (HB4.out.trans (b5.mono HB4.out.size))
    have ZV_5 := Lib.hid (LxV.carry ZV_4.out b5)
    have ZT_5 := Lib.hid (TabJ.below ZT_4.out b5)
    have Zx_5 := Lib.hid (LkC.below Zx_4.out b5)
    have Zy_5 := Lib.hid (LkC.below Zy_4.out b5)
    clear b5 HC5
    go_wp2
    go_ret
    exact ⟨rfl, HB5.out⟩

end Go.Proofs.YtdgphhdkeikbaaaGreatDoor
