/-
  What the program's Check of waiters returns.
-/
import Derived.Test.YtonjempbphnimaaWlVal
namespace Go.Proofs.Ytonjempbphnimaa
open Go.RowKit Go.Shelf

set_option maxRecDepth 100000 in
set_option maxHeartbeats 4000000 in
theorem wCheck_any (φ : Nat → Prop) (ad : Option Addr) (cap : Nat) (kd : Int) (ts : List Wl) (w : World) (hA : WlA φ w ad ts) (hl : ts.length ≤ 9223372036854775807) :
    Calls Try.prog 15 #[.int .i64 kd, .slice ad ts.length cap] w fun e w' => e = .returned (.int .i64 (wchE kd ts)) ∧ Below w.heap.size w w' := by
  have HA := Lib.hid hA
  have H0 : Hid (kindP kd → ¬ 96 < ts.length → wchE kd ts = wchk kd (ts.take 0) (ts.drop 0)) := Lib.hid (fun h1 h2 => by unfold wchE; rw [if_neg (by simpa using h1), if_neg h2]; rfl)
  clear hA
  by_cases hk : kindP kd
  · by_cases h96 : 96 < ts.length
    · have hr : wchE kd ts = 4 := by unfold wchE; rw [if_neg (by simpa using hk), if_pos h96]
      rw [hr]
      have h97 : (96 : Int) < (ts.length : Int) := by omega
      clear hr h96
      rcases hk with rfl | rfl
      · go_enter Try.func15, Try.ntmps15
        go_wp2
        go_ret
        exact ⟨rfl, Below.refl _ _⟩
      · go_enter Try.func15, Try.ntmps15
        go_wp2
        go_ret
        exact ⟨rfl, Below.refl _ _⟩
    · have H0 := Lib.hid (H0.out hk h96)
      have h97 : ¬ (96 : Int) < (ts.length : Int) := by omega
      have hln : ts.length ≤ 96 := by omega
      clear h96
      rcases hk with rfl | rfl
      · go_enter Try.func15, Try.ntmps15
        go_wp2
        go_loopw [18] (fun x wr => ∃ k : Nat, k ≤ ts.length ∧ x = .int .i64 k ∧ Hid (wchE 1 ts = wchk 1 (ts.take k) (ts.drop k)) ∧ Hid (Below w.heap.size w wr)) (fun x _ => ts.length - (intOf x).toNat)
        case atStart => exact ⟨0, Nat.zero_le _, rfl, H0, Lib.hid (Below.refl _ _)⟩
        case round =>
          obtain ⟨k, hk, rfl, HI, HB⟩ := hrel
          by_cases hkt : k < ts.length
          · have k1 : (k : Int) < (ts.length : Int) := by omega
            obtain ⟨bk, off, rfl, _, hb, c0, c1, c2, c3, c4⟩ := HA.out.below HB.out k hkt
            obtain ⟨⟨a, b, c, d, f⟩, ht⟩ : ∃ t, gw ts k = t := ⟨_, rfl⟩
            rw [ht] at c0 c1 c2 c3 c4
            simp only [] at c0 c1 c2 c3 c4
            have hba : Below wr.heap.size wr (wr.alloc (.cells #[.int .i64 a, .int .i64 b, .int .i64 c, .int .i64 d, .int .i64 f] TW)) := (Below.refl _ wr).alloc (Nat.le_refl _) _
            have hV := isValid_any a b c d f (wr.alloc (.cells #[.int .i64 a, .int .i64 b, .int .i64 c, .int .i64 d, .int .i64 f] TW))
            have HBA := Lib.hid (HB.out.trans (hba.mono HB.out.size))
            cases ho : okW (a, b, c, d, f) with
            | false =>
              have HR := Lib.hid (wch_bad hkt ht ho HI.out)
              rw [ho] at hV
              have HV := Lib.hid hV
              clear ho ht hba hV
              go_wp2_with fail
              refine HV.out.mono ?_
              rintro e w4 ⟨rfl, b4⟩
              have HB4 := Lib.hid (HBA.out.trans (b4.mono HBA.out.size))
              clear b4
              go_wp2
              go_ret
              exact ⟨by rw [HR.out]; rfl, HB4.out⟩
            | true =>
              have HR := Lib.hid (wch_next hkt ht ho (fun h => (by cases h)) HI.out)
              rw [ho] at hV
              have HV := Lib.hid hV
              clear ho ht hba hV
              go_wp2_with fail
              refine HV.out.mono ?_
              rintro e w4 ⟨rfl, b4⟩
              have HB4 := Lib.hid (HBA.out.trans (b4.mono HBA.out.size))
              clear b4
              go_wp2_with fail
              go_quiet (fail)
              go_wp2
              go_roundw
              case rel => exact ⟨k + 1, by omega, by go_num, HR, Lib.hid ⟨HB4.out.os, HB4.out.tape, HB4.out.output, HB4.out.size, HB4.out.block⟩⟩
              case measure => simp [intOf]; omega
          · have HE := Lib.hid (wch_end (by omega) HI.out)
            have k2 : ¬ (k : Int) < (ts.length : Int) := by omega
            go_wp2
            go_ret
            exact ⟨by rw [HE.out]; rfl, HB.out⟩
      · go_enter Try.func15, Try.ntmps15
        go_wp2
        go_loopw [18] (fun x wr => ∃ k : Nat, k ≤ ts.length ∧ x = .int .i64 k ∧ Hid (wchE 2 ts = wchk 2 (ts.take k) (ts.drop k)) ∧ Hid (Below w.heap.size w wr)) (fun x _ => ts.length - (intOf x).toNat)
        case atStart => exact ⟨0, Nat.zero_le _, rfl, H0, Lib.hid (Below.refl _ _)⟩
        case round =>
          obtain ⟨k, hk, rfl, HI, HB⟩ := hrel
          by_cases hkt : k < ts.length
          · have k1 : (k : Int) < (ts.length : Int) := by omega
            have hAr := HA.out.below HB.out
            obtain ⟨bk, off, rfl, _, hb, c0, c1, c2, c3, c4⟩ := hAr k hkt
            obtain ⟨⟨a, b, c, d, f⟩, ht⟩ : ∃ t, gw ts k = t := ⟨_, rfl⟩
            rw [ht] at c0 c1 c2 c3 c4
            simp only [] at c0 c1 c2 c3 c4
            have hba : Below wr.heap.size wr (wr.alloc (.cells #[.int .i64 a, .int .i64 b, .int .i64 c, .int .i64 d, .int .i64 f] TW)) := (Below.refl _ wr).alloc (Nat.le_refl _) _
            have hV := isValid_any a b c d f (wr.alloc (.cells #[.int .i64 a, .int .i64 b, .int .i64 c, .int .i64 d, .int .i64 f] TW))
            have HBA := Lib.hid (HB.out.trans (hba.mono HB.out.size))
            have HX := Lib.hid (box5 wr a b c d f)
            have HAA := Lib.hid (hAr.below hba)
            cases ho : okW (a, b, c, d, f) with
            | false =>
              have HR := Lib.hid (wch_bad hkt ht ho HI.out)
              rw [ho] at hV
              have HV := Lib.hid hV
              clear ho ht hba hV
              go_wp2_with fail
              refine HV.out.mono ?_
              rintro e w4 ⟨rfl, b4⟩
              have HB4 := Lib.hid (HBA.out.trans (b4.mono HBA.out.size))
              clear b4
              go_wp2
              go_ret
              exact ⟨by rw [HR.out]; rfl, HB4.out⟩
            | true =>
              rw [ho] at hV
              have HV := Lib.hid hV
              have HT := Lib.hid ht
              have HO := Lib.hid ho
              clear ho ht hba hV
              go_wp2_with fail
              refine HV.out.mono ?_
              rintro e w4 ⟨rfl, b4⟩
              have HB4 := Lib.hid (HBA.out.trans (b4.mono HBA.out.size))
              clear c0 c1 c2 c3 c4
              obtain ⟨x0, x1, x2, x3, x4⟩ := HX.out.below b4
              have HA4 := Lib.hid (HAA.out.below b4)
              clear b4
              by_cases h0 : k = 0
              · subst h0
                have HR := Lib.hid (wch_next hkt HT.out HO.out (fun _ h => absurd h (by omega)) HI.out)
                go_wp2_with fail
                go_quiet (fail)
                go_wp2
                go_roundw
                case rel => exact ⟨1, by omega, by go_num, HR, Lib.hid ⟨HB4.out.os, HB4.out.tape, HB4.out.output, HB4.out.size, HB4.out.block⟩⟩
                case measure => simp [intOf]; omega
              · have q0 : decide (0 < (k : Int)) = true := decide_eq_true (by omega)
                have q1 : decide (0 < k) = true := decide_eq_true (by omega)
                have q2 : (0 : Int) ≤ (k : Int) - 1 := by omega
                have q3 : ((k : Int) - 1).toNat = k - 1 := by omega
                have q4 : IntKind.i64.wrap ((k : Int) - 1) = (k : Int) - 1 := IntWalk.i64_in _ (by omega)
                have q5 : (k : Int) - 1 < (ts.length : Int) := by omega
                have q7 : (0 : Int) < (k : Int) := by omega
                obtain ⟨bk', off', e', _, _, _, _, _, y3, _⟩ := HA4.out (k - 1) (by omega)
                cases e'
                obtain ⟨p, hp⟩ : ∃ p, (gw ts (k - 1)).2.2.2.1 = p := ⟨_, rfl⟩
                rw [hp] at y3
                by_cases hlt : p < d
                · have HR := Lib.hid (wch_low hkt HT.out HO.out rfl (by omega) (by rw [hp]; exact hlt) HI.out)
                  have m1 : decide (p < d) = true := decide_eq_true hlt
                  clear hp hlt x0 x1 x2 x4 h0
                  go_wp2_with fail
                  go_quiet (fail)
                  go_wp2
                  go_ret
                  exact ⟨by rw [HR.out]; rfl, ⟨HB4.out.os, HB4.out.tape, HB4.out.output, HB4.out.size, HB4.out.block⟩⟩
                · have HR := Lib.hid (wch_next hkt HT.out HO.out (fun _ _ => by rw [hp]; exact hlt) HI.out)
                  have m1 : decide (p < d) = false := decide_eq_false hlt
                  clear hp hlt x0 x1 x2 x4 h0
                  go_wp2_with fail
                  go_quiet (fail)
                  go_wp2
                  go_roundw
                  case rel => exact ⟨k + 1, by omega, by go_num, HR, Lib.hid ⟨HB4.out.os, HB4.out.tape, HB4.out.output, HB4.out.size, HB4.out.block⟩⟩
                  case measure => simp [intOf]; omega
          · have HE := Lib.hid (wch_end (by omega) HI.out)
            have k2 : ¬ (k : Int) < (ts.length : Int) := by omega
            go_wp2
            go_ret
            exact ⟨by rw [HE.out]; rfl, HB.out⟩
  · have hr : wchE kd ts = 8 := by unfold wchE; rw [if_pos hk]
    rw [hr]
    have b1 : (kd != 1) = true := by rw [bne_iff_ne]; exact fun e => hk (.inl e)
    have b2 : (kd != 2) = true := by rw [bne_iff_ne]; exact fun e => hk (.inr e)
    clear hk hr
    go_enter Try.func15, Try.ntmps15
    go_wp2
    go_ret
    exact ⟨rfl, Below.refl _ _⟩

end Go.Proofs.Ytonjempbphnimaa
