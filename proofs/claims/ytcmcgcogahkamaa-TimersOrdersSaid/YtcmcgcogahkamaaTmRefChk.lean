/-
  What the reference's Check of timers returns.
-/
import Derived.Test.YtcmcgcogahkamaaTmRef
namespace Go.Proofs.Ytcmcgcogahkamaa
open Go.RowKit Go.Shelf

set_option maxRecDepth 100000 in
set_option maxHeartbeats 4000000 in
/-- Check. -/
theorem rCheck_any (φ : Nat → Prop) (ad : Option Addr) (cap : Nat) (ts : List Tm) (w : World) (hA : TmA φ w ad ts) (hl : ts.length ≤ 1000) :
    Calls Try.prog 17 #[.slice ad ts.length cap] w fun e w' => e = .returned (.int .i64 (chkE ts)) ∧ Below w.heap.size w w' := by
  have HA := Lib.hid hA
  have H0 : Hid (chkE ts = chkT (ts.take 0) (ts.drop 0)) := Lib.hid rfl
  clear hA
  go_enter Try.func17, Try.ntmps17
  go_wp2
  go_loopw [3] (fun x wr => ∃ k : Nat, k ≤ ts.length ∧ x = .int .i64 k ∧ Hid (chkE ts = chkT (ts.take k) (ts.drop k)) ∧ Hid (Below w.heap.size w wr)) (fun x _ => ts.length - (intOf x).toNat)
  case atStart => exact ⟨0, Nat.zero_le _, rfl, H0, Lib.hid (Below.refl _ _)⟩
  case round =>
    obtain ⟨k, hk, rfl, HI, HB⟩ := hrel
    by_cases hkt : k < ts.length
    · have k1 : (k : Int) < (ts.length : Int) := by omega
      have hAr := HA.out.below HB.out
      obtain ⟨bk, off, rfl, _, hbk, c0, c1, c2⟩ := hAr k hkt
      obtain ⟨⟨a, b, c⟩, ht⟩ : ∃ t, gt ts k = t := ⟨_, rfl⟩
      rw [ht] at c0 c1 c2
      simp only [] at c0 c1 c2
      have HT := Lib.hid ht
      have HAr := Lib.hid hAr
      have HC := rOne_any a b c wr
      by_cases ho : oneE (a, b, c) ≠ 0
      · have HR : Hid (chkE ts = oneE (a, b, c)) := Lib.hid (chk_bad hkt ht ho HI.out)
        have hob : (oneE (a, b, c) != 0) = true := by simpa using ho
        obtain ⟨x, hx⟩ : ∃ x, oneE (a, b, c) = x := ⟨_, rfl⟩
        rw [hx] at HC hob HR
        have HC := Lib.hid HC
        clear ho ht hx hAr
        go_wp2_with fail
        refine HC.out.mono ?_
        rintro e w4 ⟨rfl, b4⟩
        have B4 := Lib.hid (HB.out.trans (b4.mono HB.out.size))
        clear b4
        go_wp2
        go_ret
        exact ⟨by rw [HR.out]; rfl, B4.out⟩
      · have ho : oneE (a, b, c) = 0 := by simpa using ho
        have HO := Lib.hid ho
        rw [ho] at HC
        have HC := Lib.hid HC
        clear ho ht hAr
        go_wp2_with fail
        refine HC.out.mono ?_
        rintro e w4 ⟨rfl, b4⟩
        have HA4 := Lib.hid (HAr.out.below b4)
        have HB4 := Lib.hid (HB.out.trans (b4.mono HB.out.size))
        clear b4 c0 c1 c2
        by_cases h0 : k = 0
        · have HLOW : Hid (0 < k → lesB (gt ts (k - 1)) (a, b, c) = true) := Lib.hid (fun h => by omega)
          have q0 : decide (0 < (k : Int)) = false := decide_eq_false (by omega)
          have q1 : decide (0 < k) = false := decide_eq_false (by omega)
          clear h0
          go_wp2_with fail
          go_quiet (fail)
          clear q0 q1
          have HA5 : Hid (TmA φ (w4.drewN nq) (some ⟨bk, off, none⟩) ts) := HA4
          have HB5 : Hid (Below w.heap.size w (w4.drewN nq)) := Lib.hid ⟨HB4.out.os, HB4.out.tape, HB4.out.output, HB4.out.size, HB4.out.block⟩
          go_wp2_with fail
          go_wp2
          obtain ⟨wo, hwo⟩ : ∃ W, W = w4.drewN nq := ⟨_, rfl⟩
          rw [← hwo] at HA5 HB5
          rw [← hwo]
          clear hwo
          go_loopw [5] (fun x wr => ∃ j : Nat, j ≤ k ∧ x = .int .i64 j ∧ Hid (hasK (ts.take j) b c = false) ∧ Hid (TmA φ wr (some ⟨bk, off, none⟩) ts) ∧ Hid (Below w.heap.size w wr)) (fun x _ => k - (intOf x).toNat)
          case atStart => exact ⟨0, Nat.zero_le _, rfl, Lib.hid rfl, HA5, HB5⟩
          case round =>
            obtain ⟨j, hj, rfl, HH, HAj, HBj⟩ := hrel
            by_cases hjk : j < k
            · have m1 : (j : Int) < (k : Int) := by omega
              have m2 : (j : Int) < (ts.length : Int) := by omega
              have m3 : (0 : Int) ≤ (j : Int) := by omega
              have m4 : (0 : Int) ≤ (k : Int) := by omega
              obtain ⟨b1, o1, e1, _, _, c0, c1, c2⟩ := HAj.out k hkt
              cases e1
              obtain ⟨b1, o1, e1, _, _, p0, p1, p2⟩ := HAj.out j (by omega)
              cases e1
              rw [HT.out] at c0 c1 c2
              simp only [] at c0 c1 c2
              obtain ⟨⟨x, y, z⟩, hp⟩ : ∃ t, gt ts j = t := ⟨_, rfl⟩
              rw [hp] at p0 p1 p2
              simp only [] at p0 p1 p2
              have hSM := fun W => rSame_any x y z a b c W
              have HTK : Hid (hasK (ts.take (j + 1)) b c = keyB (x, y, z) b c) := Lib.hid (by rw [take_snocT ts j (by omega), hasK_snoc, HH.out, hp]; simp)
              clear hp
              go_wp2_with fail
              refine wp_region_still_tail 8 (by kernel_rfl) (by kernel_rfl) ?_
              obtain ⟨wd, hwd⟩ : ∃ W, wr.drew = W := ⟨_, rfl⟩
              change wpStill _ _ wr.drew (fun a' => wpList _ _ _ _ a' wr.drew) _ _
              have r0 : wd.cell? ⟨bk, off + j * 3, none⟩ = some (.int .i64 x) := by rw [← hwd]; exact p0
              have r1 : wd.cell? ⟨bk, off + j * 3 + 1, none⟩ = some (.int .i64 y) := by rw [← hwd]; exact p1
              have r2 : wd.cell? ⟨bk, off + j * 3 + 2, none⟩ = some (.int .i64 z) := by rw [← hwd]; exact p2
              have s0 : wd.cell? ⟨bk, off + k * 3, none⟩ = some (.int .i64 a) := by rw [← hwd]; exact c0
              have s1 : wd.cell? ⟨bk, off + k * 3 + 1, none⟩ = some (.int .i64 b) := by rw [← hwd]; exact c1
              have s2 : wd.cell? ⟨bk, off + k * 3 + 2, none⟩ = some (.int .i64 c) := by rw [← hwd]; exact c2
              have HAd : Hid (TmA φ wd (some ⟨bk, off, none⟩) ts) := by rw [← hwd]; exact HAj
              have HBd : Hid (Below w.heap.size w wd) := Lib.hid (by rw [← hwd]; exact HBj.out.drew)
              rw [hwd]
              clear hwd p0 p1 p2 c0 c1 c2
              simp only [List.take_succ_cons, List.take_zero, List.drop_succ_cons, List.drop_zero]
              repeat still_step
              refine wpStill_nil ?_
              cases hk2 : keyB (x, y, z) b c with
              | true =>
                simp only [hk2] at hSM
                have HSM := Lib.hid hSM
                have HR : Hid (chkE ts = 6) := Lib.hid (chk_dup hkt HT.out HO.out HLOW.out (by
                  obtain ⟨s, hs, h⟩ := hasK_iff.1 (HTK.out.trans hk2)
                  refine hasK_iff.2 ⟨s, ?_, h⟩
                  rw [show ts.take (j + 1) = (ts.take k).take (j + 1) by rw [List.take_take, Nat.min_eq_left (by omega)]] at hs
                  exact List.mem_of_mem_take hs) HI.out)
                clear hk2 hSM
                go_wp2_with fail
                refine (HSM.out _).mono ?_
                rintro e w8 ⟨rfl, b8⟩
                have HB8 := Lib.hid (HBd.out.trans (b8.mono HBd.out.size))
                clear b8
                go_wp2
                go_ret
                exact ⟨by rw [HR.out]; rfl, HB8.out⟩
              | false =>
                simp only [hk2] at hSM
                have HSM := Lib.hid hSM
                have HH' : Hid (hasK (ts.take (j + 1)) b c = false) := Lib.hid (HTK.out.trans hk2)
                clear hk2 hSM
                go_wp2_with fail
                refine (HSM.out _).mono ?_
                rintro e w8 ⟨rfl, b8⟩
                have HB8 := Lib.hid (HBd.out.trans (b8.mono HBd.out.size))
                have HA8 := Lib.hid (HAd.out.below b8)
                clear b8
                go_wp2
                go_roundw
                case rel => exact ⟨j + 1, by omega, by go_num, HH', HA8, HB8⟩
                case measure => simp [intOf]; omega
            · obtain rfl : j = k := by omega
              have HR := Lib.hid (chk_next hkt HT.out HO.out HLOW.out HH.out HI.out)
              have HBo := Lib.hid HBj.out
              have hnj : ¬ (j : Int) < (j : Int) := by omega
              go_wp2
              go_roundw
              case rel => exact ⟨j + 1, by omega, by go_num, HR, HBo⟩
              case measure => simp [intOf]; omega
        · have hk0 : 0 < k := by omega
          obtain ⟨bk', off', e', _, hbp, p0, p1, p2⟩ := HA4.out (k - 1) (by omega)
          cases e'
          obtain ⟨bk', off', e', _, hbp2, c0, c1, c2⟩ := HA4.out k hkt
          cases e'
          rw [HT.out] at c0 c1 c2
          simp only [] at c0 c1 c2
          obtain ⟨⟨x, y, z⟩, hp⟩ : ∃ t, gt ts (k - 1) = t := ⟨_, rfl⟩
          rw [hp] at p0 p1 p2
          simp only [] at p0 p1 p2
          have q0 : decide (0 < (k : Int)) = true := decide_eq_true (by omega)
          have q1 : decide (0 < k) = true := decide_eq_true (by omega)
          have q2 : (0 : Int) ≤ (k : Int) - 1 := by omega
          have q3 : ((k : Int) - 1).toNat = k - 1 := by omega
          have q4 : IntKind.i64.wrap ((k : Int) - 1) = (k : Int) - 1 := IntWalk.i64_in _ (by omega)
          have q5 : (k : Int) - 1 < (ts.length : Int) := by omega
          have q6 : (1 : Int) ≤ (k : Int) := by omega
          have q7 : (0 : Int) ≤ (k : Int) := by omega
          have hLS := fun W => rLess_any x y z a b c W
          clear h0
          go_wp2_with fail
          refine wp_region_still_tail 12 (by kernel_rfl) (by kernel_rfl) ?_
          obtain ⟨wd, hwd⟩ : ∃ W, w4.drew = W := ⟨_, rfl⟩
          change wpStill _ _ w4.drew (fun a' => wpList _ _ _ _ a' w4.drew) _ _
          have r0 : wd.cell? ⟨bk, off + (k - 1) * 3, none⟩ = some (.int .i64 x) := by rw [← hwd]; exact p0
          have r1 : wd.cell? ⟨bk, off + (k - 1) * 3 + 1, none⟩ = some (.int .i64 y) := by rw [← hwd]; exact p1
          have r2 : wd.cell? ⟨bk, off + (k - 1) * 3 + 2, none⟩ = some (.int .i64 z) := by rw [← hwd]; exact p2
          have s0 : wd.cell? ⟨bk, off + k * 3, none⟩ = some (.int .i64 a) := by rw [← hwd]; exact c0
          have s1 : wd.cell? ⟨bk, off + k * 3 + 1, none⟩ = some (.int .i64 b) := by rw [← hwd]; exact c1
          have s2 : wd.cell? ⟨bk, off + k * 3 + 2, none⟩ = some (.int .i64 c) := by rw [← hwd]; exact c2
          have HAd : Hid (TmA φ wd (some ⟨bk, off, none⟩) ts) := by rw [← hwd]; exact HA4
          have HBd : Hid (Below w.heap.size w wd) := Lib.hid (by rw [← hwd]; exact HB4.out.drew)
          rw [hwd]
          clear hwd p0 p1 p2 c0 c1 c2 HA4 HB4
          simp only [List.take_succ_cons, List.take_zero, List.drop_succ_cons, List.drop_zero]
          repeat still_step
          refine wpStill_nil ?_
          cases hle : lesB (x, y, z) (a, b, c) with
          | true =>
            have HLOW : Hid (0 < k → lesB (gt ts (k - 1)) (a, b, c) = true) := Lib.hid (fun _ => by rw [hp]; exact hle)
            simp only [hle] at hLS
            have HLS := Lib.hid hLS
            clear hle hp hLS
            go_wp2_with fail
            refine (HLS.out _).mono ?_
            rintro e w5 ⟨rfl, b5⟩
            have HA5 := Lib.hid (HAd.out.below b5)
            have HB5 := Lib.hid (HBd.out.trans (b5.mono HBd.out.size))
            clear b5 r0 r1 r2 s0 s1 s2 q0 q1 q2 q3 q4 q5 q6 q7
            go_wp2_with fail
            go_wp2
            obtain ⟨wo, hwo⟩ : ∃ W, W = w5 := ⟨_, rfl⟩
            rw [← hwo] at HA5 HB5
            rw [← hwo]
            clear hwo
            go_loopw [5] (fun x wr => ∃ j : Nat, j ≤ k ∧ x = .int .i64 j ∧ Hid (hasK (ts.take j) b c = false) ∧ Hid (TmA φ wr (some ⟨bk, off, none⟩) ts) ∧ Hid (Below w.heap.size w wr)) (fun x _ => k - (intOf x).toNat)
            case atStart => exact ⟨0, Nat.zero_le _, rfl, Lib.hid rfl, HA5, HB5⟩
            case round =>
              obtain ⟨j, hj, rfl, HH, HAj, HBj⟩ := hrel
              by_cases hjk : j < k
              · have m1 : (j : Int) < (k : Int) := by omega
                have m2 : (j : Int) < (ts.length : Int) := by omega
                have m3 : (0 : Int) ≤ (j : Int) := by omega
                have m4 : (0 : Int) ≤ (k : Int) := by omega
                obtain ⟨b1, o1, e1, _, _, c0, c1, c2⟩ := HAj.out k hkt
                cases e1
                obtain ⟨b1, o1, e1, _, _, p0, p1, p2⟩ := HAj.out j (by omega)
                cases e1
                rw [HT.out] at c0 c1 c2
                simp only [] at c0 c1 c2
                obtain ⟨⟨x, y, z⟩, hp⟩ : ∃ t, gt ts j = t := ⟨_, rfl⟩
                rw [hp] at p0 p1 p2
                simp only [] at p0 p1 p2
                have hSM := fun W => rSame_any x y z a b c W
                have HTK : Hid (hasK (ts.take (j + 1)) b c = keyB (x, y, z) b c) := Lib.hid (by rw [take_snocT ts j (by omega), hasK_snoc, HH.out, hp]; simp)
                clear hp
                go_wp2_with fail
                refine wp_region_still_tail 8 (by kernel_rfl) (by kernel_rfl) ?_
                obtain ⟨wd, hwd⟩ : ∃ W, wr.drew = W := ⟨_, rfl⟩
                change wpStill _ _ wr.drew (fun a' => wpList _ _ _ _ a' wr.drew) _ _
                have r0 : wd.cell? ⟨bk, off + j * 3, none⟩ = some (.int .i64 x) := by rw [← hwd]; exact p0
                have r1 : wd.cell? ⟨bk, off + j * 3 + 1, none⟩ = some (.int .i64 y) := by rw [← hwd]; exact p1
                have r2 : wd.cell? ⟨bk, off + j * 3 + 2, none⟩ = some (.int .i64 z) := by rw [← hwd]; exact p2
                have s0 : wd.cell? ⟨bk, off + k * 3, none⟩ = some (.int .i64 a) := by rw [← hwd]; exact c0
                have s1 : wd.cell? ⟨bk, off + k * 3 + 1, none⟩ = some (.int .i64 b) := by rw [← hwd]; exact c1
                have s2 : wd.cell? ⟨bk, off + k * 3 + 2, none⟩ = some (.int .i64 c) := by rw [← hwd]; exact c2
                have HAd : Hid (TmA φ wd (some ⟨bk, off, none⟩) ts) := by rw [← hwd]; exact HAj
                have HBd : Hid (Below w.heap.size w wd) := Lib.hid (by rw [← hwd]; exact HBj.out.drew)
                rw [hwd]
                clear hwd p0 p1 p2 c0 c1 c2
                simp only [List.take_succ_cons, List.take_zero, List.drop_succ_cons, List.drop_zero]
                repeat still_step
                refine wpStill_nil ?_
                cases hk2 : keyB (x, y, z) b c with
                | true =>
                  simp only [hk2] at hSM
                  have HSM := Lib.hid hSM
                  have HR : Hid (chkE ts = 6) := Lib.hid (chk_dup hkt HT.out HO.out HLOW.out (by
                    obtain ⟨s, hs, h⟩ := hasK_iff.1 (HTK.out.trans hk2)
                    refine hasK_iff.2 ⟨s, ?_, h⟩
                    rw [show ts.take (j + 1) = (ts.take k).take (j + 1) by rw [List.take_take, Nat.min_eq_left (by omega)]] at hs
                    exact List.mem_of_mem_take hs) HI.out)
                  clear hk2 hSM
                  go_wp2_with fail
                  refine (HSM.out _).mono ?_
                  rintro e w8 ⟨rfl, b8⟩
                  have HB8 := Lib.hid (HBd.out.trans (b8.mono HBd.out.size))
                  clear b8
                  go_wp2
                  go_ret
                  exact ⟨by rw [HR.out]; rfl, HB8.out⟩
                | false =>
                  simp only [hk2] at hSM
                  have HSM := Lib.hid hSM
                  have HH' : Hid (hasK (ts.take (j + 1)) b c = false) := Lib.hid (HTK.out.trans hk2)
                  clear hk2 hSM
                  go_wp2_with fail
                  refine (HSM.out _).mono ?_
                  rintro e w8 ⟨rfl, b8⟩
                  have HB8 := Lib.hid (HBd.out.trans (b8.mono HBd.out.size))
                  have HA8 := Lib.hid (HAd.out.below b8)
                  clear b8
                  go_wp2
                  go_roundw
                  case rel => exact ⟨j + 1, by omega, by go_num, HH', HA8, HB8⟩
                  case measure => simp [intOf]; omega
              · obtain rfl : j = k := by omega
                have HR := Lib.hid (chk_next hkt HT.out HO.out HLOW.out HH.out HI.out)
                have HBo := Lib.hid HBj.out
                have hnj : ¬ (j : Int) < (j : Int) := by omega
                go_wp2
                go_roundw
                case rel => exact ⟨j + 1, by omega, by go_num, HR, HBo⟩
                case measure => simp [intOf]; omega
          | false =>
            have HR : Hid (chkE ts = 9) := Lib.hid (chk_low hkt HT.out HO.out hk0 (by rw [hp]; exact hle) HI.out)
            simp only [hle] at hLS
            have HLS := Lib.hid hLS
            clear hle hp hLS
            go_wp2_with fail
            refine (HLS.out _).mono ?_
            rintro e w5 ⟨rfl, b5⟩
            have HB5 := Lib.hid (HBd.out.trans (b5.mono HBd.out.size))
            clear b5
            go_wp2
            go_ret
            exact ⟨by rw [HR.out]; rfl, HB5.out⟩
    · have HE := Lib.hid (chk_end (by omega) HI.out)
      have k2 : ¬ (k : Int) < (ts.length : Int) := by omega
      go_wp2
      go_ret
      exact ⟨by rw [HE.out]; rfl, HB.out⟩

end Go.Proofs.Ytcmcgcogahkamaa
