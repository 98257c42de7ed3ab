/-
  What the program's Check of timers returns.
-/
import Derived.Test.YtcmcgcogahkamaaTmIns
namespace Go.Proofs.Ytcmcgcogahkamaa
open Go.RowKit Go.Shelf

theorem cmpT_ge {s t : Tm} : 0 ≤ cmpT s t ↔ ¬ LesP s t := by rw [← cmpT_neg]; omega

theorem keep3 {b : Nat} {v0 v1 v2 : Value} {w w' : World} (h : w.cell? ⟨b, 0, none⟩ = some v0 ∧ w.cell? ⟨b, 1, none⟩ = some v1 ∧ w.cell? ⟨b, 2, none⟩ = some v2) (hb : Below w.heap.size w w') : w'.cell? ⟨b, 0, none⟩ = some v0 ∧ w'.cell? ⟨b, 1, none⟩ = some v1 ∧ w'.cell? ⟨b, 2, none⟩ = some v2 := by
  obtain ⟨h0, h1, h2⟩ := h
  have hlt := World.block_lt_of_cell? _ _ h0
  exact ⟨(hb.cell (p := ⟨b, 0, none⟩) hlt).trans h0, (hb.cell (p := ⟨b, 1, none⟩) hlt).trans h1, (hb.cell (p := ⟨b, 2, none⟩) hlt).trans h2⟩

set_option maxRecDepth 100000 in
set_option maxHeartbeats 4000000 in
/-- Check. -/
theorem tCheck_any (φ : Nat → Prop) (ad : Option Addr) (cap : Nat) (ts : List Tm) (w : World) (hA : TmA φ w ad ts) (hl : ts.length ≤ 1000) (hcap : ts.length ≤ cap) :
    Calls Try.prog 16 #[.slice ad ts.length cap] w fun e w' => e = .returned (.int .i64 (chkE ts)) ∧ Below w.heap.size w w' := by
  have HA := Lib.hid hA
  have H0 : Hid (chkE ts = chkT (ts.take 0) (ts.drop 0)) := Lib.hid rfl
  clear hA
  go_enter Try.func16, Try.ntmps16
  go_wp2
  go_loopw [8] (fun x wr => ∃ k : Nat, k ≤ ts.length ∧ x = .int .i64 k ∧ Hid (chkE ts = chkT (ts.take k) (ts.drop k)) ∧ Hid (Below w.heap.size w wr)) (fun x _ => ts.length - (intOf x).toNat)
  case atStart => exact ⟨0, Nat.zero_le _, rfl, H0, Lib.hid (Below.refl _ _)⟩
  case round =>
    obtain ⟨k, hk, rfl, HI, HB⟩ := hrel
    by_cases hkt : k < ts.length
    · have k1 : (k : Int) < (ts.length : Int) := by omega
      have hAr := HA.out.below HB.out
      obtain ⟨bk, off, rfl, _, hbk, c0, c1, c2⟩ := hAr k hkt
      obtain ⟨⟨a, b, c⟩, ht⟩ : ∃ t, gt ts k = t := ⟨_, rfl⟩
      rw [ht] at c0 c1 c2
      simp only [] at c0 c1 c2
      have HT := Lib.hid ht
      have HX := Lib.hid (box3 wr a b c)
      have hba : Below wr.heap.size wr (wr.alloc (.cells #[.int .i64 a, .int .i64 b, .int .i64 c] TT)) := (Below.refl _ wr).alloc (Nat.le_refl _) _
      have HBA := Lib.hid hba
      have HC := tCheckTimer_any a b c (wr.alloc (.cells #[.int .i64 a, .int .i64 b, .int .i64 c] TT))
      unfold tmA encT at HC
      dsimp only at HC
      by_cases ho : oneE (a, b, c) ≠ 0
      · have HR : Hid (chkE ts = oneE (a, b, c)) := Lib.hid (chk_bad hkt ht ho HI.out)
        have hob : (oneE (a, b, c) != 0) = true := by simpa using ho
        obtain ⟨x, hx⟩ : ∃ x, oneE (a, b, c) = x := ⟨_, rfl⟩
        rw [hx] at HC hob HR
        have HC := Lib.hid HC
        clear ho ht hx hba
        go_wp2_with fail
        refine HC.out.mono ?_
        rintro e w4 ⟨rfl, b4⟩
        have B4 := Lib.hid (HB.out.trans ((HBA.out.trans (b4.mono HBA.out.size)).mono HB.out.size))
        clear b4
        go_wp2
        go_ret
        exact ⟨by rw [HR.out]; rfl, B4.out⟩
      · have ho : oneE (a, b, c) = 0 := by simpa using ho
        have HO := Lib.hid ho
        rw [ho] at HC
        have HC := Lib.hid HC
        clear ho ht hba
        go_wp2_with fail
        refine HC.out.mono ?_
        rintro e w4 ⟨rfl, b4⟩
        have hb4 := HBA.out.trans (b4.mono HBA.out.size)
        have hB4 := HB.out.trans (hb4.mono HB.out.size)
        have e0 := (b4.cell (p := ⟨wr.heap.size, 0, none⟩) (by simp)).trans HX.out.1
        have e1 := (b4.cell (p := ⟨wr.heap.size, 1, none⟩) (by simp)).trans HX.out.2.1
        have e2 := (b4.cell (p := ⟨wr.heap.size, 2, none⟩) (by simp)).trans HX.out.2.2
        have hsz4 : wr.heap.size < w4.heap.size := by have := b4.size; simp at this; omega
        have HA4 := Lib.hid (hAr.below hb4)
        have HB4 := Lib.hid hB4
        have HZ4 := Lib.hid hsz4
        clear b4 hb4 hB4 hsz4 hAr c0 c1 c2
        generalize wr.heap.size = Bt at *
        have F0 := Lib.hid e0
        have F1 := Lib.hid e1
        have F2 := Lib.hid e2
        have kc1 : (k : Int) ≤ (cap : Int) := by omega
        have kc2 : k ≤ cap := by omega
        by_cases h0 : k = 0
        · have HLOW : Hid (0 < k → lesB (gt ts (k - 1)) (a, b, c) = true) := Lib.hid (fun h => by omega)
          have q0 : decide (0 < (k : Int)) = false := decide_eq_false (by omega)
          have q1 : decide (0 < k) = false := decide_eq_false (by omega)
          clear h0
          go_wp2_with fail
          go_quiet (fail)
          clear q0 q1
          go_wp2_with fail
          have HA5 : Hid (TmA φ (w4.drewN nq) (some ⟨bk, off, none⟩) ts) := HA4
          have HB5 : Hid (Below w.heap.size w (w4.drewN nq)) := Lib.hid ⟨HB4.out.os, HB4.out.tape, HB4.out.output, HB4.out.size, HB4.out.block⟩
          have F0 : Hid ((w4.drewN nq).cell? ⟨Bt, 0, none⟩ = some (.int .i64 a)) := F0
          have F1 : Hid ((w4.drewN nq).cell? ⟨Bt, 1, none⟩ = some (.int .i64 b)) := F1
          have F2 : Hid ((w4.drewN nq).cell? ⟨Bt, 2, none⟩ = some (.int .i64 c)) := F2
          clear e0 e1 e2
          refine wp_region_held (S := fun w' => w'.cell? ⟨Bt, 0, none⟩ = some (.int .i64 a) ∧ w'.cell? ⟨Bt, 1, none⟩ = some (.int .i64 b) ∧ w'.cell? ⟨Bt, 2, none⟩ = some (.int .i64 c)) (by kernel_rfl) ?_
          obtain ⟨w6, hw6⟩ : ∃ W, (w4.drewN nq).drew = W := ⟨_, rfl⟩
          change wpAnyH _ _ _ _ _ _ _ _ (w4.drewN nq).drew
          have hS6 : w6.cell? ⟨Bt, 0, none⟩ = some (.int .i64 a) ∧ w6.cell? ⟨Bt, 1, none⟩ = some (.int .i64 b) ∧ w6.cell? ⟨Bt, 2, none⟩ = some (.int .i64 c) := by rw [← hw6]; exact ⟨F0.out, F1.out, F2.out⟩
          have HA6 : Hid (TmA φ w6 (some ⟨bk, off, none⟩) ts) := Lib.hid (by rw [← hw6]; exact HA5.out)
          have HB6 : Hid (Below w.heap.size w w6) := Lib.hid (by rw [← hw6]; exact HB5.out.drew)
          have HS6 := Lib.hid hS6
          rw [hw6]
          clear hw6 hS6
          have HK6 := Lib.hid (tKeyOf_any a b c w6)
          unfold tmA encT at HK6
          dsimp only at HK6
          refine wpAnyH_read (i := 0) (v := .slice (some ⟨bk, off, none⟩) ts.length cap) rfl (by kernel_rfl) (by kernel_rfl) (by kernel_rfl) (fun _ _ _ h => h) (by rfl) (fun _ _ => rfl) HS6.out ?_
          simp only [Act.put, List.setIfInBounds_toArray, List.set_cons_zero, List.set_cons_succ]
          refine wpAnyH_read (i := 1) (v := .int .i64 (k : Int)) rfl (by kernel_rfl) (by kernel_rfl) (by kernel_rfl) (fun _ _ _ h => h) (by rfl) (fun _ _ => rfl) HS6.out ?_
          simp only [Act.put, List.setIfInBounds_toArray, List.set_cons_zero, List.set_cons_succ]
          refine wpAnyH_read (i := 2) (v := .slice (some ⟨bk, off, none⟩) k cap) rfl (by kernel_rfl) (by kernel_rfl) (by kernel_rfl) (fun _ _ _ h => h) (by rfl) ?_ HS6.out ?_
          · rintro w' -
            go_simp
          simp only [Act.put, List.setIfInBounds_toArray, List.set_cons_zero, List.set_cons_succ]
          refine wpAnyH_read (i := 3) (v := .agg #[.int .i64 a, .int .i64 b, .int .i64 c]) rfl (by kernel_rfl) (by kernel_rfl) (by kernel_rfl) (fun _ _ _ h => h) (by rfl) ?_ HS6.out ?_
          · rintro w' ⟨h1, h2, h3⟩
            go_simp
          simp only [Act.put, List.setIfInBounds_toArray, List.set_cons_zero, List.set_cons_succ]
          refine wpAnyH_next (i := 4) rfl (by kernel_rfl) ?_
          go_wp2_with fail
          refine HK6.out.mono ?_
          rintro e w7 ⟨rfl, b7⟩
          have HS7 := Lib.hid (keep3 HS6.out b7)
          have HA7 := Lib.hid (HA6.out.below b7)
          have HB7 := Lib.hid (HB6.out.trans (b7.mono HB6.out.size))
          clear b7
          go_wp2_with fail
          refine ⟨HS7.out, ?_⟩
          refine wpAnyH_next (i := 5) rfl (by kernel_rfl) ?_
          go_wp2_with fail
          refine ⟨HS7.out, ?_⟩
          refine wpAnyH_next (i := 6) rfl (by kernel_rfl) ?_
          have hC9 := tContainsF_any φ 46 #[.agg #[.int .i64 b, .int .i64 c]] #[] (some ⟨bk, off, none⟩) cap (ts.take k) (fun t => keyB t b c) w7 (enters_of Try.func46 (by kernel_rfl) rfl) (HA7.out.take k) (by rw [List.length_take]; omega) (fun a' b' c' W _ => tIsOf_any b c a' b' c' W)
          rw [show (ts.take k).length = k by rw [List.length_take]; omega] at hC9
          change Calls _ _ _ _ (fun e w' => e = .returned (.bool (hasK (ts.take k) b c)) ∧ Below w7.heap.size w7 w') at hC9
          cases hd : hasK (ts.take k) b c with
          | true =>
            have HR : Hid (chkE ts = 6) := Lib.hid (chk_dup hkt HT.out HO.out HLOW.out hd HI.out)
            rw [hd] at hC9
            have HC9 := Lib.hid hC9
            clear hd hC9
            go_wp2_with fail
            refine HC9.out.mono ?_
            rintro e w8 ⟨rfl, b8⟩
            have B8 := Lib.hid (HB7.out.trans (b8.mono HB7.out.size))
            have HS8 := Lib.hid (keep3 HS7.out b8)
            clear b8
            go_wp2_with fail
            refine ⟨HS8.out, ?_⟩
            refine wpAnyH_done (by kernel_rfl) ?_ _
            go_wp2
            go_ret
            exact ⟨by rw [HR.out]; rfl, B8.out⟩
          | false =>
            have HR := Lib.hid (chk_next hkt HT.out HO.out HLOW.out hd HI.out)
            rw [hd] at hC9
            have HC9 := Lib.hid hC9
            clear hd hC9
            go_wp2_with fail
            refine HC9.out.mono ?_
            rintro e w8 ⟨rfl, b8⟩
            have B8 := Lib.hid (HB7.out.trans (b8.mono HB7.out.size))
            have HS8 := Lib.hid (keep3 HS7.out b8)
            clear b8
            go_wp2_with fail
            refine ⟨HS8.out, ?_⟩
            refine wpAnyH_done (by kernel_rfl) ?_ _
            go_wp2
            go_roundw
            case rel => exact ⟨k + 1, by omega, by go_num, HR, B8⟩
            case measure => simp [intOf]; omega
        · have hk0 : 0 < k := by omega
          obtain ⟨bk', off', e', _, hbp, p0, p1, p2⟩ := HA4.out (k - 1) (by omega)
          cases e'
          obtain ⟨⟨x, y, z⟩, hp⟩ : ∃ t, gt ts (k - 1) = t := ⟨_, rfl⟩
          rw [hp] at p0 p1 p2
          simp only [] at p0 p1 p2
          have q0 : decide (0 < (k : Int)) = true := decide_eq_true (by omega)
          have q1 : decide (0 < k) = true := decide_eq_true (by omega)
          have q2 : (0 : Int) ≤ (k : Int) - 1 := by omega
          have q3 : ((k : Int) - 1).toNat = k - 1 := by omega
          have q4 : IntKind.i64.wrap ((k : Int) - 1) = (k : Int) - 1 := IntWalk.i64_in _ (by omega)
          have q5 : (k : Int) - 1 < (ts.length : Int) := by omega
          have q6 : (1 : Int) ≤ (k : Int) := by omega
          have hCC := fun W => tCompare_any x y z a b c W
          unfold tmA encT at hCC
          dsimp only at hCC
          clear h0
          go_wp2_with fail
          refine wp_region_still_tail 9 (by kernel_rfl) (by kernel_rfl) ?_
          obtain ⟨wd, hwd⟩ : ∃ W, w4.drew = W := ⟨_, rfl⟩
          change wpStill _ _ w4.drew (fun a' => wpList _ _ _ _ a' w4.drew) _ _
          have r0 : wd.cell? ⟨bk, off + (k - 1) * 3, none⟩ = some (.int .i64 x) := by rw [← hwd]; exact p0
          have r1 : wd.cell? ⟨bk, off + (k - 1) * 3 + 1, none⟩ = some (.int .i64 y) := by rw [← hwd]; exact p1
          have r2 : wd.cell? ⟨bk, off + (k - 1) * 3 + 2, none⟩ = some (.int .i64 z) := by rw [← hwd]; exact p2
          have u0 : wd.cell? ⟨Bt, 0, none⟩ = some (.int .i64 a) := by rw [← hwd]; exact F0.out
          have u1 : wd.cell? ⟨Bt, 1, none⟩ = some (.int .i64 b) := by rw [← hwd]; exact F1.out
          have u2' : wd.cell? ⟨Bt, 2, none⟩ = some (.int .i64 c) := by rw [← hwd]; exact F2.out
          have HAd : Hid (TmA φ wd (some ⟨bk, off, none⟩) ts) := Lib.hid (by rw [← hwd]; exact HA4.out)
          have HBd : Hid (Below w.heap.size w wd) := Lib.hid (by rw [← hwd]; exact HB4.out.drew)
          have HZd : Hid (Bt < wd.heap.size) := Lib.hid (by rw [← hwd]; exact HZ4.out)
          rw [hwd]
          clear hwd p0 p1 p2 e0 e1 e2 F0 F1 F2 HA4 HB4 HZ4
          simp only [List.take_succ_cons, List.take_zero, List.drop_succ_cons, List.drop_zero]
          repeat still_step
          refine wpStill_nil ?_
          by_cases hle : LesP (x, y, z) (a, b, c)
          · have HLOW : Hid (0 < k → lesB (gt ts (k - 1)) (a, b, c) = true) := Lib.hid (fun _ => by rw [hp]; exact lesB_iff.2 hle)
            have hm : decide ((0 : Int) ≤ cmpT (x, y, z) (a, b, c)) = false := decide_eq_false (fun h => cmpT_ge.1 h hle)
            obtain ⟨m, hme⟩ : ∃ m, cmpT (x, y, z) (a, b, c) = m := ⟨_, rfl⟩
            rw [hme] at hm
            simp only [hme] at hCC
            have hm0 : ¬ (0 : Int) ≤ m := by simpa using hm
            have HCC := Lib.hid hCC
            clear hme hle hp hCC
            go_wp2_with fail
            refine (HCC.out _).mono ?_
            rintro e w5 ⟨rfl, b5⟩
            have HA5 := Lib.hid (HAd.out.below b5)
            have HB5 := Lib.hid (HBd.out.trans (b5.mono HBd.out.size))
            have F0 := Lib.hid ((b5.cell (p := ⟨Bt, 0, none⟩) HZd.out).trans u0)
            have F1 := Lib.hid ((b5.cell (p := ⟨Bt, 1, none⟩) HZd.out).trans u1)
            have F2 := Lib.hid ((b5.cell (p := ⟨Bt, 2, none⟩) HZd.out).trans u2')
            clear b5 u0 u1 u2' r0 r1 r2
            go_wp2_with fail
            clear q0 q1 q2 q3 q4 q5 q6 hm hm0
            refine wp_region_held (S := fun w' => w'.cell? ⟨Bt, 0, none⟩ = some (.int .i64 a) ∧ w'.cell? ⟨Bt, 1, none⟩ = some (.int .i64 b) ∧ w'.cell? ⟨Bt, 2, none⟩ = some (.int .i64 c)) (by kernel_rfl) ?_
            obtain ⟨w6, hw6⟩ : ∃ W, w5.drew = W := ⟨_, rfl⟩
            change wpAnyH _ _ _ _ _ _ _ _ w5.drew
            have hS6 : w6.cell? ⟨Bt, 0, none⟩ = some (.int .i64 a) ∧ w6.cell? ⟨Bt, 1, none⟩ = some (.int .i64 b) ∧ w6.cell? ⟨Bt, 2, none⟩ = some (.int .i64 c) := by rw [← hw6]; exact ⟨F0.out, F1.out, F2.out⟩
            have HA6 : Hid (TmA φ w6 (some ⟨bk, off, none⟩) ts) := Lib.hid (by rw [← hw6]; exact HA5.out)
            have HB6 : Hid (Below w.heap.size w w6) := Lib.hid (by rw [← hw6]; exact HB5.out.drew)
            have HS6 := Lib.hid hS6
            rw [hw6]
            clear hw6 hS6
            have HK6 := Lib.hid (tKeyOf_any a b c w6)
            unfold tmA encT at HK6
            dsimp only at HK6
            refine wpAnyH_read (i := 0) (v := .slice (some ⟨bk, off, none⟩) ts.length cap) rfl (by kernel_rfl) (by kernel_rfl) (by kernel_rfl) (fun _ _ _ h => h) (by rfl) (fun _ _ => rfl) HS6.out ?_
            simp only [Act.put, List.setIfInBounds_toArray, List.set_cons_zero, List.set_cons_succ]
            refine wpAnyH_read (i := 1) (v := .int .i64 (k : Int)) rfl (by kernel_rfl) (by kernel_rfl) (by kernel_rfl) (fun _ _ _ h => h) (by rfl) (fun _ _ => rfl) HS6.out ?_
            simp only [Act.put, List.setIfInBounds_toArray, List.set_cons_zero, List.set_cons_succ]
            refine wpAnyH_read (i := 2) (v := .slice (some ⟨bk, off, none⟩) k cap) rfl (by kernel_rfl) (by kernel_rfl) (by kernel_rfl) (fun _ _ _ h => h) (by rfl) ?_ HS6.out ?_
            · rintro w' -
              go_simp
            simp only [Act.put, List.setIfInBounds_toArray, List.set_cons_zero, List.set_cons_succ]
            refine wpAnyH_read (i := 3) (v := .agg #[.int .i64 a, .int .i64 b, .int .i64 c]) rfl (by kernel_rfl) (by kernel_rfl) (by kernel_rfl) (fun _ _ _ h => h) (by rfl) ?_ HS6.out ?_
            · rintro w' ⟨h1, h2, h3⟩
              go_simp
            simp only [Act.put, List.setIfInBounds_toArray, List.set_cons_zero, List.set_cons_succ]
            refine wpAnyH_next (i := 4) rfl (by kernel_rfl) ?_
            go_wp2_with fail
            refine HK6.out.mono ?_
            rintro e w7 ⟨rfl, b7⟩
            have HS7 := Lib.hid (keep3 HS6.out b7)
            have HA7 := Lib.hid (HA6.out.below b7)
            have HB7 := Lib.hid (HB6.out.trans (b7.mono HB6.out.size))
            clear b7
            go_wp2_with fail
            refine ⟨HS7.out, ?_⟩
            refine wpAnyH_next (i := 5) rfl (by kernel_rfl) ?_
            go_wp2_with fail
            refine ⟨HS7.out, ?_⟩
            refine wpAnyH_next (i := 6) rfl (by kernel_rfl) ?_
            have hC9 := tContainsF_any φ 46 #[.agg #[.int .i64 b, .int .i64 c]] #[] (some ⟨bk, off, none⟩) cap (ts.take k) (fun t => keyB t b c) w7 (enters_of Try.func46 (by kernel_rfl) rfl) (HA7.out.take k) (by rw [List.length_take]; omega) (fun a' b' c' W _ => tIsOf_any b c a' b' c' W)
            rw [show (ts.take k).length = k by rw [List.length_take]; omega] at hC9
            change Calls _ _ _ _ (fun e w' => e = .returned (.bool (hasK (ts.take k) b c)) ∧ Below w7.heap.size w7 w') at hC9
            cases hd : hasK (ts.take k) b c with
            | true =>
              have HR : Hid (chkE ts = 6) := Lib.hid (chk_dup hkt HT.out HO.out HLOW.out hd HI.out)
              rw [hd] at hC9
              have HC9 := Lib.hid hC9
              clear hd hC9
              go_wp2_with fail
              refine HC9.out.mono ?_
              rintro e w8 ⟨rfl, b8⟩
              have B8 := Lib.hid (HB7.out.trans (b8.mono HB7.out.size))
              have HS8 := Lib.hid (keep3 HS7.out b8)
              clear b8
              go_wp2_with fail
              refine ⟨HS8.out, ?_⟩
              refine wpAnyH_done (by kernel_rfl) ?_ _
              go_wp2
              go_ret
              exact ⟨by rw [HR.out]; rfl, B8.out⟩
            | false =>
              have HR := Lib.hid (chk_next hkt HT.out HO.out HLOW.out hd HI.out)
              rw [hd] at hC9
              have HC9 := Lib.hid hC9
              clear hd hC9
              go_wp2_with fail
              refine HC9.out.mono ?_
              rintro e w8 ⟨rfl, b8⟩
              have B8 := Lib.hid (HB7.out.trans (b8.mono HB7.out.size))
              have HS8 := Lib.hid (keep3 HS7.out b8)
              clear b8
              go_wp2_with fail
              refine ⟨HS8.out, ?_⟩
              refine wpAnyH_done (by kernel_rfl) ?_ _
              go_wp2
              go_roundw
              case rel => exact ⟨k + 1, by omega, by go_num, HR, B8⟩
              case measure => simp [intOf]; omega
          · have HR : Hid (chkE ts = 9) := Lib.hid (chk_low hkt HT.out HO.out hk0 (by rw [hp]; exact lesB_no.2 hle) HI.out)
            have hm : decide ((0 : Int) ≤ cmpT (x, y, z) (a, b, c)) = true := decide_eq_true (cmpT_ge.2 hle)
            obtain ⟨m, hme⟩ : ∃ m, cmpT (x, y, z) (a, b, c) = m := ⟨_, rfl⟩
            rw [hme] at hm
            simp only [hme] at hCC
            have hm0 : (0 : Int) ≤ m := by simpa using hm
            have HCC := Lib.hid hCC
            clear hme hle hp hCC
            go_wp2_with fail
            refine (HCC.out _).mono ?_
            rintro e w5 ⟨rfl, b5⟩
            have HB5 := Lib.hid (HBd.out.trans (b5.mono HBd.out.size))
            clear b5
            go_wp2
            go_ret
            exact ⟨by rw [HR.out]; rfl, HB5.out⟩
    · have HE := Lib.hid (chk_end (by omega) HI.out)
      have k2 : ¬ (k : Int) < (ts.length : Int) := by omega
      go_wp2
      go_ret
      exact ⟨by rw [HE.out]; rfl, HB.out⟩

end Go.Proofs.Ytcmcgcogahkamaa
