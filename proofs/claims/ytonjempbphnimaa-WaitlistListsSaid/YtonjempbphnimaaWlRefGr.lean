/-
  What the reference's Grant of waiters returns.
-/
import Derived.OwnWalk
import Derived.Test.YtonjempbphnimaaHeldTop
import Derived.Test.YtonjempbphnimaaWlApp
import Derived.Test.YtonjempbphnimaaWlRefV
import Derived.Test.YtonjempbphnimaaWlGrP
namespace Go.Proofs.Ytonjempbphnimaa
open Go.RowKit Go.Shelf

set_option maxRecDepth 100000 in
set_option maxHeartbeats 4000000 in
theorem rwGrant_any (v : Value) (ts : List Wl) (u : Int) (skip : Bool) (w : World) (hK : KwC w v ts) (hl : ts.length ≤ 900) (hu : -9223372036854775808 ≤ u ∧ u ≤ 9223372036854775807) :
    Calls Try.prog 21 #[v, .int .i64 u, .bool skip] w fun e w' => ∃ x y, e = .returned (.tuple #[x, y, .int .i64 (grN skip u ts)]) ∧ FwC w.heap.size w' x (grG skip u ts) ∧ FwC w.heap.size w' y (grO skip u ts) ∧ Below w.heap.size w w' := by
  obtain ⟨ad, cap, rfl, hc1, hc2, hA⟩ := hK.all
  have HA := Lib.hid hA
  have HWI := Lib.hid (fun n lo hi W => within_any n lo hi W)
  have hb2 : Below w.heap.size w ((w.alloc (.cells #[] TW)).alloc (.cells #[] TW)) := ((Below.refl _ w).alloc (Nat.le_refl _) _).alloc (by simp) _
  have HB2 := Lib.hid hb2
  have HR1 : Hid (OwnW w.heap.size [] (.slice (some ⟨w.heap.size, 0, none⟩) 0 0) ((w.alloc (.cells #[] TW)).alloc (.cells #[] TW))) := Lib.hid (made_rowW ((heap_alloc_old _ _ (by simp)).trans (heap_alloc_new w _)) (Nat.le_refl _))
  have HR2 : Hid (OwnW w.heap.size [] (.slice (some ⟨w.heap.size + 1, 0, none⟩) 0 0) ((w.alloc (.cells #[] TW)).alloc (.cells #[] TW))) := Lib.hid (made_rowW (by have := heap_alloc_new (w.alloc (.cells #[] TW)) (.cells #[] TW); simpa using this) (by omega))
  clear hA hb2
  go_enter Try.func21, Try.ntmps21
  go_wp2
  go_loopw [1, 9, 10, 11, 12] (fun n x y s z wr => ∃ (k : Nat) (c o : Value), c = x ∧ o = y ∧ k ≤ ts.length ∧ z = .int .i64 k ∧ n = .int .i64 (grS skip u (ts.take k)).2.2.2 ∧ s = .bool (grS skip u (ts.take k)).2.2.1 ∧ Hid (OwnW w.heap.size (grS skip u (ts.take k)).1 c wr) ∧ Hid (OwnW w.heap.size (grS skip u (ts.take k)).2.1 o wr) ∧ Hid (∀ b, c.ownBlock = some b → o.ownBlock ≠ some b) ∧ Hid (Below w.heap.size w wr)) (fun _ _ _ _ z _ => ts.length - (intOf z).toNat)
  case atStart => exact ⟨0, _, _, rfl, rfl, Nat.zero_le _, rfl, rfl, rfl, HR1, HR2, Lib.hid (fun b h1 h2 => by simp [Value.ownBlock] at h1 h2; omega), HB2⟩
  case round =>
    obtain ⟨k, c, o, rfl, rfl, hk, rfl, rfl, rfl, HC, HO, HD, HB⟩ := hrel
    by_cases hkt : k < ts.length
    · have k1 : (k : Int) < (ts.length : Int) := by omega
      have k0 : (0 : Int) ≤ (k : Int) := by omega
      obtain ⟨bk, off, rfl, hbk, hb, c0, c1, c2, c3, c4⟩ := HA.out.below HB.out k hkt
      have hG1 := grS_len1 skip u (ts.take k)
      have hG2 := grS_len2 skip u (ts.take k)
      rw [List.length_take] at hG1 hG2
      have hLF := grS_left skip u (ts.take k)
      have hS := grS_succ skip u ts k hkt
      obtain ⟨⟨x0, x1, x2, x3, x4⟩, ht⟩ : ∃ t, gw ts k = t := ⟨_, rfl⟩
      rw [ht] at c0 c1 c2 c3 c4 hS
      simp only [] at c0 c1 c2 c3 c4
      obtain ⟨⟨G, O, st, left⟩, hs⟩ : ∃ s, grS skip u (ts.take k) = s := ⟨_, rfl⟩
      rw [hs] at hS HC HO hG1 hG2 hLF ⊢
      simp only [] at HC HO hG1 hG2 hLF ⊢
      have HL5 : Hid (At5 wr bk (off + k * 5) (x0, x1, x2, x3, x4)) := Lib.hid ⟨c0, c1, c2, c3, c4⟩
      have hW := HWI.out x2 0 left wr
      have HS := Lib.hid hS
      obtain ⟨W3, hW3⟩ : ∃ W, wr.alloc (.cells #[.int .i64 x0, .int .i64 x1, .int .i64 x2, .int .i64 x3, .int .i64 x4] TW) = W := ⟨_, rfl⟩
      have hb3 : Below wr.heap.size wr W3 := by rw [← hW3]; exact (Below.refl _ wr).alloc (Nat.le_refl _) _
      have hn3 : W3.heap[wr.heap.size]? = some (.cells (encW (x0, x1, x2, x3, x4)).toArray TW (0, 0)) := by rw [← hW3]; exact heap_alloc_new wr _
      have HW3 := Lib.hid hW3
      clear ht hs hW3
      by_cases hcan : st = false ∧ 0 ≤ x2 ∧ x2 ≤ left
      · have hS2 := (stG_can (skip := skip) (s := (G, O, st, left)) (t := (x0, x1, x2, x3, x4)) hcan).2
        have HE : Hid (grS skip u (ts.take (k + 1)) = (G ++ [(x0, x1, x2, x3, x4)], O, false, left - x2)) := Lib.hid (by rw [HS.out, hS2])
        obtain ⟨rfl, hx1, hx2⟩ := hcan
        rw [decide_eq_true (show 0 ≤ x2 ∧ x2 ≤ left from ⟨hx1, hx2⟩)] at hW
        have HW := Lib.hid hW
        have q4 : IntKind.i64.wrap (left - x2) = left - x2 := IntWalk.i64_in _ (by omega)
        have HSB : Hid (∀ V, Below w.heap.size w V → At5 V bk (off + k * 5) (x0, x1, x2, x3, x4)) := Lib.hid (fun V hV => HL5.out.keep ((hV.block bk hbk).trans (HB.out.block bk hbk).symm))
        clear hS2 hLF hG2 hW hb3 hn3 hS HW3
        go_wp2_with fail
        refine HW.out.mono ?_
        rintro e w2 ⟨rfl, rfl⟩
        clear c0 c1 c2 c3 c4
        go_wp2_with fail
        refine wp_region_held (S := fun W => At5 W bk (off + k * 5) (x0, x1, x2, x3, x4)) (by kernel_rfl) ?_
        obtain ⟨wd, hwd⟩ : ∃ W, wr.drew = W := ⟨_, rfl⟩
        change wpAnyH _ _ _ _ _ _ _ _ wr.drew
        have HBd : Hid (Below w.heap.size w wd) := by rw [← hwd]; exact Lib.hid HB.out.drew
        have HCd : Hid (OwnW w.heap.size G c wd) := by rw [← hwd]; exact HC
        have HOd : Hid (OwnW w.heap.size O o wd) := by rw [← hwd]; exact HO
        rw [hwd]
        clear hwd
        refine wpAnyH_read (i := 0) (v := c) rfl (by kernel_rfl) (by kernel_rfl) (by kernel_rfl) (fun _ _ _ h => h) (by rfl) (fun _ _ => rfl) (HSB.out _ HBd.out) ?_
        simp only [Act.put, List.setIfInBounds_toArray, List.set_cons_zero, List.set_cons_succ]
        refine wpAnyH_read (i := 1) (v := .slice (some ⟨bk, off, none⟩) ts.length cap) rfl (by kernel_rfl) (by kernel_rfl) (by kernel_rfl) (fun _ _ _ h => h) (by rfl) (fun _ _ => rfl) (HSB.out _ HBd.out) ?_
        simp only [Act.put, List.setIfInBounds_toArray, List.set_cons_zero, List.set_cons_succ]
        refine wpAnyH_read (i := 2) (v := .int .i64 (k : Int)) rfl (by kernel_rfl) (by kernel_rfl) (by kernel_rfl) (fun _ _ _ h => h) (by rfl) (fun _ _ => rfl) (HSB.out _ HBd.out) ?_
        simp only [Act.put, List.setIfInBounds_toArray, List.set_cons_zero, List.set_cons_succ]
        refine wpAnyH_read (i := 3) (v := .pointer (some ⟨bk, off + k * 5, none⟩)) rfl (by kernel_rfl) (by kernel_rfl) (by kernel_rfl) (fun _ _ _ h => h) (by rfl) ?_ (HSB.out _ HBd.out) ?_
        · rintro w' -
          go_simp
        simp only [Act.put, List.setIfInBounds_toArray, List.set_cons_zero, List.set_cons_succ]
        refine wpAnyH_read (i := 4) (v := .agg #[.int .i64 x0, .int .i64 x1, .int .i64 x2, .int .i64 x3, .int .i64 x4]) rfl (by kernel_rfl) (by kernel_rfl) (by kernel_rfl) (fun _ _ _ h => h) (by rfl) ?_ (HSB.out _ HBd.out) ?_
        · rintro w' ⟨h0, h1, h2, h3, h4⟩
          go_simp
        simp only [Act.put, List.setIfInBounds_toArray, List.set_cons_zero, List.set_cons_succ]
        refine wpAnyH_read (i := 7) (v := .int .i64 left) rfl (by kernel_rfl) (by kernel_rfl) (by kernel_rfl) (fun _ _ _ h => h) (by rfl) (fun _ _ => rfl) (HSB.out _ HBd.out) ?_
        simp only [Act.put, List.setIfInBounds_toArray, List.set_cons_zero, List.set_cons_succ]
        refine wpAnyH_read (i := 8) (v := .slice (some ⟨bk, off, none⟩) ts.length cap) rfl (by kernel_rfl) (by kernel_rfl) (by kernel_rfl) (fun _ _ _ h => h) (by rfl) (fun _ _ => rfl) (HSB.out _ HBd.out) ?_
        simp only [Act.put, List.setIfInBounds_toArray, List.set_cons_zero, List.set_cons_succ]
        refine wpAnyH_read (i := 9) (v := .int .i64 (k : Int)) rfl (by kernel_rfl) (by kernel_rfl) (by kernel_rfl) (fun _ _ _ h => h) (by rfl) (fun _ _ => rfl) (HSB.out _ HBd.out) ?_
        simp only [Act.put, List.setIfInBounds_toArray, List.set_cons_zero, List.set_cons_succ]
        refine wpAnyH_read (i := 10) (v := .pointer (some ⟨bk, off + k * 5, none⟩)) rfl (by kernel_rfl) (by kernel_rfl) (by kernel_rfl) (fun _ _ _ h => h) (by rfl) ?_ (HSB.out _ HBd.out) ?_
        · rintro w' -
          go_simp
        simp only [Act.put, List.setIfInBounds_toArray, List.set_cons_zero, List.set_cons_succ]
        refine wpAnyH_read (i := 11) (v := .pointer (some ⟨bk, off + k * 5 + 2, none⟩)) rfl (by kernel_rfl) (by kernel_rfl) (by kernel_rfl) (fun _ _ _ h => h) (by rfl) ?_ (HSB.out _ HBd.out) ?_
        · rintro w' -
          go_simp
        simp only [Act.put, List.setIfInBounds_toArray, List.set_cons_zero, List.set_cons_succ]
        refine wpAnyH_read (i := 12) (v := .int .i64 x2) rfl (by kernel_rfl) (by kernel_rfl) (by kernel_rfl) (fun _ _ _ h => h) (by rfl) ?_ (HSB.out _ HBd.out) ?_
        · rintro w' ⟨h0, h1, h2, h3, h4⟩
          go_simp
        simp only [Act.put, List.setIfInBounds_toArray, List.set_cons_zero, List.set_cons_succ]
        refine wpAnyH_read (i := 13) (v := .int .i64 (left - x2)) rfl (by kernel_rfl) (by kernel_rfl) (by kernel_rfl) (fun _ _ _ h => h) (by rfl) ?_ (HSB.out _ HBd.out) ?_
        · rintro w' -
          go_simp
        simp only [Act.put, List.setIfInBounds_toArray, List.set_cons_zero, List.set_cons_succ]
        refine wpAnyH_next (i := 5) rfl (by kernel_rfl) ?_
        obtain ⟨W5, hW5⟩ : ∃ W, wd.alloc (.cells #[.int .i64 x0, .int .i64 x1, .int .i64 x2, .int .i64 x3, .int .i64 x4] TW) = W := ⟨_, rfl⟩
        have hb5 : Below wd.heap.size wd W5 := by rw [← hW5]; exact (Below.refl _ wd).alloc (Nat.le_refl _) _
        have hn5 : W5.heap[wd.heap.size]? = some (.cells (encW (x0, x1, x2, x3, x4)).toArray TW (0, 0)) := by rw [← hW5]; exact heap_alloc_new wd _
        obtain ⟨v4, W4, gn, hr4, ho4, hg4, hb4, he4, hl4, hd4⟩ := append_oneW W5 w.heap.size c G (x0, x1, x2, x3, x4) wd.heap.size (HCd.out.below hb5) hn5 (by omega) (Nat.le_trans HBd.out.size hb5.size)
        have HR4 := Lib.hid hr4
        have HB5 := Lib.hid (HBd.out.trans (hb5.mono HBd.out.size))
        have HC4 : Hid (OwnW w.heap.size (G ++ [(x0, x1, x2, x3, x4)]) v4 W4) := Lib.hid ho4
        have HO4 : Hid (OwnW w.heap.size O o W4) := Lib.hid (World.ownsRow.kept (show W5.ownsRow _ TW 5 o _ _ from HOd.out.below hb5) hg4 (by
            cases ho : o.ownBlock with
            | none => exact .inl rfl
            | some g => exact .inr (fun e => HD.out g e.symm ho)))
        have HD4 : Hid (∀ b, v4.ownBlock = some b → o.ownBlock ≠ some b) := Lib.hid (fun b h1 h2 => by
          rw [he4] at h1
          cases h1
          rcases hd4 with h | h
          · exact HD.out gn h h2
          · have := (HOd.out.lt gn h2).2
            have := hb5.size
            omega)
        have HB4 : Hid (Below w.heap.size w W4) := Lib.hid (HB5.out.grown hg4 HB5.out.size (fun g hg => (HCd.out.lt g hg).1))
        have HW5 := Lib.hid hW5
        clear hW5 hb5 hn5 hr4 ho4 hg4 hb4 he4 hl4 hd4
        go_wp2_with fail
        rw [HW5.out]
        refine ⟨HSB.out _ HB5.out, ?_⟩
        refine wpAnyH_next (i := 6) rfl (by kernel_rfl) ?_
        go_wp2_with (at_builtin; refine append_by_run _ rfl _ _ 22 rfl _ _ rfl rfl _ _ HR4.out ?_)
        refine ⟨HSB.out _ HB4.out, ?_⟩
        refine wpAnyH_next (i := 14) rfl (by kernel_rfl) ?_
        go_wp2_with fail
        refine ⟨HSB.out _ HB4.out, ?_⟩
        refine wpAnyH_next (i := 15) rfl (by kernel_rfl) ?_
        go_wp2_with fail
        refine ⟨HSB.out _ HB4.out, ?_⟩
        refine wpAnyH_done (by kernel_rfl) ?_ _
        go_wp2
        go_roundw
        case rel => exact ⟨k + 1, v4, o, rfl, rfl, by omega, by go_num, by rw [HE.out], by rw [HE.out], Lib.hid (by rw [HE.out]; exact HC4.out), Lib.hid (by rw [HE.out]; exact HO4.out), HD4, HB4⟩
        case measure => simp [intOf]; omega
      · have hS2 := (stG_cannot (skip := skip) (s := (G, O, st, left)) (t := (x0, x1, x2, x3, x4)) hcan).2
        have HE : Hid (grS skip u (ts.take (k + 1)) = (G, O ++ [(x0, x1, x2, x3, x4)], !skip, left)) := Lib.hid (by rw [HS.out, hS2])
        clear hS2 hLF hG1 hS
        obtain ⟨v4, W4, gn, hr4, ho4, hg4, hb4, he4, hl4, hd4⟩ := append_oneW W3 w.heap.size o O (x0, x1, x2, x3, x4) wr.heap.size (HO.out.below hb3) hn3 (by omega) (Nat.le_trans HB.out.size hb3.size)
        have HR4 := Lib.hid hr4
        have HO4 : Hid (OwnW w.heap.size (O ++ [(x0, x1, x2, x3, x4)]) v4 W4) := Lib.hid ho4
        have HC4 : Hid (OwnW w.heap.size G c W4) := Lib.hid (World.ownsRow.kept (show W3.ownsRow _ TW 5 c _ _ from HC.out.below hb3) hg4 (by
            cases ho : c.ownBlock with
            | none => exact .inl rfl
            | some g => exact .inr (fun e => HD.out g ho e.symm)))
        have HD4 : Hid (∀ b, c.ownBlock = some b → v4.ownBlock ≠ some b) := Lib.hid (fun b h1 h2 => by
          rw [he4] at h2
          cases h2
          rcases hd4 with h | h
          · exact HD.out gn h1 h
          · have := (HC.out.lt gn h1).2
            have := hb3.size
            omega)
        have HB4 : Hid (Below w.heap.size w W4) := Lib.hid ((HB.out.trans (hb3.mono HB.out.size)).grown hg4 (Nat.le_trans HB.out.size hb3.size) (fun g hg => (HO.out.lt g hg).1))
        clear hb3 hn3 hr4 ho4 hg4 hb4 he4 hl4 hd4
        cases st with
        | true =>
          clear hW hcan
          go_wp2_with (rw [HW3.out]; at_builtin; refine append_by_run _ rfl _ _ 22 rfl _ _ rfl rfl _ _ HR4.out ?_)
          go_roundw
          case rel => exact ⟨k + 1, c, v4, rfl, rfl, by omega, by go_num, by rw [HE.out], by rw [HE.out], Lib.hid (by rw [HE.out]; exact HC4.out), Lib.hid (by rw [HE.out]; exact HO4.out), HD4, HB4⟩
          case measure => simp [intOf]; omega
        | false =>
          rw [decide_eq_false (show ¬ (0 ≤ x2 ∧ x2 ≤ left) from fun h => hcan ⟨rfl, h⟩)] at hW
          have HW := Lib.hid hW
          clear hW hcan
          go_wp2_with fail
          refine HW.out.mono ?_
          rintro e w2 ⟨rfl, rfl⟩
          go_wp2_with (rw [HW3.out]; at_builtin; refine append_by_run _ rfl _ _ 22 rfl _ _ rfl rfl _ _ HR4.out ?_)
          go_roundw
          case rel => exact ⟨k + 1, c, v4, rfl, rfl, by omega, by go_num, by rw [HE.out], by rw [HE.out], Lib.hid (by rw [HE.out]; exact HC4.out), Lib.hid (by rw [HE.out]; exact HO4.out), HD4, HB4⟩
          case measure => simp [intOf]; omega
    · obtain rfl : k = ts.length := by omega
      rw [List.take_length] at HC HO ⊢
      have HF1 : Hid (FwC w.heap.size wr c (grG skip u ts)) := Lib.hid HC.out.fresh
      have HF2 : Hid (FwC w.heap.size wr o (grO skip u ts)) := Lib.hid HO.out.fresh
      go_wp2
      go_ret3
      exact ⟨_, _, rfl, HF1.out, HF2.out, HB.out⟩

end Go.Proofs.Ytonjempbphnimaa
