/-
  What the reference's Push, Pop, Steal and Half return.
-/
import Derived.Test.YtmgadcfiaipimaaDqRChk
import Derived.Test.YtmgadcfiaipimaaDqCut
namespace Go.Proofs.Ytmgadcfiaipimaa
open Go.RowKit

/-- What is known of other integers stays so when an empty block is appended to. -/
theorem fz_keep {m : Nat} {V V' : World} {v : Value} {zs : List Int} {x : Nat} (hF : FzC m V v zs) (hx : V.heap[x]? = some (.cells #[] TZ (0, 0))) (hg : V.grownBy V' (some x)) : FzC m V' v zs := by
  obtain ⟨a, c, e, h1, h2, h3⟩ := hF
  refine ⟨a, c, e, h1, h2, fun j hj => ?_⟩
  obtain ⟨b, off, e1, e2, e3, e4⟩ := h3 j hj
  have hne : b ≠ x := by
    rintro rfl
    rw [Lib.cell_of_heap hx] at e4
    simp at e4
  have hb := hg.block b e3 (fun e => hne (by injection e))
  exact ⟨b, off, e1, e2, Nat.lt_of_lt_of_le e3 hg.size, (World.cell?_of_block (a := ⟨b, off + j, none⟩) hb).trans e4⟩

set_option maxRecDepth 100000 in
set_option maxHeartbeats 2000000 in
/-- The reference's Push. -/
theorem rPush_any (v : Value) (l : List Int) (x : Int) (w : World) (hK : KZ w v l) :
    Calls Try.prog 13 #[v, .int .i64 x] w (RetZ (pushQ l x) (pushE l x) w) := by
  have HC := rCheck_any v l w hK
  by_cases h : dqE l = 0
  · have hlen := dqE_len h
    rw [h] at HC
    have HK := Lib.hid hK
    have HC := Lib.hid HC
    obtain ⟨ad, cap, rfl, hc1, hc2, hA⟩ := hK
    have HA := Lib.hid hA
    clear hA
    by_cases h1 : x < 0
    · have hE : pushE l x = 2 := by unfold pushE; rw [if_pos h]; unfold dnE; rw [if_pos (.inl h1)]
      have hQ : pushQ l x = [] := if_neg (by rw [hE]; decide)
      rw [hE, hQ]
      clear hE hQ h
      go_enter Try.func13, Try.ntmps13
      go_wp2_with fail
      refine HC.out.mono ?_
      rintro e w1 ⟨rfl, b1⟩
      have B1 := Lib.hid b1
      clear b1
      go_wp2
      go_ret2
      exact ⟨_, rfl, FzC.nil _ _ _ _ (by decide), B1.out⟩
    · by_cases h2 : 16 ≤ x
      · have hE : pushE l x = 2 := by unfold pushE; rw [if_pos h]; unfold dnE; rw [if_pos (.inr h2)]
        have hQ : pushQ l x = [] := if_neg (by rw [hE]; decide)
        rw [hE, hQ]
        clear hE hQ h
        go_enter Try.func13, Try.ntmps13
        go_wp2_with fail
        refine HC.out.mono ?_
        rintro e w1 ⟨rfl, b1⟩
        have B1 := Lib.hid b1
        clear b1
        go_wp2
        go_ret2
        exact ⟨_, rfl, FzC.nil _ _ _ _ (by decide), B1.out⟩
      · by_cases h3 : x ∈ l
        · have hE : pushE l x = 6 := by unfold pushE; rw [if_pos h]; unfold dnE; rw [if_neg (by omega), if_pos h3]
          have hQ : pushQ l x = [] := if_neg (by rw [hE]; decide)
          have hz : hasZ l x = true := by unfold hasZ; exact decide_eq_true h3
          rw [hE, hQ]
          have HH : Hid (∀ W, KZ W (.slice ad l.length cap) l → Calls Try.prog 29 #[.slice ad l.length cap, .int .i64 x] W fun e w' => e = .returned (.bool true) ∧ W = w') := Lib.hid (fun W hW => by
            have := rHas_any _ l x W hW.lc (by omega)
            rwa [hz] at this)
          clear hE hQ h hz h3
          go_enter Try.func13, Try.ntmps13
          go_wp2_with fail
          refine HC.out.mono ?_
          rintro e w1 ⟨rfl, b1⟩
          have HH1 := Lib.hid (HH.out w1 (HK.out.below b1))
          have B1 := Lib.hid b1
          clear b1
          go_wp2_with fail
          refine HH1.out.mono ?_
          rintro e w2 ⟨rfl, rfl⟩
          go_wp2
          go_ret2
          exact ⟨_, rfl, FzC.nil _ _ _ _ (by decide), B1.out⟩
        · have hE : pushE l x = 0 := by unfold pushE; rw [if_pos h]; unfold dnE; rw [if_neg (by omega), if_neg h3]
          have hQ : pushQ l x = l ++ [x] := if_pos hE
          have hz : hasZ l x = false := by unfold hasZ; exact decide_eq_false h3
          rw [hE, hQ]
          have HH : Hid (∀ W, KZ W (.slice ad l.length cap) l → Calls Try.prog 29 #[.slice ad l.length cap, .int .i64 x] W fun e w' => e = .returned (.bool false) ∧ W = w') := Lib.hid (fun W hW => by
            have := rHas_any _ l x W hW.lc (by omega)
            rwa [hz] at this)
          clear hE hQ h hz h3
          go_enter Try.func13, Try.ntmps13
          go_wp2_with fail
          refine HC.out.mono ?_
          rintro e w1 ⟨rfl, b1⟩
          have HH1 := Lib.hid (HH.out w1 (HK.out.below b1))
          have B1 := Lib.hid b1
          clear b1
          go_wp2_with fail
          refine HH1.out.mono ?_
          rintro e w2 ⟨rfl, rfl⟩
          have hb2 : Below w1.heap.size w1 (w1.alloc (.cells #[] TZ)) := (Below.refl _ _).alloc (Nat.le_refl _) _
          have hB2 := B1.out.trans (hb2.mono B1.out.size)
          obtain ⟨v3, W3, hr3, ho3, hg3, hb3⟩ := append_restZ (w1.alloc (.cells #[] TZ)) w.heap.size w.heap.size _ [] ad cap l (made_rowZ (World.alloc_heap_new w1 _) B1.out.size) (HA.out.below hB2) (by simp) (by omega) hB2.size
          rw [List.nil_append] at ho3
          have hB3 := hB2.trans hb3
          have hb4 : Below W3.heap.size W3 (W3.alloc (.cells #[.int .i64 x] TZ)) := (Below.refl _ _).alloc (Nat.le_refl _) _
          have hB4 := hB3.trans (hb4.mono hB3.size)
          obtain ⟨v5, W5, hr5, ho5, hg5, hb5⟩ := append_oneZ (W3.alloc (.cells #[.int .i64 x] TZ)) w.heap.size v3 l x W3.heap.size (ho3.below hb4) (World.alloc_heap_new W3 _) (by omega) hB4.size
          have HO := Lib.hid ho5
          have HB := Lib.hid (hB4.trans hb5)
          clear hb2 hB2 ho3 hg3 hb3 hB3 hb4 hB4 ho5 hg5 hb5
          go_wp2_with (at_builtin; first | refine append_by_run _ rfl _ _ 22 rfl _ _ rfl rfl _ _ hr3 ?_ | refine append_by_run _ rfl _ _ 22 rfl _ _ rfl rfl _ _ hr5 ?_)
          go_ret2
          exact ⟨_, rfl, HO.out.fz, HB.out⟩
  · have hE : pushE l x = dqE l := if_neg h
    have hQ : pushQ l x = [] := if_neg (by rw [hE]; exact h)
    rw [hE, hQ]
    obtain ⟨z, hz⟩ : ∃ z, dqE l = z := ⟨_, rfl⟩
    rw [hz] at HC h ⊢
    have h0' : (z != 0) = true := by simpa using h
    have HC := Lib.hid HC
    clear hK hE hQ hz h
    go_enter Try.func13, Try.ntmps13
    go_wp2_with fail
    refine HC.out.mono ?_
    rintro e w1 ⟨rfl, b1⟩
    have B1 := Lib.hid b1
    clear b1
    go_wp2
    go_ret2
    exact ⟨_, rfl, FzC.nil _ _ _ _ (by decide), B1.out⟩

set_option maxRecDepth 100000 in
set_option maxHeartbeats 2000000 in
/-- The reference's Pop. -/
theorem rPop_any (v : Value) (l : List Int) (w : World) (hK : KZ w v l) :
    Calls Try.prog 15 #[v] w (RetX (popQ l) (popX l) (takeE l) w) := by
  have HC := rCheck_any v l w hK
  obtain ⟨ad, cap, rfl, hc1, hc2, hA⟩ := hK
  by_cases hd : dqE l = 0
  · by_cases h0 : l = []
    · have hE : takeE l = 23 := by unfold takeE; rw [if_pos hd, if_pos h0]
      have hr1 : popQ l = [] := if_neg (by rw [hE]; decide)
      have hr2 : popX l = 0 := if_neg (by rw [hE]; decide)
      rw [hd] at HC
      rw [hE, hr1, hr2]
      have HC := Lib.hid HC
      clear hA hE hr1 hr2 hd
      subst h0
      go_enter Try.func15, Try.ntmps15
      go_wp2_with fail
      refine HC.out.mono ?_
      rintro e w1 ⟨rfl, b1⟩
      have B1 := Lib.hid b1
      clear b1
      go_wp2
      go_ret3
      exact ⟨_, rfl, FzC.nil _ _ _ _ (by decide), B1.out⟩
    · have h : takeE l = 0 := takeE_iff.2 ⟨hd, h0⟩
      have hlen := dqE_len hd
      have hpos := List.length_pos_iff.2 h0
      have hr1 : popQ l = l.take (l.length - 1) := if_pos h
      have hr2 : popX l = gz l (l.length - 1) := if_pos h
      rw [hd] at HC
      rw [h, hr1, hr2]
      have hn : ((l.length : Int) == 0) = false := by rw [beq_eq_false_iff_ne]; omega
      have q1 : IntKind.i64.wrap ((l.length : Int) - 1) = ((l.length - 1 : Nat) : Int) := by rw [IntWalk.i64_in _ (by omega)]; omega
      have hsl := headZ (l.length - 1) ad l.length cap (by omega)
      have q2 : ((l.length - 1 : Nat) : Int) < (l.length : Int) := by omega
      have q3 : (0 : Int) ≤ ((l.length - 1 : Nat) : Int) := by omega
      obtain ⟨b0, off, rfl, hblk, hc⟩ := hA (l.length - 1) (by omega)
      obtain ⟨x, hx⟩ : ∃ x, l[l.length - 1]?.getD 0 = x := ⟨_, rfl⟩
      rw [hx] at hc
      have HX : Hid (gz l (l.length - 1) = x) := Lib.hid hx
      have HC := Lib.hid HC
      have HA := Lib.hid hA
      have HCE := Lib.hid hc
      have HBK := Lib.hid hblk
      clear hA hr1 hr2 h h0 hd hx hc hblk
      go_enter Try.func15, Try.ntmps15
      go_wp2_with fail
      refine HC.out.mono ?_
      rintro e w2 ⟨rfl, b2⟩
      obtain ⟨W0, hW0⟩ : ∃ W, w2.drew = W := ⟨_, rfl⟩
      have HBW : Hid (Below w.heap.size w W0) := Lib.hid (by rw [← hW0]; exact b2.drew)
      have HSB : Hid (b0 < w.heap.size) := HBK
      have HS0 : Hid (W0.cell? ⟨b0, off + (l.length - 1), none⟩ = some (.int .i64 x)) := Lib.hid ((HBW.out.cell (p := ⟨b0, off + (l.length - 1), none⟩) HSB.out).trans HCE.out)
      clear b2
      go_wp2
      refine wp_region_held (S := fun W => W.cell? ⟨b0, off + (l.length - 1), none⟩ = some (.int .i64 x)) (by kernel_rfl) ?_
      change wpAnyH _ _ _ _ _ _ _ _ w2.drew
      rw [hW0]
      clear hW0
      refine wpAnyH_read (i := 1) (v := .slice (some ⟨b0, off, none⟩) l.length cap) rfl (by kernel_rfl) (by kernel_rfl) (by kernel_rfl) (fun _ _ _ h => h) (by rfl) (fun _ _ => rfl) HS0.out ?_
      simp only [Act.put, List.setIfInBounds_toArray, List.set_cons_zero, List.set_cons_succ]
      refine wpAnyH_read (i := 2) (v := .slice (some ⟨b0, off, none⟩) l.length cap) rfl (by kernel_rfl) (by kernel_rfl) (by kernel_rfl) (fun _ _ _ h => h) (by rfl) (fun _ _ => rfl) HS0.out ?_
      simp only [Act.put, List.setIfInBounds_toArray, List.set_cons_zero, List.set_cons_succ]
      refine wpAnyH_read (i := 3) (v := .int .i64 (l.length : Int)) rfl (by kernel_rfl) (by kernel_rfl) (by kernel_rfl) (fun _ _ _ h => h) (by rfl) ?_ HS0.out ?_
      · rintro w' -
        go_simp
      simp only [Act.put, List.setIfInBounds_toArray, List.set_cons_zero, List.set_cons_succ]
      refine wpAnyH_read (i := 4) (v := .int .i64 ((l.length - 1 : Nat) : Int)) rfl (by kernel_rfl) (by kernel_rfl) (by kernel_rfl) (fun _ _ _ h => h) (by rfl) ?_ HS0.out ?_
      · rintro w' -
        go_simp
      simp only [Act.put, List.setIfInBounds_toArray, List.set_cons_zero, List.set_cons_succ]
      refine wpAnyH_read (i := 5) (v := .slice (some ⟨b0, off, none⟩) (l.length - 1) cap) rfl (by kernel_rfl) (by kernel_rfl) (by kernel_rfl) (fun _ _ _ h => h) (by rfl) ?_ HS0.out ?_
      · rintro w' -
        go_simp
      simp only [Act.put, List.setIfInBounds_toArray, List.set_cons_zero, List.set_cons_succ]
      refine wpAnyH_read (i := 7) (v := .slice (some ⟨b0, off, none⟩) l.length cap) rfl (by kernel_rfl) (by kernel_rfl) (by kernel_rfl) (fun _ _ _ h => h) (by rfl) (fun _ _ => rfl) HS0.out ?_
      simp only [Act.put, List.setIfInBounds_toArray, List.set_cons_zero, List.set_cons_succ]
      refine wpAnyH_read (i := 8) (v := .slice (some ⟨b0, off, none⟩) l.length cap) rfl (by kernel_rfl) (by kernel_rfl) (by kernel_rfl) (fun _ _ _ h => h) (by rfl) (fun _ _ => rfl) HS0.out ?_
      simp only [Act.put, List.setIfInBounds_toArray, List.set_cons_zero, List.set_cons_succ]
      refine wpAnyH_read (i := 9) (v := .int .i64 (l.length : Int)) rfl (by kernel_rfl) (by kernel_rfl) (by kernel_rfl) (fun _ _ _ h => h) (by rfl) ?_ HS0.out ?_
      · rintro w' -
        go_simp
      simp only [Act.put, List.setIfInBounds_toArray, List.set_cons_zero, List.set_cons_succ]
      refine wpAnyH_read (i := 10) (v := .int .i64 ((l.length - 1 : Nat) : Int)) rfl (by kernel_rfl) (by kernel_rfl) (by kernel_rfl) (fun _ _ _ h => h) (by rfl) ?_ HS0.out ?_
      · rintro w' -
        go_simp
      simp only [Act.put, List.setIfInBounds_toArray, List.set_cons_zero, List.set_cons_succ]
      refine wpAnyH_read (i := 11) (v := .pointer (some ⟨b0, off + (l.length - 1), none⟩)) rfl (by kernel_rfl) (by kernel_rfl) (by kernel_rfl) (fun _ _ _ h => h) (by rfl) ?_ HS0.out ?_
      · rintro w' -
        go_simp
      simp only [Act.put, List.setIfInBounds_toArray, List.set_cons_zero, List.set_cons_succ]
      refine wpAnyH_read (i := 12) (v := .int .i64 x) rfl (by kernel_rfl) (by kernel_rfl) (by kernel_rfl) (fun _ _ _ h => h) (by rfl) ?_ HS0.out ?_
      · rintro w' hS'
        go_simp
      simp only [Act.put, List.setIfInBounds_toArray, List.set_cons_zero, List.set_cons_succ]
      refine wpAnyH_next (i := 0) rfl (by kernel_rfl) ?_
      go_wp2_with fail
      obtain ⟨V1, hV1⟩ : ∃ V, W0.alloc (.cells #[] TZ) = V := ⟨_, rfl⟩
      have hm1 : V1.heap[W0.heap.size]? = some (.cells #[] TZ) := by rw [← hV1]; exact World.alloc_heap_new W0 _
      have hb1 : Below W0.heap.size W0 V1 := by rw [← hV1]; exact (Below.refl _ _).alloc (Nat.le_refl _) _
      rw [hV1]
      clear hV1
      have HB_1 := Lib.hid (HBW.out.trans (hb1.mono HBW.out.size))
      have HX1 := Lib.hid HBW.out.size
      have HMx_1 := Lib.hid hm1
      have HS_1 := Lib.hid (cell_laterZ hb1 HS0.out)
      clear hm1 hb1
      refine And.intro HS_1.out ?_
      refine wpAnyH_next (i := 6) rfl (by kernel_rfl) ?_
      obtain ⟨v2, V2, hr2, ho2, hg2, hb2⟩ := append_restZ V1 w.heap.size w.heap.size _ [] (some ⟨b0, off, none⟩) cap (l.take (l.length - 1)) (made_rowZ HMx_1.out (by have := HX1.out; omega)) (intsA_take (HA.out.below HB_1.out) _) (by simp) (by rw [List.length_take]; omega) HB_1.out.size
      rw [show (l.take (l.length - 1)).length = l.length - 1 by rw [List.length_take]; omega] at hr2
      have hg2 : V1.grownBy V2 (some (W0.heap.size)) := hg2
      have HB_2 := Lib.hid (HB_1.out.trans hb2)
      have HVu_2 : Hid (FzC w.heap.size V2 v2 (l.take (l.length - 1))) := Lib.hid (OwnZ.fz ho2)
      have HS_2 := Lib.hid ((hb2.cell (p := ⟨b0, off + (l.length - 1), none⟩) HSB.out).trans HS_1.out)
      clear ho2 hg2 hb2
      go_wp2_with (at_builtin; refine append_by_run _ rfl _ _ 22 rfl _ _ rfl rfl _ _ hr2 ?_)
      clear hr2
      refine And.intro HS_2.out ?_
      refine wpAnyH_next (i := 13) rfl (by kernel_rfl) ?_
      go_wp2_with fail
      refine And.intro HS_2.out ?_
      refine wpAnyH_next (i := 14) rfl (by kernel_rfl) ?_
      go_wp2_with fail
      refine And.intro HS_2.out ?_
      refine wpAnyH_next (i := 15) rfl (by kernel_rfl) ?_
      go_wp2_with fail
      refine And.intro HS_2.out ?_
      refine wpAnyH_done (by kernel_rfl) ?_ _
      go_wp2
      go_ret3
      exact ⟨_, by rw [HX.out]; rfl, HVu_2.out, HB_2.out⟩
  · have hE : takeE l = dqE l := by unfold takeE; rw [if_neg hd]
    have hr1 : popQ l = [] := if_neg (by rw [hE]; exact hd)
    have hr2 : popX l = 0 := if_neg (by rw [hE]; exact hd)
    rw [hE, hr1, hr2]
    obtain ⟨z, hz⟩ : ∃ z, dqE l = z := ⟨_, rfl⟩
    rw [hz] at HC hd ⊢
    have h0' : (z != 0) = true := by simpa using hd
    have HC := Lib.hid HC
    clear hA hE hr1 hr2 hz hd
    go_enter Try.func15, Try.ntmps15
    go_wp2_with fail
    refine HC.out.mono ?_
    rintro e w1 ⟨rfl, b1⟩
    have B1 := Lib.hid b1
    clear b1
    go_wp2
    go_ret3
    exact ⟨_, rfl, FzC.nil _ _ _ _ (by decide), B1.out⟩

set_option maxRecDepth 100000 in
set_option maxHeartbeats 2000000 in
/-- The reference's Steal. -/
theorem rSteal_any (v : Value) (l : List Int) (w : World) (hK : KZ w v l) :
    Calls Try.prog 17 #[v] w (RetX (stealQ l) (stealX l) (takeE l) w) := by
  have HC := rCheck_any v l w hK
  obtain ⟨ad, cap, rfl, hc1, hc2, hA⟩ := hK
  by_cases hd : dqE l = 0
  · by_cases h0 : l = []
    · have hE : takeE l = 23 := by unfold takeE; rw [if_pos hd, if_pos h0]
      have hr1 : stealQ l = [] := if_neg (by rw [hE]; decide)
      have hr2 : stealX l = 0 := if_neg (by rw [hE]; decide)
      rw [hd] at HC
      rw [hE, hr1, hr2]
      have HC := Lib.hid HC
      clear hA hE hr1 hr2 hd
      subst h0
      go_enter Try.func17, Try.ntmps17
      go_wp2_with fail
      refine HC.out.mono ?_
      rintro e w1 ⟨rfl, b1⟩
      have B1 := Lib.hid b1
      clear b1
      go_wp2
      go_ret3
      exact ⟨_, rfl, FzC.nil _ _ _ _ (by decide), B1.out⟩
    · have h : takeE l = 0 := takeE_iff.2 ⟨hd, h0⟩
      have hlen := dqE_len hd
      have hpos := List.length_pos_iff.2 h0
      have hr1 : stealQ l = l.drop 1 := if_pos h
      have hr2 : stealX l = gz l (0) := if_pos h
      rw [hd] at HC
      rw [h, hr1, hr2]
      have hn : ((l.length : Int) == 0) = false := by rw [beq_eq_false_iff_ne]; omega
      obtain ⟨ao, c2, hAR, hc3, hc4, hsl⟩ := restZ w.heap.size 1 ad cap l w hA hc1 (by omega)
      have hsl : ∀ w, (Instr.slice 22 (.slice ad l.length cap) (some (.int .i64 1)) none none).run Try.prog w = .ok (.slice ao (l.length - 1) c2) w := hsl
      have HAR := Lib.hid hAR
      have q2 : (0 : Int) < (l.length : Int) := by omega
      clear hAR
      obtain ⟨b0, off, rfl, hblk, hc⟩ := hA (0) (by omega)
      obtain ⟨x, hx⟩ : ∃ x, l[0]?.getD 0 = x := ⟨_, rfl⟩
      rw [hx] at hc
      have HX : Hid (gz l (0) = x) := Lib.hid hx
      have HC := Lib.hid HC
      have HA := Lib.hid hA
      have HCE := Lib.hid hc
      have HBK := Lib.hid hblk
      clear hA hr1 hr2 h h0 hd hx hc hblk
      go_enter Try.func17, Try.ntmps17
      go_wp2_with fail
      refine HC.out.mono ?_
      rintro e w2 ⟨rfl, b2⟩
      obtain ⟨W0, hW0⟩ : ∃ W, w2.drew = W := ⟨_, rfl⟩
      have HBW : Hid (Below w.heap.size w W0) := Lib.hid (by rw [← hW0]; exact b2.drew)
      have HSB : Hid (b0 < w.heap.size) := HBK
      have HS0 : Hid (W0.cell? ⟨b0, off, none⟩ = some (.int .i64 x)) := Lib.hid ((HBW.out.cell (p := ⟨b0, off, none⟩) HSB.out).trans HCE.out)
      clear b2
      go_wp2
      refine wp_region_held (S := fun W => W.cell? ⟨b0, off, none⟩ = some (.int .i64 x)) (by kernel_rfl) ?_
      change wpAnyH _ _ _ _ _ _ _ _ w2.drew
      rw [hW0]
      clear hW0
      refine wpAnyH_read (i := 1) (v := .slice (some ⟨b0, off, none⟩) l.length cap) rfl (by kernel_rfl) (by kernel_rfl) (by kernel_rfl) (fun _ _ _ h => h) (by rfl) (fun _ _ => rfl) HS0.out ?_
      simp only [Act.put, List.setIfInBounds_toArray, List.set_cons_zero, List.set_cons_succ]
      refine wpAnyH_read (i := 2) (v := .slice ao (l.length - 1) c2) rfl (by kernel_rfl) (by kernel_rfl) (by kernel_rfl) (fun _ _ _ h => h) (by rfl) ?_ HS0.out ?_
      · rintro w' -
        go_simp
      simp only [Act.put, List.setIfInBounds_toArray, List.set_cons_zero, List.set_cons_succ]
      refine wpAnyH_read (i := 4) (v := .slice (some ⟨b0, off, none⟩) l.length cap) rfl (by kernel_rfl) (by kernel_rfl) (by kernel_rfl) (fun _ _ _ h => h) (by rfl) (fun _ _ => rfl) HS0.out ?_
      simp only [Act.put, List.setIfInBounds_toArray, List.set_cons_zero, List.set_cons_succ]
      refine wpAnyH_read (i := 5) (v := .pointer (some ⟨b0, off, none⟩)) rfl (by kernel_rfl) (by kernel_rfl) (by kernel_rfl) (fun _ _ _ h => h) (by rfl) ?_ HS0.out ?_
      · rintro w' -
        go_simp
      simp only [Act.put, List.setIfInBounds_toArray, List.set_cons_zero, List.set_cons_succ]
      refine wpAnyH_read (i := 6) (v := .int .i64 x) rfl (by kernel_rfl) (by kernel_rfl) (by kernel_rfl) (fun _ _ _ h => h) (by rfl) ?_ HS0.out ?_
      · rintro w' hS'
        go_simp
      simp only [Act.put, List.setIfInBounds_toArray, List.set_cons_zero, List.set_cons_succ]
      refine wpAnyH_next (i := 0) rfl (by kernel_rfl) ?_
      go_wp2_with fail
      obtain ⟨V1, hV1⟩ : ∃ V, W0.alloc (.cells #[] TZ) = V := ⟨_, rfl⟩
      have hm1 : V1.heap[W0.heap.size]? = some (.cells #[] TZ) := by rw [← hV1]; exact World.alloc_heap_new W0 _
      have hb1 : Below W0.heap.size W0 V1 := by rw [← hV1]; exact (Below.refl _ _).alloc (Nat.le_refl _) _
      rw [hV1]
      clear hV1
      have HB_1 := Lib.hid (HBW.out.trans (hb1.mono HBW.out.size))
      have HX1 := Lib.hid HBW.out.size
      have HMx_1 := Lib.hid hm1
      have HS_1 := Lib.hid (cell_laterZ hb1 HS0.out)
      clear hm1 hb1
      refine And.intro HS_1.out ?_
      refine wpAnyH_next (i := 3) rfl (by kernel_rfl) ?_
      obtain ⟨v2, V2, hr2, ho2, hg2, hb2⟩ := append_restZ V1 w.heap.size w.heap.size _ [] ao c2 (l.drop 1) (made_rowZ HMx_1.out (by have := HX1.out; omega)) (HAR.out.below HB_1.out) (by simp) (by rw [List.length_drop]; omega) HB_1.out.size
      rw [show (l.drop 1).length = l.length - 1 by rw [List.length_drop]] at hr2
      have hg2 : V1.grownBy V2 (some (W0.heap.size)) := hg2
      have HB_2 := Lib.hid (HB_1.out.trans hb2)
      have HVu_2 : Hid (FzC w.heap.size V2 v2 (l.drop 1)) := Lib.hid (OwnZ.fz ho2)
      have HS_2 := Lib.hid ((hb2.cell (p := ⟨b0, off, none⟩) HSB.out).trans HS_1.out)
      clear ho2 hg2 hb2
      go_wp2_with (at_builtin; refine append_by_run _ rfl _ _ 22 rfl _ _ rfl rfl _ _ hr2 ?_)
      clear hr2
      refine And.intro HS_2.out ?_
      refine wpAnyH_next (i := 7) rfl (by kernel_rfl) ?_
      go_wp2_with fail
      refine And.intro HS_2.out ?_
      refine wpAnyH_next (i := 8) rfl (by kernel_rfl) ?_
      go_wp2_with fail
      refine And.intro HS_2.out ?_
      refine wpAnyH_next (i := 9) rfl (by kernel_rfl) ?_
      go_wp2_with fail
      refine And.intro HS_2.out ?_
      refine wpAnyH_done (by kernel_rfl) ?_ _
      go_wp2
      go_ret3
      exact ⟨_, by rw [HX.out]; rfl, HVu_2.out, HB_2.out⟩
  · have hE : takeE l = dqE l := by unfold takeE; rw [if_neg hd]
    have hr1 : stealQ l = [] := if_neg (by rw [hE]; exact hd)
    have hr2 : stealX l = 0 := if_neg (by rw [hE]; exact hd)
    rw [hE, hr1, hr2]
    obtain ⟨z, hz⟩ : ∃ z, dqE l = z := ⟨_, rfl⟩
    rw [hz] at HC hd ⊢
    have h0' : (z != 0) = true := by simpa using hd
    have HC := Lib.hid HC
    clear hA hE hr1 hr2 hz hd
    go_enter Try.func17, Try.ntmps17
    go_wp2_with fail
    refine HC.out.mono ?_
    rintro e w1 ⟨rfl, b1⟩
    have B1 := Lib.hid b1
    clear b1
    go_wp2
    go_ret3
    exact ⟨_, rfl, FzC.nil _ _ _ _ (by decide), B1.out⟩

set_option maxRecDepth 100000 in
set_option maxHeartbeats 4000000 in
/-- The reference's Half. -/
theorem rHalf_any (v : Value) (l : List Int) (w : World) (hK : KZ w v l) :
    Calls Try.prog 19 #[v] w (RetD (halfR l) (halfU l) w) := by
  have HC := rCheck_any v l w hK
  by_cases h : dqE l = 0
  · have hlen := dqE_len h
    have hr1 : halfR l = l.drop ((l.length + 1) / 2) := if_pos h
    have hr2 : halfU l = l.take ((l.length + 1) / 2) := if_pos h
    rw [h] at HC
    rw [hr1, hr2]
    obtain ⟨ad, cap, rfl, hc1, hc2, hA⟩ := hK
    obtain ⟨m, hm⟩ : ∃ m, (l.length + 1) / 2 = m := ⟨_, rfl⟩
    have hml : m ≤ l.length := by omega
    have q1 : IntKind.i64.wrap ((l.length : Int) + 1) = (l.length : Int) + 1 := IntWalk.i64_in _ (by omega)
    have q2 : ((l.length : Int) + 1).tdiv 2 = (m : Int) := by rw [Int.tdiv_eq_ediv_of_nonneg (by omega)]; omega
    have q3 : IntKind.i64.wrap (m : Int) = (m : Int) := IntWalk.i64_in _ (by omega)
    rw [hm]
    obtain ⟨ao, c2, hAR, hc3, hc4, hrun⟩ := restZ w.heap.size m ad cap l w hA hc1 hml
    have hsl := headZ m ad l.length cap (by omega)
    have HC := Lib.hid HC
    have HA := Lib.hid hA
    have HAR := Lib.hid hAR
    clear hA hr1 hr2 h hm hAR
    go_enter Try.func19, Try.ntmps19
    go_wp2_with fail
    refine HC.out.mono ?_
    rintro e w2 ⟨rfl, b2⟩
    obtain ⟨W0, hW0⟩ : ∃ W, w2.drew = W := ⟨_, rfl⟩
    have HBW : Hid (Below w.heap.size w W0) := Lib.hid (by rw [← hW0]; exact b2.drew)
    clear b2
    go_wp2
    refine wp_region_held (S := fun _ => True) (by kernel_rfl) ?_
    change wpAnyH _ _ _ _ _ _ _ _ w2.drew
    rw [hW0]
    clear hW0
    refine wpAnyH_read (i := 1) (v := .slice ad l.length cap) rfl (by kernel_rfl) (by kernel_rfl) (by kernel_rfl) (fun _ _ _ h => h) (by rfl) (fun _ _ => rfl) trivial ?_
    simp only [Act.put, List.setIfInBounds_toArray, List.set_cons_zero, List.set_cons_succ]
    refine wpAnyH_read (i := 2) (v := .int .i64 (m : Int)) rfl (by kernel_rfl) (by kernel_rfl) (by kernel_rfl) (fun _ _ _ h => h) (by rfl) (fun _ _ => rfl) trivial ?_
    simp only [Act.put, List.setIfInBounds_toArray, List.set_cons_zero, List.set_cons_succ]
    refine wpAnyH_read (i := 3) (v := .slice ao (l.length - m) c2) rfl (by kernel_rfl) (by kernel_rfl) (by kernel_rfl) (fun _ _ _ h => h) (by rfl) ?_ trivial ?_
    · rintro w' -
      go_simp
    simp only [Act.put, List.setIfInBounds_toArray, List.set_cons_zero, List.set_cons_succ]
    refine wpAnyH_read (i := 6) (v := .slice ad l.length cap) rfl (by kernel_rfl) (by kernel_rfl) (by kernel_rfl) (fun _ _ _ h => h) (by rfl) (fun _ _ => rfl) trivial ?_
    simp only [Act.put, List.setIfInBounds_toArray, List.set_cons_zero, List.set_cons_succ]
    refine wpAnyH_read (i := 7) (v := .int .i64 (m : Int)) rfl (by kernel_rfl) (by kernel_rfl) (by kernel_rfl) (fun _ _ _ h => h) (by rfl) (fun _ _ => rfl) trivial ?_
    simp only [Act.put, List.setIfInBounds_toArray, List.set_cons_zero, List.set_cons_succ]
    refine wpAnyH_read (i := 8) (v := .slice ad m cap) rfl (by kernel_rfl) (by kernel_rfl) (by kernel_rfl) (fun _ _ _ h => h) (by rfl) ?_ trivial ?_
    · rintro w' -
      go_simp
    simp only [Act.put, List.setIfInBounds_toArray, List.set_cons_zero, List.set_cons_succ]
    refine wpAnyH_all (rs := [0, 5]) (by kernel_rfl) (by simp) (fun j hj => ?_)
    rcases List.mem_cons.1 hj with rfl | hj
    · refine wpOp_of_list rfl ?_
      go_wp2_with fail
      obtain ⟨V1, hV1⟩ : ∃ V, W0.alloc (.cells #[] TZ) = V := ⟨_, rfl⟩
      have hm1 : V1.heap[W0.heap.size]? = some (.cells #[] TZ) := by rw [← hV1]; exact World.alloc_heap_new W0 _
      have hb1 : Below W0.heap.size W0 V1 := by rw [← hV1]; exact (Below.refl _ _).alloc (Nat.le_refl _) _
      rw [hV1]
      clear hV1
      have HB_1 := Lib.hid (HBW.out.trans (hb1.mono HBW.out.size))
      have HX1 := Lib.hid HBW.out.size
      have HMx_1 := Lib.hid hm1
      clear hm1 hb1
      try refine And.intro trivial ?_
      refine wpAnyH_all (rs := [4, 5]) (by kernel_rfl) (by simp) (fun j hj => ?_)
      rcases List.mem_cons.1 hj with rfl | hj
      · refine wpOp_of_list rfl ?_
        obtain ⟨v2, V2, hr2, ho2, hg2, hb2⟩ := append_restZ V1 w.heap.size w.heap.size _ [] ao c2 (l.drop m) (made_rowZ HMx_1.out (by have := HX1.out; omega)) (HAR.out.below HB_1.out) (by simp) (by rw [List.length_drop]; omega) HB_1.out.size
        rw [show (l.drop m).length = l.length - m by rw [List.length_drop]] at hr2
        have hg2 : V1.grownBy V2 (some (W0.heap.size)) := hg2
        have HB_2 := Lib.hid (HB_1.out.trans hb2)
        have HVu_2 : Hid (FzC w.heap.size V2 v2 (l.drop m)) := Lib.hid (OwnZ.fz ho2)
        clear ho2 hg2 hb2
        go_wp2_with (at_builtin; refine append_by_run _ rfl _ _ 22 rfl _ _ rfl rfl _ _ hr2 ?_)
        clear hr2
        try refine And.intro trivial ?_
        refine wpAnyH_next (i := 5) rfl (by kernel_rfl) ?_
        go_wp2_with fail
        obtain ⟨V3, hV3⟩ : ∃ V, V2.alloc (.cells #[] TZ) = V := ⟨_, rfl⟩
        have hm3 : V3.heap[V2.heap.size]? = some (.cells #[] TZ) := by rw [← hV3]; exact World.alloc_heap_new V2 _
        have hb3 : Below V2.heap.size V2 V3 := by rw [← hV3]; exact (Below.refl _ _).alloc (Nat.le_refl _) _
        rw [hV3]
        clear hV3
        have HB_3 := Lib.hid (HB_2.out.trans (hb3.mono HB_2.out.size))
        have HX3 := Lib.hid HB_2.out.size
        have HVu_3 := Lib.hid (FzC.below HVu_2.out hb3)
        have HMy_3 := Lib.hid hm3
        clear hm3 hb3
        try refine And.intro trivial ?_
        refine wpAnyH_next (i := 9) rfl (by kernel_rfl) ?_
        obtain ⟨v4, V4, hr4, ho4, hg4, hb4⟩ := append_restZ V3 w.heap.size w.heap.size _ [] ad cap (l.take m) (made_rowZ HMy_3.out (by have := HX3.out; omega)) (intsA_take (HA.out.below HB_3.out) m) (by simp) (by rw [List.length_take]; omega) HB_3.out.size
        rw [show (l.take m).length = m by rw [List.length_take]; omega] at hr4
        have hg4 : V3.grownBy V4 (some (V2.heap.size)) := hg4
        have HB_4 := Lib.hid (HB_3.out.trans hb4)
        have HVu_4 := Lib.hid (fz_keep HVu_3.out HMy_3.out hg4)
        have HVv_4 : Hid (FzC w.heap.size V4 v4 (l.take m)) := Lib.hid (OwnZ.fz ho4)
        clear ho4 hg4 hb4
        go_wp2_with (at_builtin; refine append_by_run _ rfl _ _ 22 rfl _ _ rfl rfl _ _ hr4 ?_)
        clear hr4
        try refine And.intro trivial ?_
        refine wpAnyH_next (i := 10) rfl (by kernel_rfl) ?_
        go_wp2_with fail
        try refine And.intro trivial ?_
        refine wpAnyH_next (i := 11) rfl (by kernel_rfl) ?_
        go_wp2_with fail
        try refine And.intro trivial ?_
        refine wpAnyH_done (by kernel_rfl) ?_ _
        go_wp2
        go_ret2
        exact ⟨_, _, rfl, HVu_4.out, HVv_4.out, HB_4.out⟩
      · obtain rfl : j = 5 := by simpa using hj
        refine wpOp_of_list rfl ?_
        go_wp2_with fail
        obtain ⟨V2, hV2⟩ : ∃ V, V1.alloc (.cells #[] TZ) = V := ⟨_, rfl⟩
        have hm2 : V2.heap[V1.heap.size]? = some (.cells #[] TZ) := by rw [← hV2]; exact World.alloc_heap_new V1 _
        have hb2 : Below V1.heap.size V1 V2 := by rw [← hV2]; exact (Below.refl _ _).alloc (Nat.le_refl _) _
        rw [hV2]
        clear hV2
        have HB_2 := Lib.hid (HB_1.out.trans (hb2.mono HB_1.out.size))
        have HX2 := Lib.hid HB_1.out.size
        have HMx_2 : Hid (V2.heap[W0.heap.size]? = some (.cells #[] TZ)) := Lib.hid ((hb2.block _ (Array.getElem?_eq_some_iff.1 HMx_1.out).1).trans HMx_1.out)
        have HLx_2 : Hid (W0.heap.size < V1.heap.size) := Lib.hid (Array.getElem?_eq_some_iff.1 HMx_1.out).1
        have HMy_2 := Lib.hid hm2
        clear hm2 hb2
        try refine And.intro trivial ?_
        refine wpAnyH_next (i := 4) rfl (by kernel_rfl) ?_
        obtain ⟨v3, V3, hr3, ho3, hg3, hb3⟩ := append_restZ V2 w.heap.size w.heap.size _ [] ao c2 (l.drop m) (made_rowZ HMx_2.out (by have := HX1.out; omega)) (HAR.out.below HB_2.out) (by simp) (by rw [List.length_drop]; omega) HB_2.out.size
        rw [show (l.drop m).length = l.length - m by rw [List.length_drop]] at hr3
        have hg3 : V2.grownBy V3 (some (W0.heap.size)) := hg3
        have HB_3 := Lib.hid (HB_2.out.trans hb3)
        have HMy_3 : Hid (V3.heap[V1.heap.size]? = some (.cells #[] TZ)) := Lib.hid ((hg3.block _ (Array.getElem?_eq_some_iff.1 HMy_2.out).1 (fun e => by injection e with e; have := HLx_2.out; omega)).trans HMy_2.out)
        have HVu_3 : Hid (FzC w.heap.size V3 v3 (l.drop m)) := Lib.hid (OwnZ.fz ho3)
        clear ho3 hg3 hb3
        go_wp2_with (at_builtin; refine append_by_run _ rfl _ _ 22 rfl _ _ rfl rfl _ _ hr3 ?_)
        clear hr3
        try refine And.intro trivial ?_
        refine wpAnyH_next (i := 9) rfl (by kernel_rfl) ?_
        obtain ⟨v4, V4, hr4, ho4, hg4, hb4⟩ := append_restZ V3 w.heap.size w.heap.size _ [] ad cap (l.take m) (made_rowZ HMy_3.out (by have := HX2.out; omega)) (intsA_take (HA.out.below HB_3.out) m) (by simp) (by rw [List.length_take]; omega) HB_3.out.size
        rw [show (l.take m).length = m by rw [List.length_take]; omega] at hr4
        have hg4 : V3.grownBy V4 (some (V1.heap.size)) := hg4
        have HB_4 := Lib.hid (HB_3.out.trans hb4)
        have HVu_4 := Lib.hid (fz_keep HVu_3.out HMy_3.out hg4)
        have HVv_4 : Hid (FzC w.heap.size V4 v4 (l.take m)) := Lib.hid (OwnZ.fz ho4)
        clear ho4 hg4 hb4
        go_wp2_with (at_builtin; refine append_by_run _ rfl _ _ 22 rfl _ _ rfl rfl _ _ hr4 ?_)
        clear hr4
        try refine And.intro trivial ?_
        refine wpAnyH_next (i := 10) rfl (by kernel_rfl) ?_
        go_wp2_with fail
        try refine And.intro trivial ?_
        refine wpAnyH_next (i := 11) rfl (by kernel_rfl) ?_
        go_wp2_with fail
        try refine And.intro trivial ?_
        refine wpAnyH_done (by kernel_rfl) ?_ _
        go_wp2
        go_ret2
        exact ⟨_, _, rfl, HVu_4.out, HVv_4.out, HB_4.out⟩
    · obtain rfl : j = 5 := by simpa using hj
      refine wpOp_of_list rfl ?_
      go_wp2_with fail
      obtain ⟨V1, hV1⟩ : ∃ V, W0.alloc (.cells #[] TZ) = V := ⟨_, rfl⟩
      have hm1 : V1.heap[W0.heap.size]? = some (.cells #[] TZ) := by rw [← hV1]; exact World.alloc_heap_new W0 _
      have hb1 : Below W0.heap.size W0 V1 := by rw [← hV1]; exact (Below.refl _ _).alloc (Nat.le_refl _) _
      rw [hV1]
      clear hV1
      have HB_1 := Lib.hid (HBW.out.trans (hb1.mono HBW.out.size))
      have HX1 := Lib.hid HBW.out.size
      have HMy_1 := Lib.hid hm1
      clear hm1 hb1
      try refine And.intro trivial ?_
      refine wpAnyH_next (i := 0) rfl (by kernel_rfl) ?_
      go_wp2_with fail
      obtain ⟨V2, hV2⟩ : ∃ V, V1.alloc (.cells #[] TZ) = V := ⟨_, rfl⟩
      have hm2 : V2.heap[V1.heap.size]? = some (.cells #[] TZ) := by rw [← hV2]; exact World.alloc_heap_new V1 _
      have hb2 : Below V1.heap.size V1 V2 := by rw [← hV2]; exact (Below.refl _ _).alloc (Nat.le_refl _) _
      rw [hV2]
      clear hV2
      have HB_2 := Lib.hid (HB_1.out.trans (hb2.mono HB_1.out.size))
      have HX2 := Lib.hid HB_1.out.size
      have HMy_2 : Hid (V2.heap[W0.heap.size]? = some (.cells #[] TZ)) := Lib.hid ((hb2.block _ (Array.getElem?_eq_some_iff.1 HMy_1.out).1).trans HMy_1.out)
      have HLy_2 : Hid (W0.heap.size < V1.heap.size) := Lib.hid (Array.getElem?_eq_some_iff.1 HMy_1.out).1
      have HMx_2 := Lib.hid hm2
      clear hm2 hb2
      try refine And.intro trivial ?_
      refine wpAnyH_next (i := 4) rfl (by kernel_rfl) ?_
      obtain ⟨v3, V3, hr3, ho3, hg3, hb3⟩ := append_restZ V2 w.heap.size w.heap.size _ [] ao c2 (l.drop m) (made_rowZ HMx_2.out (by have := HX2.out; omega)) (HAR.out.below HB_2.out) (by simp) (by rw [List.length_drop]; omega) HB_2.out.size
      rw [show (l.drop m).length = l.length - m by rw [List.length_drop]] at hr3
      have hg3 : V2.grownBy V3 (some (V1.heap.size)) := hg3
      have HB_3 := Lib.hid (HB_2.out.trans hb3)
      have HMy_3 : Hid (V3.heap[W0.heap.size]? = some (.cells #[] TZ)) := Lib.hid ((hg3.block _ (Array.getElem?_eq_some_iff.1 HMy_2.out).1 (fun e => by injection e with e; have := HLy_2.out; omega)).trans HMy_2.out)
      have HVu_3 : Hid (FzC w.heap.size V3 v3 (l.drop m)) := Lib.hid (OwnZ.fz ho3)
      clear ho3 hg3 hb3
      go_wp2_with (at_builtin; refine append_by_run _ rfl _ _ 22 rfl _ _ rfl rfl _ _ hr3 ?_)
      clear hr3
      try refine And.intro trivial ?_
      refine wpAnyH_next (i := 9) rfl (by kernel_rfl) ?_
      obtain ⟨v4, V4, hr4, ho4, hg4, hb4⟩ := append_restZ V3 w.heap.size w.heap.size _ [] ad cap (l.take m) (made_rowZ HMy_3.out (by have := HX1.out; omega)) (intsA_take (HA.out.below HB_3.out) m) (by simp) (by rw [List.length_take]; omega) HB_3.out.size
      rw [show (l.take m).length = m by rw [List.length_take]; omega] at hr4
      have hg4 : V3.grownBy V4 (some (W0.heap.size)) := hg4
      have HB_4 := Lib.hid (HB_3.out.trans hb4)
      have HVu_4 := Lib.hid (fz_keep HVu_3.out HMy_3.out hg4)
      have HVv_4 : Hid (FzC w.heap.size V4 v4 (l.take m)) := Lib.hid (OwnZ.fz ho4)
      clear ho4 hg4 hb4
      go_wp2_with (at_builtin; refine append_by_run _ rfl _ _ 22 rfl _ _ rfl rfl _ _ hr4 ?_)
      clear hr4
      try refine And.intro trivial ?_
      refine wpAnyH_next (i := 10) rfl (by kernel_rfl) ?_
      go_wp2_with fail
      try refine And.intro trivial ?_
      refine wpAnyH_next (i := 11) rfl (by kernel_rfl) ?_
      go_wp2_with fail
      try refine And.intro trivial ?_
      refine wpAnyH_done (by kernel_rfl) ?_ _
      go_wp2
      go_ret2
      exact ⟨_, _, rfl, HVu_4.out, HVv_4.out, HB_4.out⟩
  · have hr1 : halfR l = [] := if_neg h
    have hr2 : halfU l = [] := if_neg h
    rw [hr1, hr2]
    obtain ⟨z, hz⟩ : ∃ z, dqE l = z := ⟨_, rfl⟩
    rw [hz] at HC h
    have h0' : (z != 0) = true := by simpa using h
    have HC := Lib.hid HC
    clear hK hr1 hr2 hz h
    go_enter Try.func19, Try.ntmps19
    go_wp2_with fail
    refine HC.out.mono ?_
    rintro e w1 ⟨rfl, b1⟩
    have B1 := Lib.hid b1
    clear b1
    go_wp2
    go_ret2
    exact ⟨_, _, rfl, FzC.nil _ _ _ _ (by decide), FzC.nil _ _ _ _ (by decide), B1.out⟩

end Go.Proofs.Ytmgadcfiaipimaa
