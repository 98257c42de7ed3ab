/-
  What the program's Push of waiters returns.
-/
import Derived.Deep.RegionHeld3
import Derived.Test.YtonjempbphnimaaHeldTop
import Derived.Test.YtonjempbphnimaaWlChk
import Derived.Test.YtonjempbphnimaaWlPlc
import Derived.Test.YtonjempbphnimaaWlIns
namespace Go.Proofs.Ytonjempbphnimaa
open Go.RowKit Go.Shelf

/-- A call that returns waiters in a block of its own and an error. -/
def RetW (zs : List Wl) (x : Int) (w : World) (e : Ending) (w' : World) : Prop := ∃ v, e = .returned (.tuple #[v, .int .i64 x]) ∧ FwC w.heap.size w' v zs ∧ Below w.heap.size w w'
/-- Behind the place and the slice of the pushed waiter, whichever comes first. -/
def PlW (wd : World) (B : Nat) (o : List Wl) (v : Value) (p : Int) (a b c d f : Int) (x y : Value) (w' : World) : Prop :=
  x = .int .i64 p ∧ ∃ G, y = .slice (some ⟨G, 0, none⟩) 1 1 ∧ w'.heap[G]? = some (.cells #[.int .i64 a, .int .i64 b, .int .i64 c, .int .i64 d, .int .i64 f] TW (0, 0)) ∧ wd.heap.size ≤ G ∧ G < w'.heap.size ∧ OwnW B o v w' ∧ Below wd.heap.size wd w'
theorem plw_first {wd : World} {B : Nat} {o : List Wl} {v : Value} {kd p : Int} {φ : Nat → Prop} {ts : List Wl} {ad : Option Addr} {cap : Nat} {a b c d f : Int} {S : World → Prop} (hO : OwnW B o v wd) (hA : WlA φ wd ad ts) (hl : ts.length ≤ 1000) (hS : ∀ W, Below wd.heap.size wd W → S W) :
    Calls Try.prog 44 #[.int .i64 kd, .slice ad ts.length cap, .int .i64 p] wd fun e w1 => ∃ x, e = .returned x ∧ S w1 ∧ S (w1.alloc (.cells #[.int .i64 a, .int .i64 b, .int .i64 c, .int .i64 d, .int .i64 f] TW)) ∧ PlW wd B o v (plcW kd ts p : Nat) a b c d f x (.slice (some ⟨w1.heap.size, 0, none⟩) 1 1) (w1.alloc (.cells #[.int .i64 a, .int .i64 b, .int .i64 c, .int .i64 d, .int .i64 f] TW)) := by
  refine (place_any _ kd ad cap ts p wd hA hl).mono ?_
  rintro e w1 ⟨rfl, b1⟩
  have b2 := b1.alloc b1.size (.cells #[.int .i64 a, .int .i64 b, .int .i64 c, .int .i64 d, .int .i64 f] TW)
  exact ⟨_, rfl, hS _ b1, hS _ b2, rfl, w1.heap.size, rfl, heap_alloc_new w1 _, b1.size, by simp, hO.below b2, b2⟩
theorem plw_second {wd : World} {B : Nat} {o : List Wl} {v : Value} {kd p : Int} {φ : Nat → Prop} {ts : List Wl} {ad : Option Addr} {cap : Nat} {a b c d f : Int} {S : World → Prop} (hO : OwnW B o v wd) (hA : WlA φ wd ad ts) (hl : ts.length ≤ 1000) (hS : ∀ W, Below wd.heap.size wd W → S W) :
    Calls Try.prog 44 #[.int .i64 kd, .slice ad ts.length cap, .int .i64 p] (wd.alloc (.cells #[.int .i64 a, .int .i64 b, .int .i64 c, .int .i64 d, .int .i64 f] TW)) fun e w1 => ∃ x, e = .returned x ∧ S w1 ∧ PlW wd B o v (plcW kd ts p : Nat) a b c d f x (.slice (some ⟨wd.heap.size, 0, none⟩) 1 1) w1 := by
  have b0 := (Below.refl wd.heap.size wd).alloc (Nat.le_refl _) (.cells #[.int .i64 a, .int .i64 b, .int .i64 c, .int .i64 d, .int .i64 f] TW)
  refine (place_any _ kd ad cap ts p _ (hA.below b0) hl).mono ?_
  rintro e w1 ⟨rfl, b1⟩
  have hlt : wd.heap.size < (wd.alloc (.cells #[.int .i64 a, .int .i64 b, .int .i64 c, .int .i64 d, .int .i64 f] TW)).heap.size := by simp
  have b2 := b0.trans (b1.mono (Nat.le_of_lt hlt))
  exact ⟨_, rfl, hS _ b2, rfl, wd.heap.size, rfl, (b1.block _ hlt).trans (heap_alloc_new wd _), Nat.le_refl _, Nat.lt_of_lt_of_le hlt b1.size, hO.below b2, b2⟩

set_option maxRecDepth 100000 in
set_option maxHeartbeats 4000000 in
theorem wPush_any (v : Value) (kd : Int) (ts : List Wl) (a b c d f : Int) (w : World) (hK : KwC w v ts) :
    Calls Try.prog 13 #[.int .i64 kd, v, .agg #[.int .i64 a, .int .i64 b, .int .i64 c, .int .i64 d, .int .i64 f]] w (RetW (pshQ kd ts (a, b, c, d, f)) (pshE kd ts (a, b, c, d, f)) w) := by
  obtain ⟨ad, cap, rfl, hc1, hc2, hA⟩ := hK
  obtain ⟨w1, hw1⟩ : ∃ W, w.alloc (.cells #[.int .i64 a, .int .i64 b, .int .i64 c, .int .i64 d, .int .i64 f] TW) = W := ⟨_, rfl⟩
  have hb1 : Below w.heap.size w w1 := by rw [← hw1]; exact (Below.refl _ w).alloc (Nat.le_refl _) _
  have hx1 : At5 w1 w.heap.size 0 (a, b, c, d, f) := by rw [← hw1]; exact box5 w a b c d f
  have hA1 := hA.below hb1
  have hCK := wCheck_any _ ad cap kd ts w1 hA1 (by omega)
  have HA1 := Lib.hid hA1
  have HX1 := Lib.hid hx1
  have HB1 := Lib.hid hb1
  have HW1 := Lib.hid hw1
  clear hA hA1 hx1 hb1 hw1
  by_cases hc : wchE kd ts = 0
  · have hl96 := (wchE_iff.1 hc).2.1
    rw [hc] at hCK
    have HCK := Lib.hid hCK
    clear hCK
    have hT := fun W => isValid_any a b c d f W
    cases ho : okW (a, b, c, d, f) with
    | false =>
      have he : pshE kd ts (a, b, c, d, f) = 2 := by unfold pshE; rw [if_neg (by simp [hc]), if_pos ho]
      have hr : pshQ kd ts (a, b, c, d, f) = [] := by unfold pshQ; rw [if_neg (by rw [he]; decide)]
      rw [he, hr]
      simp only [ho] at hT
      have HT := Lib.hid hT
      clear hc he hr ho hT
      go_enter Try.func13, Try.ntmps13
      go_wp2_with fail
      rw [HW1.out]
      refine HCK.out.mono ?_
      rintro e w2 ⟨rfl, b2⟩
      have HB2 := Lib.hid (HB1.out.trans (b2.mono HB1.out.size))
      obtain ⟨p0, p1, p2, p3, p4⟩ := HX1.out.below b2
      simp only [Nat.zero_add] at p0 p1 p2 p3 p4
      clear b2
      go_wp2_with fail
      refine (HT.out _).mono ?_
      rintro e w3 ⟨rfl, b3⟩
      have HB3 := Lib.hid (HB2.out.trans (b3.mono HB2.out.size))
      clear b3 p0 p1 p2 p3 p4
      go_wp2
      go_ret2
      exact ⟨_, rfl, FwC.nil _ _ _ _ (by omega), HB3.out⟩
    | true =>
      simp only [ho] at hT
      have HT := Lib.hid hT
      by_cases h96 : ts.length = 96
      · have he : pshE kd ts (a, b, c, d, f) = 4 := by unfold pshE; rw [if_neg (by simp [hc]), if_neg (by simp [ho]), if_pos h96]
        have hr : pshQ kd ts (a, b, c, d, f) = [] := by unfold pshQ; rw [if_neg (by rw [he]; decide)]
        rw [he, hr]
        have b96 : ((ts.length : Int) == 96) = true := by rw [h96]; rfl
        clear hc he hr ho hT h96
        go_enter Try.func13, Try.ntmps13
        go_wp2_with fail
        rw [HW1.out]
        refine HCK.out.mono ?_
        rintro e w2 ⟨rfl, b2⟩
        have HB2 := Lib.hid (HB1.out.trans (b2.mono HB1.out.size))
        obtain ⟨p0, p1, p2, p3, p4⟩ := HX1.out.below b2
        simp only [Nat.zero_add] at p0 p1 p2 p3 p4
        clear b2
        go_wp2_with fail
        refine (HT.out _).mono ?_
        rintro e w3 ⟨rfl, b3⟩
        have HB3 := Lib.hid (HB2.out.trans (b3.mono HB2.out.size))
        clear b3 p0 p1 p2 p3 p4
        go_wp2
        go_ret2
        exact ⟨_, rfl, FwC.nil _ _ _ _ (by omega), HB3.out⟩
      · have he : pshE kd ts (a, b, c, d, f) = 0 := by unfold pshE; rw [if_neg (by simp [hc]), if_neg (by simp [ho]), if_neg h96]
        have hr : pshQ kd ts (a, b, c, d, f) = insW ts (plcW kd ts d) (a, b, c, d, f) := by unfold pshQ; rw [if_pos he]
        rw [he, hr]
        have b96 : ((ts.length : Int) == 96) = false := by rw [beq_eq_false_iff_ne]; omega
        clear hc he hr ho hT
        go_enter Try.func13, Try.ntmps13
        go_wp2_with fail
        rw [HW1.out]
        refine HCK.out.mono ?_
        rintro e w2 ⟨rfl, b2⟩
        have HX2 := Lib.hid (HX1.out.below b2)
        have HB2 := Lib.hid (HB1.out.trans (b2.mono HB1.out.size))
        have HA2 := Lib.hid (HA1.out.below b2)
        obtain ⟨p0, p1, p2, p3, p4⟩ := HX2.out
        simp only [Nat.zero_add] at p0 p1 p2 p3 p4
        clear b2
        go_wp2_with fail
        refine (HT.out _).mono ?_
        rintro e w3 ⟨rfl, b3⟩
        have HX3 := Lib.hid (HX2.out.below b3)
        have HB3 := Lib.hid (HB2.out.trans (b3.mono HB2.out.size))
        have HA3 := Lib.hid (HA2.out.below b3)
        clear b3 p0 p1 p2 p3 p4
        go_wp2_with fail
        obtain ⟨wd, hwd⟩ : ∃ W, w3.drew = W := ⟨_, rfl⟩
        refine wp_region_held (S := fun W => At5 W w.heap.size 0 (a, b, c, d, f)) (by kernel_rfl) ?_
        change wpAnyH _ _ _ _ _ _ _ _ w3.drew
        have HXd : Hid (At5 wd w.heap.size 0 (a, b, c, d, f)) := by rw [← hwd]; exact HX3
        have HBd : Hid (Below w.heap.size w wd) := by rw [← hwd]; exact Lib.hid HB3.out.drew
        have HAd : Hid (WlA (fun _ => True) wd ad ts) := by rw [← hwd]; exact HA3
        rw [hwd]
        have HGT : Hid (w.heap.size < wd.heap.size) := Lib.hid HXd.out.lt
        clear hwd HX3 HB3 HA3 HX2 HB2 HA2 HX1 HB1 HA1 HCK HT HW1
        refine wpAnyH_read (i := 0) (v := .slice ad ts.length cap) rfl (by kernel_rfl) (by kernel_rfl) (by kernel_rfl) (fun _ _ _ h => h) (by rfl) (fun _ _ => rfl) HXd.out ?_
        simp only [Act.put, List.setIfInBounds_toArray, List.set_cons_zero, List.set_cons_succ]
        refine wpAnyH_read (i := 2) (v := .int .i64 kd) rfl (by kernel_rfl) (by kernel_rfl) (by kernel_rfl) (fun _ _ _ h => h) (by rfl) (fun _ _ => rfl) HXd.out ?_
        simp only [Act.put, List.setIfInBounds_toArray, List.set_cons_zero, List.set_cons_succ]
        refine wpAnyH_read (i := 3) (v := .slice ad ts.length cap) rfl (by kernel_rfl) (by kernel_rfl) (by kernel_rfl) (fun _ _ _ h => h) (by rfl) (fun _ _ => rfl) HXd.out ?_
        simp only [Act.put, List.setIfInBounds_toArray, List.set_cons_zero, List.set_cons_succ]
        refine wpAnyH_read (i := 4) (v := .pointer (some ⟨w.heap.size, 3, none⟩)) rfl (by kernel_rfl) (by kernel_rfl) (by kernel_rfl) (fun _ _ _ h => h) (by rfl) ?_ HXd.out ?_
        · rintro w' -
          go_simp
        simp only [Act.put, List.setIfInBounds_toArray, List.set_cons_zero, List.set_cons_succ]
        refine wpAnyH_read (i := 5) (v := .int .i64 d) rfl (by kernel_rfl) (by kernel_rfl) (by kernel_rfl) (fun _ _ _ h => h) (by rfl) ?_ HXd.out ?_
        · rintro w' ⟨h0, h1, h2, h3, h4⟩
          simp only [Nat.zero_add] at h0 h1 h2 h3 h4
          go_simp
        simp only [Act.put, List.setIfInBounds_toArray, List.set_cons_zero, List.set_cons_succ]
        refine wpAnyH_read (i := 7) (v := .agg #[.int .i64 a, .int .i64 b, .int .i64 c, .int .i64 d, .int .i64 f]) rfl (by kernel_rfl) (by kernel_rfl) (by kernel_rfl) (fun _ _ _ h => h) (by rfl) ?_ HXd.out ?_
        · rintro w' ⟨h0, h1, h2, h3, h4⟩
          simp only [Nat.zero_add] at h0 h1 h2 h3 h4
          go_simp
        simp only [Act.put, List.setIfInBounds_toArray, List.set_cons_zero, List.set_cons_succ]
        have HCL := Lib.hid (wClone_any _ ad cap ts wd (by omega) HAd.out)
        refine wpAnyH_all (show Region.ready _ _ _ = [1, 8] by kernel_rfl) (by simp) (fun k hk => ?_)
        rcases List.mem_cons.1 hk with rfl | hk
        · clear hk
          refine wpOp_of_list rfl ?_
          go_wp2_with fail
          refine HCL.out.mono ?_
          rintro e w5 ⟨v5, rfl, ho5, b5⟩
          have HX5 := Lib.hid (HXd.out.below b5)
          have HO5 : Hid (OwnW (w.heap.size + 1) ts v5 w5) := Lib.hid (ho5.lower HGT.out)
          have HA5 := Lib.hid (HAd.out.below b5)
          have HB5 := Lib.hid (HBd.out.trans (b5.mono HBd.out.size))
          have HK5 : Hid (∀ W, Below w5.heap.size w5 W → At5 W w.heap.size 0 (a, b, c, d, f)) := Lib.hid (fun W hW => HX5.out.below hW)
          obtain ⟨a5, cap5, rfl, _, _, _⟩ := ho5.fresh
          clear b5 ho5
          go_wp2_with fail
          refine ⟨HX5.out, ?_⟩
          refine wpAnyH_two (i := 6) (j := 8) (f := 44) (args := #[.int .i64 kd, .slice ad ts.length cap, .int .i64 d]) (ob := .cells #[.int .i64 a, .int .i64 b, .int .i64 c, .int .i64 d, .int .i64 f] TW) (m := 1) (R := PlW w5 (w.heap.size + 1) ts (.slice a5 ts.length cap5) (plcW kd ts d : Nat) a b c d f) rfl rfl (by kernel_rfl) (by kernel_rfl) (by kernel_rfl) (by rfl) (fun _ => by rfl) (by rfl) (fun _ => by rfl) ?ei ?ei' ?ej ?ej' (fun _ _ => rfl) (HK5.out _ ((Below.refl _ w5).alloc (Nat.le_refl _) _)) (plw_first HO5.out HA5.out (by omega) HK5.out) (plw_second HO5.out HA5.out (by omega) HK5.out) ?_
          case ei => intro w'; go_simp
          case ei' =>
            intro y w'
            simp only [Act.put, List.setIfInBounds_toArray, List.set_cons_zero, List.set_cons_succ]
            go_simp
          case ej => go_simp
          case ej' =>
            intro y w' hw'
            simp only [Act.put, List.setIfInBounds_toArray, List.set_cons_zero, List.set_cons_succ]
            go_simp
          simp only [Act.put, List.setIfInBounds_toArray, List.set_cons_zero, List.set_cons_succ]
          rintro x y w6 hs6 ⟨rfl, G, rfl, hG, hGl, hGs, ho6, b6⟩
          have HB6 : Hid (Below w.heap.size w w6) := Lib.hid (HB5.out.trans (b6.mono HB5.out.size))
          have HNE : Hid ((Value.slice a5 ts.length cap5).ownBlock ≠ some G) := Lib.hid (fun e => by
            have := (HO5.out.lt G e).2
            omega)
          have HOL : Hid (∀ b, (Value.slice a5 ts.length cap5).ownBlock = some b → w.heap.size < b) := Lib.hid (fun b hb => (HO5.out.lt b hb).1)
          have HIN := Lib.hid (wInsert_any (w.heap.size + 1) _ ts (plcW kd ts d) a b c d f G w6 (by omega) (plcW_le _ _ _) hs6.lt ho6 HNE.out hG)
          have HS6 := Lib.hid hs6
          clear hs6 hG hGl hGs ho6 b6
          refine wpAnyH_next (i := 9) rfl (by kernel_rfl) ?_
          go_wp2_with fail
          refine HIN.out.mono ?_
          rintro e w7 ⟨v7, rfl, ho7, g7⟩
          have HF7 : Hid (FwC w.heap.size w7 v7 (insW ts (plcW kd ts d) (a, b, c, d, f))) := Lib.hid (ho7.fresh.mono (by omega))
          have HB7 := Lib.hid (HB6.out.grown g7 HB6.out.size (fun b hb => Nat.le_of_lt (HOL.out b hb)))
          have HS7 : Hid (At5 w7 w.heap.size 0 (a, b, c, d, f)) := Lib.hid (HS6.out.keep (g7.block _ HS6.out.lt (fun e => by have := HOL.out _ e.symm; omega)))
          clear ho7 g7
          go_wp2_with fail
          refine ⟨HS7.out, ?_⟩
          refine wpAnyH_next (i := 10) rfl (by kernel_rfl) ?_
          go_wp2_with fail
          refine ⟨HS7.out, ?_⟩
          refine wpAnyH_next (i := 11) rfl (by kernel_rfl) ?_
          go_wp2_with fail
          refine ⟨HS7.out, ?_⟩
          refine wpAnyH_done (by kernel_rfl) ?_ _
          go_wp2
          go_ret2
          exact ⟨_, rfl, HF7.out, HB7.out⟩
        · obtain rfl : k = 8 := by simpa using hk
          clear hk
          refine wpOp_of_list rfl ?_
          go_wp2_with fail
          obtain ⟨w5, hw5⟩ : ∃ W, wd.alloc (.cells #[.int .i64 a, .int .i64 b, .int .i64 c, .int .i64 d, .int .i64 f] TW) = W := ⟨_, rfl⟩
          have hb5 : Below wd.heap.size wd w5 := by rw [← hw5]; exact (Below.refl _ wd).alloc (Nat.le_refl _) _
          have hn5 : w5.heap[wd.heap.size]? = some (.cells #[.int .i64 a, .int .i64 b, .int .i64 c, .int .i64 d, .int .i64 f] TW (0, 0)) := by rw [← hw5]; exact heap_alloc_new wd _
          have hs5 : w5.heap.size = wd.heap.size + 1 := by rw [← hw5]; simp
          rw [hw5]
          have HX5 := Lib.hid (HXd.out.below hb5)
          have HA5 := Lib.hid (HAd.out.below hb5)
          have HB5 := Lib.hid (HBd.out.trans (hb5.mono HBd.out.size))
          have HN5 := Lib.hid hn5
          have HS5 := Lib.hid hs5
          clear hw5 hb5 hn5 hs5
          refine ⟨HX5.out, ?_⟩
          refine wpAnyH_next (i := 1) rfl (by kernel_rfl) ?_
          have HCL5 := Lib.hid (wClone_any _ ad cap ts w5 (by omega) HA5.out)
          go_wp2_with fail
          refine HCL5.out.mono ?_
          rintro e w6 ⟨v6, rfl, ho6, b6⟩
          have HX6 := Lib.hid (HX5.out.below b6)
          have HA6 := Lib.hid (HA5.out.below b6)
          have HB6 := Lib.hid (HB5.out.trans (b6.mono HB5.out.size))
          have HN6 := Lib.hid ((b6.block wd.heap.size (by have := HS5.out; omega)).trans HN5.out)
          have HO6 := Lib.hid ho6
          have HZ6 := Lib.hid b6.size
          obtain ⟨a5, cap5, rfl, _, _, _⟩ := ho6.fresh
          clear b6 ho6
          go_wp2_with fail
          refine ⟨HX6.out, ?_⟩
          refine wpAnyH_next (i := 6) rfl (by kernel_rfl) ?_
          have HPL := Lib.hid (place_any _ kd ad cap ts d w6 HA6.out (by omega))
          go_wp2_with fail
          refine HPL.out.mono ?_
          rintro e w8 ⟨rfl, b8⟩
          have HS6 := Lib.hid (HX6.out.below b8)
          have HB6 := Lib.hid (HB6.out.trans (b8.mono HB6.out.size))
          have HN8 := Lib.hid ((b8.block wd.heap.size (by have := HS5.out; have := HZ6.out; omega)).trans HN6.out)
          have HO8 := Lib.hid (HO6.out.below b8)
          have HNE : Hid ((Value.slice a5 ts.length cap5).ownBlock ≠ some wd.heap.size) := Lib.hid (fun e => by
            have := (HO6.out.lt _ e).1
            have := HS5.out
            omega)
          have HOL : Hid (∀ b, (Value.slice a5 ts.length cap5).ownBlock = some b → w.heap.size < b) := Lib.hid (fun b hb => by
            have := (HO6.out.lt _ hb).1
            have := HS5.out
            have := HGT.out
            omega)
          have HIN := Lib.hid (wInsert_any (w.heap.size + 1) _ ts (plcW kd ts d) a b c d f wd.heap.size w8 (by omega) (plcW_le _ _ _) HS6.out.lt (HO8.out.lower (by have := HS5.out; have := HGT.out; omega)) HNE.out HN8.out)
          clear b8
          go_wp2_with fail
          refine ⟨HS6.out, ?_⟩
          refine wpAnyH_next (i := 9) rfl (by kernel_rfl) ?_
          go_wp2_with fail
          refine HIN.out.mono ?_
          rintro e w7 ⟨v7, rfl, ho7, g7⟩
          have HF7 : Hid (FwC w.heap.size w7 v7 (insW ts (plcW kd ts d) (a, b, c, d, f))) := Lib.hid (ho7.fresh.mono (by omega))
          have HB7 := Lib.hid (HB6.out.grown g7 HB6.out.size (fun b hb => Nat.le_of_lt (HOL.out b hb)))
          have HS7 : Hid (At5 w7 w.heap.size 0 (a, b, c, d, f)) := Lib.hid (HS6.out.keep (g7.block _ HS6.out.lt (fun e => by have := HOL.out _ e.symm; omega)))
          clear ho7 g7
          go_wp2_with fail
          refine ⟨HS7.out, ?_⟩
          refine wpAnyH_next (i := 10) rfl (by kernel_rfl) ?_
          go_wp2_with fail
          refine ⟨HS7.out, ?_⟩
          refine wpAnyH_next (i := 11) rfl (by kernel_rfl) ?_
          go_wp2_with fail
          refine ⟨HS7.out, ?_⟩
          refine wpAnyH_done (by kernel_rfl) ?_ _
          go_wp2
          go_ret2
          exact ⟨_, rfl, HF7.out, HB7.out⟩
  · have he : pshE kd ts (a, b, c, d, f) = wchE kd ts := by unfold pshE; rw [if_pos hc]
    have hr : pshQ kd ts (a, b, c, d, f) = [] := by unfold pshQ; rw [if_neg (by rw [he]; exact hc)]
    rw [he, hr]
    obtain ⟨x, hx⟩ : ∃ x, wchE kd ts = x := ⟨_, rfl⟩
    rw [hx] at hc hCK ⊢
    have hxb : (x != 0) = true := by simpa using hc
    have HCK := Lib.hid hCK
    clear hc he hr hCK hx
    go_enter Try.func13, Try.ntmps13
    go_wp2_with fail
    rw [HW1.out]
    refine HCK.out.mono ?_
    rintro e w2 ⟨rfl, b2⟩
    have HB2 := Lib.hid (HB1.out.trans (b2.mono HB1.out.size))
    clear b2
    go_wp2
    go_ret2
    exact ⟨_, rfl, FwC.nil _ _ _ _ (by omega), HB2.out⟩

end Go.Proofs.Ytonjempbphnimaa
