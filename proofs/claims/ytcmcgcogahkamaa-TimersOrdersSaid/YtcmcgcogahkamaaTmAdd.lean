/-
  What the program's Add of timers returns.
-/
import Derived.Test.YtcmcgcogahkamaaTmChk
namespace Go.Proofs.Ytcmcgcogahkamaa
open Go.RowKit Go.Shelf

/-- Behind the two that may come in either order: the place, and the slice of the added timer. -/
def PlR (wd : World) (B : Nat) (o : List Tm) (v : Value) (p a b c : Int) (x y : Value) (w' : World) : Prop :=
  x = .int .i64 p ∧ ∃ G, y = .slice (some ⟨G, 0, none⟩) 1 1 ∧ w'.heap[G]? = some (.cells #[.int .i64 a, .int .i64 b, .int .i64 c] TT (0, 0)) ∧ wd.heap.size ≤ G ∧ G < w'.heap.size ∧ OwnT B o v w' ∧ Below wd.heap.size wd w'
theorem OwnT.below {B : Nat} {o : List Tm} {v : Value} {w w' : World} (h : OwnT B o v w) (hb : Below w.heap.size w w') : OwnT B o v w' := World.ownsRow.kept (show w.ownsRow B TT 3 v o.length (tmV o) from h) (grown_of hb none) (by cases v.ownBlock <;> simp)
theorem pl_first {wd : World} {B : Nat} {o : List Tm} {ad : Option Addr} {cap : Nat} {a b c : Int} {S : World → Prop} (hO : OwnT B o (.slice ad o.length cap) wd) (hl : o.length ≤ 1000) (hs : o.Pairwise LesP) (hk : ∀ s ∈ o, KeyNe s (a, b, c)) (hS : ∀ W, Below wd.heap.size wd W → S W) :
    Calls Try.prog 41 #[.agg #[.slice ad o.length cap, .int .i64 a, .int .i64 b, .int .i64 c]] wd fun e w1 => ∃ x, e = .returned x ∧ S w1 ∧ S (w1.alloc (.cells #[.int .i64 a, .int .i64 b, .int .i64 c] TT)) ∧ PlR wd B o (.slice ad o.length cap) (plc o (a, b, c) : Int) a b c x (.slice (some ⟨w1.heap.size, 0, none⟩) 1 1) (w1.alloc (.cells #[.int .i64 a, .int .i64 b, .int .i64 c] TT)) := by
  obtain ⟨ad', cap', e, _, _, hA⟩ := hO.fresh
  injection e with e1 e2 e3
  subst e1
  refine (tPlace_any _ ad cap o a b c wd hA hl hs hk).mono ?_
  rintro e w1 ⟨rfl, b1⟩
  have b2 := b1.alloc b1.size (.cells #[.int .i64 a, .int .i64 b, .int .i64 c] TT)
  exact ⟨_, rfl, hS _ b1, hS _ b2, rfl, w1.heap.size, rfl, World.alloc_heap_new w1 _, b1.size, by simp, hO.below b2, b2⟩
theorem pl_second {wd : World} {B : Nat} {o : List Tm} {ad : Option Addr} {cap : Nat} {a b c : Int} {S : World → Prop} (hO : OwnT B o (.slice ad o.length cap) wd) (hl : o.length ≤ 1000) (hs : o.Pairwise LesP) (hk : ∀ s ∈ o, KeyNe s (a, b, c)) (hS : ∀ W, Below wd.heap.size wd W → S W) :
    Calls Try.prog 41 #[.agg #[.slice ad o.length cap, .int .i64 a, .int .i64 b, .int .i64 c]] (wd.alloc (.cells #[.int .i64 a, .int .i64 b, .int .i64 c] TT)) fun e w1 => ∃ x, e = .returned x ∧ S w1 ∧ PlR wd B o (.slice ad o.length cap) (plc o (a, b, c) : Int) a b c x (.slice (some ⟨wd.heap.size, 0, none⟩) 1 1) w1 := by
  have b0 := (Below.refl wd.heap.size wd).alloc (Nat.le_refl _) (.cells #[.int .i64 a, .int .i64 b, .int .i64 c] TT)
  obtain ⟨ad', cap', e, _, _, hA⟩ := (hO.below b0).fresh
  injection e with e1 e2 e3
  subst e1
  refine (tPlace_any _ ad cap o a b c _ hA hl hs hk).mono ?_
  rintro e w1 ⟨rfl, b1⟩
  have hlt : wd.heap.size < (wd.alloc (.cells #[.int .i64 a, .int .i64 b, .int .i64 c] TT)).heap.size := by simp
  have b2 := b0.trans (b1.mono (Nat.le_of_lt hlt))
  exact ⟨_, rfl, hS _ b2, rfl, wd.heap.size, rfl, (b1.block _ hlt).trans (World.alloc_heap_new wd _), Nat.le_refl _, Nat.lt_of_lt_of_le hlt b1.size, hO.below b2, b2⟩

/-- A call that returns timers in a block of its own and an error. -/
def RetT (zs : List Tm) (x : Int) (w : World) (e : Ending) (w' : World) : Prop := ∃ v, e = .returned (.tuple #[v, .int .i64 x]) ∧ FtC w.heap.size w' v zs ∧ Below w.heap.size w w'

set_option maxRecDepth 100000 in
set_option maxHeartbeats 4000000 in
/-- Add. -/
theorem tAdd_any (v : Value) (ts : List Tm) (a b c : Int) (w : World) (hK : KtC w v ts) (hl : ts.length ≤ 900) :
    Calls Try.prog 13 #[v, tmA (a, b, c)] w (RetT (addQ ts (a, b, c)) (addE ts (a, b, c)) w) := by
  obtain ⟨ad, cap, rfl, hc1, hc2, hA⟩ := hK
  obtain ⟨w1, hw1⟩ : ∃ W, w.alloc (.cells #[.int .i64 a, .int .i64 b, .int .i64 c] TT) = W := ⟨_, rfl⟩
  have hb1 : Below w.heap.size w w1 := by rw [← hw1]; exact (Below.refl _ w).alloc (Nat.le_refl _) _
  have hx1 : w1.cell? ⟨w.heap.size, 0, none⟩ = some (.int .i64 a) ∧ w1.cell? ⟨w.heap.size, 1, none⟩ = some (.int .i64 b) ∧ w1.cell? ⟨w.heap.size, 2, none⟩ = some (.int .i64 c) := by rw [← hw1]; exact box3 w a b c
  have hA1 := hA.below hb1
  have hCK := tCheck_any _ ad cap ts w1 hA1 (by omega) hc1
  have HA1 := Lib.hid hA1
  have HX1 := Lib.hid hx1
  have HB1 := Lib.hid hb1
  have HW1 := Lib.hid hw1
  unfold tmA encT
  dsimp only
  clear hA hA1 hx1 hb1 hw1
  by_cases hc : chkE ts = 0
  · rw [hc] at hCK
    have HCK := Lib.hid hCK
    clear hCK
    have hT := fun W => tCheckTimer_any a b c W
    unfold tmA encT at hT
    dsimp only at hT
    by_cases ho : oneE (a, b, c) = 0
    · have hq := chkE_iff.1 hc
      have he : addE ts (a, b, c) = 0 := by unfold addE; rw [if_neg (by simp [hc]), ho]
      have hr : addQ ts (a, b, c) = insL (woL ts b c) (a, b, c) := by unfold addQ; rw [if_pos he]
      rw [he, hr]
      simp only [ho] at hT
      have HT := Lib.hid hT
      have HWQ := Lib.hid (woL_queue (k := b) (i := c) hq).2.1
      have HWN : Hid (∀ s ∈ woL ts b c, KeyNe s (a, b, c)) := Lib.hid (woL_ne (t := (a, b, c)))
      have HLEN := Lib.hid (woL_length ts b c)
      clear hc hq he hr ho hT
      go_enter Try.func13, Try.ntmps13
      go_wp2_with fail
      rw [HW1.out]
      refine HCK.out.mono ?_
      rintro e w2 ⟨rfl, b2⟩
      have HX2 := Lib.hid (keep3 HX1.out b2)
      have HB2 := Lib.hid (HB1.out.trans (b2.mono HB1.out.size))
      have HA2 := Lib.hid (HA1.out.below b2)
      obtain ⟨p0, p1, p2⟩ := HX2.out
      clear b2
      go_wp2_with fail
      refine (HT.out _).mono ?_
      rintro e w3 ⟨rfl, b3⟩
      have HX3 := Lib.hid (keep3 HX2.out b3)
      have HB3 := Lib.hid (HB2.out.trans (b3.mono HB2.out.size))
      have HA3 := Lib.hid (HA2.out.below b3)
      clear b3 p0 p1 p2
      obtain ⟨p0, p1, p2⟩ := HX3.out
      have hKy := tKeyOf_any a b c w3
      unfold tmA encT at hKy
      dsimp only at hKy
      have HKY := Lib.hid hKy
      clear hKy
      go_wp2_with fail
      refine HKY.out.mono ?_
      rintro e w4 ⟨rfl, b4⟩
      have HX4 := Lib.hid (keep3 HX3.out b4)
      have HB4 := Lib.hid (HB3.out.trans (b4.mono HB3.out.size))
      have HA4 := Lib.hid (HA3.out.below b4)
      clear b4 p0 p1 p2
      have HWO := Lib.hid (tWithout_any _ ad cap ts b c w4 HA4.out (by omega))
      go_wp2_with fail
      refine HWO.out.mono ?_
      rintro e w5 ⟨v5, rfl, ho5, b5⟩
      have HX5 := Lib.hid (keep3 HX4.out b5)
      have HB5 := Lib.hid (HB4.out.trans (b5.mono HB4.out.size))
      obtain ⟨ad5, cap5, rfl, hcc1, hcc2, _⟩ := ho5.fresh
      have HO5 : Hid (OwnT (w.heap.size + 1) (woL ts b c) (.slice ad5 (woL ts b c).length cap5) w5) := Lib.hid (ownZ_base (World.block_lt_of_cell? _ _ HX4.out.1) ho5)
      clear b5 ho5
      obtain ⟨p0, p1, p2⟩ := HX5.out
      go_wp2_with fail
      obtain ⟨o, hoo⟩ : ∃ o, woL ts b c = o := ⟨_, rfl⟩
      rw [hoo] at HWQ HWN HLEN HO5 hcc1 ⊢
      have hol : o.length ≤ 900 := by have := HLEN.out; omega
      have HWL := Lib.hid hoo
      clear hoo
      have HK5 : Hid (∀ W, Below w5.drew.heap.size w5.drew W → W.cell? ⟨w.heap.size, 0, none⟩ = some (.int .i64 a) ∧ W.cell? ⟨w.heap.size, 1, none⟩ = some (.int .i64 b) ∧ W.cell? ⟨w.heap.size, 2, none⟩ = some (.int .i64 c)) := Lib.hid (fun W hW => keep3 (w := w5.drew) HX5.out hW)
      have HO5d : Hid (OwnT (w.heap.size + 1) o (.slice ad5 o.length cap5) w5.drew) := Lib.hid (HO5.out.below ⟨rfl, rfl, rfl, Nat.le_refl _, fun _ _ => rfl⟩)
      refine wp_region_held (S := fun W => W.cell? ⟨w.heap.size, 0, none⟩ = some (.int .i64 a) ∧ W.cell? ⟨w.heap.size, 1, none⟩ = some (.int .i64 b) ∧ W.cell? ⟨w.heap.size, 2, none⟩ = some (.int .i64 c)) (by kernel_rfl) ?_
      change wpAnyH _ _ _ _ _ _ _ _ w5.drew
      have HS5 : Hid (w5.drew.cell? ⟨w.heap.size, 0, none⟩ = some (.int .i64 a) ∧ w5.drew.cell? ⟨w.heap.size, 1, none⟩ = some (.int .i64 b) ∧ w5.drew.cell? ⟨w.heap.size, 2, none⟩ = some (.int .i64 c)) := HX5
      refine wpAnyH_read (i := 0) (v := .slice ad5 o.length cap5) rfl (by kernel_rfl) (by kernel_rfl) (by kernel_rfl) (fun _ _ _ h => h) (by rfl) (fun _ _ => rfl) HS5.out ?_
      simp only [Act.put, List.setIfInBounds_toArray, List.set_cons_zero, List.set_cons_succ]
      refine wpAnyH_read (i := 1) (v := .slice ad5 o.length cap5) rfl (by kernel_rfl) (by kernel_rfl) (by kernel_rfl) (fun _ _ _ h => h) (by rfl) (fun _ _ => rfl) HS5.out ?_
      simp only [Act.put, List.setIfInBounds_toArray, List.set_cons_zero, List.set_cons_succ]
      refine wpAnyH_read (i := 2) (v := .agg #[.int .i64 a, .int .i64 b, .int .i64 c]) rfl (by kernel_rfl) (by kernel_rfl) (by kernel_rfl) (fun _ _ _ h => h) (by rfl) ?_ HS5.out ?_
      · rintro w' ⟨h1, h2, h3⟩
        go_simp
      simp only [Act.put, List.setIfInBounds_toArray, List.set_cons_zero, List.set_cons_succ]
      refine wpAnyH_read (i := 3) (v := .agg #[.slice ad5 o.length cap5, .int .i64 a, .int .i64 b, .int .i64 c]) rfl (by kernel_rfl) (by kernel_rfl) (by kernel_rfl) (fun _ _ _ h => h) (by rfl) ?_ HS5.out ?_
      · rintro w' -
        go_simp
      simp only [Act.put, List.setIfInBounds_toArray, List.set_cons_zero, List.set_cons_succ]
      refine wpAnyH_read (i := 5) (v := .agg #[.int .i64 a, .int .i64 b, .int .i64 c]) rfl (by kernel_rfl) (by kernel_rfl) (by kernel_rfl) (fun _ _ _ h => h) (by rfl) ?_ HS5.out ?_
      · rintro w' ⟨h1, h2, h3⟩
        go_simp
      simp only [Act.put, List.setIfInBounds_toArray, List.set_cons_zero, List.set_cons_succ]
      refine wpAnyH_two (i := 4) (j := 6) (f := 41) (args := #[.agg #[.slice ad5 o.length cap5, .int .i64 a, .int .i64 b, .int .i64 c]]) (ob := .cells #[.int .i64 a, .int .i64 b, .int .i64 c] TT) (m := 1) (R := PlR w5.drew (w.heap.size + 1) o (.slice ad5 o.length cap5) (plc o (a, b, c) : Int) a b c) rfl rfl (by kernel_rfl) (by kernel_rfl) (by kernel_rfl) (by rfl) (fun _ => by rfl) (by rfl) (fun _ => by rfl) ?ei ?ei' ?ej ?ej' (fun _ _ => rfl) (HK5.out _ ((Below.refl _ w5.drew).alloc (Nat.le_refl _) _)) (pl_first HO5d.out (by omega) HWQ.out HWN.out HK5.out) (pl_second HO5d.out (by omega) HWQ.out HWN.out HK5.out) ?_
      case ei => intro w'; go_simp
      case ei' =>
        intro y w'
        simp only [Act.put, List.setIfInBounds_toArray, List.set_cons_zero, List.set_cons_succ]
        go_simp
      case ej => go_simp
      case ej' =>
        intro y w' hw'
        simp only [Act.put, List.setIfInBounds_toArray, List.set_cons_zero, List.set_cons_succ]
        go_simp
      simp only [Act.put, List.setIfInBounds_toArray, List.set_cons_zero, List.set_cons_succ]
      rintro x y w6 hs6 ⟨rfl, G, rfl, hG, hGl, hGs, ho6, b6⟩
      have HB6 : Hid (Below w.heap.size w w6) := Lib.hid (HB5.out.drew.trans (b6.mono HB5.out.size))
      have HNE : Hid ((Value.slice ad5 o.length cap5).ownBlock ≠ some G) := Lib.hid (fun e => by
        have := (World.ownsRow.lt HO5d.out G e).2
        omega)
      have HOL : Hid (∀ b, (Value.slice ad5 o.length cap5).ownBlock = some b → w.heap.size < b) := Lib.hid (fun b hb => (World.ownsRow.lt HO5d.out b hb).1)
      have HIN := Lib.hid (tInsert_any (w.heap.size + 1) _ o (plc o (a, b, c)) a b c G w6 (by omega) (plc_le _ _) (World.block_lt_of_cell? _ _ hs6.1) ho6 HNE.out hG)
      have HS6 := Lib.hid hs6
      clear hs6 hG hGl hGs ho6 b6
      refine wpAnyH_next (i := 7) rfl (by kernel_rfl) ?_
      go_wp2_with fail
      refine HIN.out.mono ?_
      rintro e w7 ⟨v7, rfl, ho7, g7⟩
      have HF7 : Hid (FtC w.heap.size w7 v7 (insL o (a, b, c))) := Lib.hid (ho7.fresh.mono (by omega))
      have HB7 := Lib.hid (HB6.out.grown g7 HB6.out.size (fun b hb => Nat.le_of_lt (HOL.out b hb)))
      have HS7 : Hid (w7.cell? ⟨w.heap.size, 0, none⟩ = some (.int .i64 a) ∧ w7.cell? ⟨w.heap.size, 1, none⟩ = some (.int .i64 b) ∧ w7.cell? ⟨w.heap.size, 2, none⟩ = some (.int .i64 c)) := by
        have hblk : w7.heap[w.heap.size]? = w6.heap[w.heap.size]? := g7.block _ (World.block_lt_of_cell? _ _ HS6.out.1) (fun e => by have := HOL.out _ e.symm; omega)
        exact Lib.hid ⟨(World.cell?_of_block hblk).trans HS6.out.1, (World.cell?_of_block hblk).trans HS6.out.2.1, (World.cell?_of_block hblk).trans HS6.out.2.2⟩
      clear ho7 g7
      go_wp2_with fail
      refine ⟨HS7.out, ?_⟩
      refine wpAnyH_next (i := 8) rfl (by kernel_rfl) ?_
      go_wp2_with fail
      refine ⟨HS7.out, ?_⟩
      refine wpAnyH_next (i := 9) rfl (by kernel_rfl) ?_
      go_wp2_with fail
      refine ⟨HS7.out, ?_⟩
      refine wpAnyH_done (by kernel_rfl) ?_ _
      go_wp2
      go_ret2
      exact ⟨_, rfl, by rw [HWL.out]; exact HF7.out, HB7.out⟩
    · have he : addE ts (a, b, c) = oneE (a, b, c) := by unfold addE; rw [if_neg (by simp [hc])]
      have hr : addQ ts (a, b, c) = [] := by unfold addQ; rw [if_neg (by rw [he]; exact ho)]
      rw [he, hr]
      obtain ⟨x, hx⟩ : ∃ x, oneE (a, b, c) = x := ⟨_, rfl⟩
      rw [hx] at ho ⊢
      simp only [hx] at hT
      have hxb : (x != 0) = true := by simpa using ho
      have HT := Lib.hid hT
      clear hc he hr ho hT hx
      go_enter Try.func13, Try.ntmps13
      go_wp2_with fail
      rw [HW1.out]
      refine HCK.out.mono ?_
      rintro e w2 ⟨rfl, b2⟩
      have HX2 := Lib.hid (keep3 HX1.out b2)
      have HB2 := Lib.hid (HB1.out.trans (b2.mono HB1.out.size))
      obtain ⟨p0, p1, p2⟩ := HX2.out
      clear b2
      go_wp2_with fail
      refine (HT.out _).mono ?_
      rintro e w3 ⟨rfl, b3⟩
      have HB3 := Lib.hid (HB2.out.trans (b3.mono HB2.out.size))
      clear b3 p0 p1 p2
      go_wp2
      go_ret2
      exact ⟨_, rfl, FtC.nil _ _ _ _ (by omega), HB3.out⟩
  · have he : addE ts (a, b, c) = 1 := by unfold addE; rw [if_pos hc]
    have hr : addQ ts (a, b, c) = [] := by unfold addQ; rw [if_neg (by rw [he]; decide)]
    rw [he, hr]
    obtain ⟨x, hx⟩ : ∃ x, chkE ts = x := ⟨_, rfl⟩
    rw [hx] at hc hCK
    have hxb : (x != 0) = true := by simpa using hc
    have HCK := Lib.hid hCK
    clear hc he hr hCK hx
    go_enter Try.func13, Try.ntmps13
    go_wp2_with fail
    rw [HW1.out]
    refine HCK.out.mono ?_
    rintro e w2 ⟨rfl, b2⟩
    have HB2 := Lib.hid (HB1.out.trans (b2.mono HB1.out.size))
    clear b2
    go_wp2
    go_ret2
    exact ⟨_, rfl, FtC.nil _ _ _ _ (by omega), HB2.out⟩

end Go.Proofs.Ytcmcgcogahkamaa
