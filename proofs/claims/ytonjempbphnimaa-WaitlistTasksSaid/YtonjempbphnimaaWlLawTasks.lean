/-
  The walk of WaitlistTasks.
-/
import Derived.Deep.RegionHeld3
import Derived.Laws.EntriesVeiled
import Derived.Test.YtonjempbphnimaaWlAwake
import Derived.Test.YtonjempbphnimaaWlAt
import Derived.Test.YtonjempbphnimaaWlOpen
import Derived.Test.YtonjempbphnimaaWlMathT
import Derived.Test.YtonjempbphnimaaWlPred
import Derived.Test.YtonjempbphnimaaWlFind
namespace Go.Proofs.Ytonjempbphnimaa
open Go.RowKit Go.Shelf

/-- What stays as it is while a round of WaitlistTasks compares. -/
abbrev TkS (bk o g : Nat) (x : Int) (v : Value) (ts : List Wl) (w w' : World) : Prop :=
  w'.cell? ⟨bk, o, none⟩ = some (.int .i64 x) ∧ w'.cell? ⟨g, 0, none⟩ = some (.int .i64 x) ∧ KwC w' v ts ∧ Below w.heap.size w w' ∧ w.heap.size ≤ w'.heap.size ∧ bk < w'.heap.size ∧ g < w'.heap.size
theorem tks_keep {bk o g : Nat} {x : Int} {v : Value} {ts : List Wl} {w w' w'' : World} (h : TkS bk o g x v ts w w') (hb : Below w'.heap.size w' w'') : TkS bk o g x v ts w w'' := by
  obtain ⟨h1, h2, h3, h4, h5, h6, h7⟩ := h
  have hs := hb.size
  exact ⟨(hb.cell (p := ⟨bk, _, none⟩) h6).trans h1, (hb.cell (p := ⟨g, _, none⟩) h7).trans h2, h3.below hb, h4.trans (hb.mono h5), by omega, by omega, by omega⟩
theorem tks_drew {bk o g : Nat} {x : Int} {v : Value} {ts : List Wl} {w w' : World} (h : TkS bk o g x v ts w w') : TkS bk o g x v ts w w'.drew := tks_keep h ⟨rfl, rfl, rfl, Nat.le_refl _, fun _ _ => rfl⟩
theorem tks_below {bk o g : Nat} {x : Int} {v : Value} {ts : List Wl} {w w' : World} (h : TkS bk o g x v ts w w') : Below w.heap.size w w' := h.2.2.2.1
theorem kw_take {w : World} {ad : Option Addr} {cap p : Nat} {ts : List Wl} (h : KwC w (.slice ad ts.length cap) ts) (hp : p ≤ ts.length) : KwC w (.slice ad p cap) (ts.take p) := by
  obtain ⟨a, c, e, h1, h2, h3⟩ := h
  cases e
  refine ⟨ad, cap, ?_, ?_, h2, h3.take p⟩
  · rw [List.length_take, Nat.min_eq_left hp]
  · rw [List.length_take]; omega
theorem tks_arm {bk o g : Nat} {x : Int} {ad : Option Addr} {cap p : Nat} {ts : List Wl} {w w' : World} (h : TkS bk o g x (.slice ad ts.length cap) ts w w') (hp : Hid (p ≤ ts.length)) (hl : ts.length ≤ 12) (hn : Hid (((ts.take p).any fun t => t.1 == x) = false)) :
    Calls Try.prog 28 #[.slice ad p cap, .func (.func 38) #[] #[.pointer (some ⟨g, 0, none⟩)]] w' fun e w'' => e = .returned (.bool false) ∧ Below w'.heap.size w' w'' := by
  have := wContains_at (.slice ad p cap) 38 #[] #[.pointer (some ⟨g, 0, none⟩)] (ts.take p) (fun t => t.1 == x) w' (enters_of Try.func38 (by kernel_rfl) rfl) (kw_take h.2.2.1 hp.out) (by rw [List.length_take]; omega) (tsk1_pred g x w' h.2.1)
  rwa [hn.out] at this

set_option maxRecDepth 100000 in
set_option maxHeartbeats 8000000 in
theorem waitlistTasks_walk (v : Value) (ts : List Wl) (w : World) (hK : KwC w v ts) (hf : ∀ t ∈ ts, FitW t) :
    Calls Try.prog 10 #[v] w fun e w' => e = .returned (.bool true) ∧ Below w.heap.size w w' := by
  have HB0 : Hid (Below w.heap.size w w) := Lib.hid (Below.refl _ w)
  have K1 := Lib.hid hK
  have HFT := Lib.hid (fun (t : Wl) (h : t ∈ ts) => (hf t h).1)
  have hG := great_atW v ts w hK
  clear hK hf
  by_cases hg : 12 < ts.length
  · rw [decide_eq_true hg] at hG
    have HG := Lib.hid hG
    clear hG hg
    go_enter Try.func10, Try.ntmps10
    go_wp2_with fail
    refine HG.out.mono ?_
    rintro e wg ⟨rfl, rfl⟩
    have hC1 := awake_any w
    have HC1 := Lib.hid hC1
    clear hC1
    go_wp2_with fail
    refine HC1.out.mono ?_
    rintro e w1 ⟨rfl, b1⟩
    have HB1 := Lib.hid (HB0.out.trans (b1.mono HB0.out.size))
    clear b1
    go_wp2
    go_ret
    exact ⟨rfl, HB1.out⟩
  · rw [decide_eq_false hg] at hG
    have HG := Lib.hid hG
    have hl : ts.length ≤ 12 := by omega
    clear hG hg
    obtain ⟨ps, hps, hpl⟩ := tsk_places ts
    have HR := Lib.hid (fun k hk => tsk_round (k := k) hpl hk)
    have HAL := Lib.hid (tsk_all ts)
    have HPL := Lib.hid hpl
    have hzl : (tskL ts).length ≤ ts.length := tskL_length ts
    obtain ⟨Z, hZ⟩ : ∃ Z, tskL ts = Z := ⟨_, rfl⟩
    rw [hZ] at HR HAL HPL hzl
    have HZ := Lib.hid hZ
    clear hps hpl hZ
    go_enter Try.func10, Try.ntmps10
    go_wp2_with fail
    refine HG.out.mono ?_
    rintro e wg ⟨rfl, rfl⟩
    have hC1 := wTasks_any v ts w K1.out (by omega) HFT.out
    rw [HZ.out] at hC1
    have HC1 := Lib.hid hC1
    clear hC1
    go_wp2_with fail
    refine HC1.out.mono ?_
    rintro e w1 ⟨u1, rfl, k1, b1⟩
    have HB1 := Lib.hid (HB0.out.trans (b1.mono HB0.out.size))
    have Kl_1 := Lib.hid (KwC.below K1.out b1)
    have Is_1 : Hid (KlC w1 u1 (Z)) := Lib.hid (k1)
    clear b1 k1
    obtain ⟨au, cu, rfl, hI, hIl⟩ := Is_1.out
    obtain ⟨W2, hW2⟩ : ∃ W, w1.alloc (.cells #[.slice au Z.length cu] 39) = W := ⟨_, rfl⟩
    have hb2 : Below w1.heap.size w1 W2 := by rw [← hW2]; exact (Below.refl _ _).alloc (Nat.le_refl _) _
    have hc2 : W2.cell? ⟨w1.heap.size, 0, none⟩ = some (.slice au Z.length cu) := by rw [← hW2]; exact boxV w1 _ _
    have HW2 := Lib.hid hW2
    have Y2 := Lib.hid hc2
    have Is_2 := Lib.hid (KlC.below Is_1.out hb2)
    have Kl_2 := Lib.hid (KwC.below Kl_1.out hb2)
    have HB2 := Lib.hid (HB1.out.trans (hb2.mono HB1.out.size))
    have hzi : (Z.length : Int) ≤ 12 := by omega
    obtain ⟨ad, cap, rfl, hcap, hcap2, -⟩ := Kl_2.out
    clear hI hIl hb2 hc2 hW2
    go_wp2_with fail
    rw [HW2.out]
    have y20 := Y2.out
    go_wp2
    clear y20
    go_loopw [3, 16] (fun a x wr => ∃ k : Nat, k ≤ Z.length ∧ x = .int .i64 k ∧ a = .int .i64 (lastP ps k) ∧ Hid (Below W2.heap.size W2 wr)) (fun _ x _ => Z.length - (intOf x).toNat)
    case atStart => exact ⟨0, Nat.zero_le _, rfl, rfl, Lib.hid (Below.refl _ _)⟩
    case round =>
      obtain ⟨k, hk, rfl, rfl, HB⟩ := hrel
      have Klr := Lib.hid (KwC.below Kl_2.out HB.out)
      have Isr := Lib.hid (KlC.below Is_2.out HB.out)
      have Yr := Lib.hid (cell_laterW HB.out Y2.out)
      have HBr := Lib.hid (HB2.out.trans (HB.out.mono HB2.out.size))
      by_cases hkt : k < Z.length
      · have k1 : (k : Int) < (Z.length : Int) := by omega
        have k0 : (0 : Int) ≤ (k : Int) := by omega
        obtain ⟨au', cu', he', hI, -⟩ := Isr.out
        cases he'
        obtain ⟨bz, oz, ez, hbz, cz0⟩ := hI k hkt
        obtain ⟨r1, r2, r3, r4, r5⟩ := HR.out k hkt
        have hq := (HPL.out k hkt).1
        have hq2 := (HPL.out k hkt).2.1
        have HLN := Lib.hid (lastP_next ps k)
        obtain ⟨p, hp⟩ : ∃ p, ps.getD k 0 = p := ⟨_, rfl⟩
        obtain ⟨x, hx⟩ : ∃ x, gz Z k = x := ⟨_, rfl⟩
        obtain ⟨LA, hLA⟩ : ∃ l, lastP ps k = l := ⟨_, rfl⟩
        rw [hp, hx] at r1 r5
        rw [hx] at r2 hq2
        rw [hp] at r3 hq hq2 HLN
        rw [hLA] at r3 r4 ⊢
        have cz : wr.cell? ⟨bz, oz + k, none⟩ = some (.int .i64 x) := by rw [← hx]; exact cz0
        have HN := Lib.hid r5
        have HQ : Hid (p ≤ ts.length) := Lib.hid (by omega)
        obtain ⟨W3, hW3⟩ : ∃ W, wr.alloc (.cells #[.int .i64 x] 3) = W := ⟨_, rfl⟩
        have hb3 : Below wr.heap.size wr W3 := by rw [← hW3]; exact (Below.refl _ _).alloc (Nat.le_refl _) _
        have hc3 : W3.cell? ⟨wr.heap.size, 0, none⟩ = some (.int .i64 x) := by rw [← hW3]; exact boxV wr _ _
        have HW3 := Lib.hid hW3
        have HF := wFind_any _ ts x W3 (KwC.below Klr.out hb3) (by omega)
        rw [r1, r2] at HF
        have HF := Lib.hid HF
        have Y3 := Lib.hid hc3
        have Kl3 := Lib.hid (KwC.below Klr.out hb3)
        have HB3 := Lib.hid (HBr.out.trans (hb3.mono HBr.out.size))
        have HB3' := Lib.hid (HB.out.trans (hb3.mono HB.out.size))
        subst ez
        clear cz0 hx hp hLA hI r1 r2 r5 hb3 hc3 hW3
        go_wp2_with fail
        rw [HW3.out]
        have y30 := Y3.out
        go_wp2_with fail
        refine HF.out.mono ?_
        rintro e w4 ⟨rfl, b4⟩
        have Y4 := Lib.hid (cell_laterW b4 Y3.out)
        have Kl4 := Lib.hid (KwC.below Kl3.out b4)
        have HB4 := Lib.hid (HB3'.out.trans (b4.mono HB3'.out.size))
        clear y30 b4 cz
        obtain ⟨ad', cap', he', -, -, hAr⟩ := Kl4.out
        cases he'
        obtain ⟨bk, off, e0, _, hbk, c0, -⟩ := hAr p hq
        rw [hq2] at c0
        have HS : Hid (TkS bk (off + p * 5) wr.heap.size x (.slice ad ts.length cap) ts W2 w4) := Lib.hid ⟨c0, Y4.out, Kl4.out, HB4.out, HB4.out.size, hbk, World.block_lt_of_cell? _ _ Y4.out⟩
        have i0 : (0 : Int) ≤ (p : Int) := by omega
        have i1 : (p : Int) < (ts.length : Int) := by omega
        have i2 : ¬ (p : Int) ≤ LA := by omega
        have i3 : decide ((p : Int) ≤ LA) = false := decide_eq_false i2
        have i4 : ¬ (ts.length : Int) ≤ (p : Int) := by omega
        have i5 : decide ((ts.length : Int) ≤ (p : Int)) = false := decide_eq_false i4
        have i6 : decide ((p : Int) ≥ (ts.length : Int)) = false := decide_eq_false (by omega)
        have i7 : decide (ts.length ≤ p) = false := decide_eq_false (by omega)
        have i8 : p ≤ cap := by omega
        have i9 : (p : Int) ≤ (cap : Int) := by omega
        subst e0
        clear c0 hAr hq2 hbk
        go_wp2_with fail
        go_region_held3 (fun w' => TkS bk (off + p * 5) wr.heap.size x (.slice (some ⟨bk, off, none⟩) ts.length cap) ts W2 w')
          (first | exact tks_drew HS.out | exact tks_keep (by assumption) (by assumption) | assumption)
          (first | (go_at_call 28; (with_reducible refine (tks_arm (by assumption) HQ hl HN).mono ?_); rintro e w5 ⟨rfl, b5⟩))
        have HB5 : Hid (Below W2.heap.size W2 w5) := Lib.hid (tks_below (by assumption : TkS bk (off + p * 5) wr.heap.size x (.slice (some ⟨bk, off, none⟩) ts.length cap) ts W2 w5))
        go_wp2
        go_roundw
        case rel => exact ⟨k + 1, by omega, by go_num, by rw [HLN.out], HB5⟩
        case measure => simp [intOf]; omega
      · obtain rfl : k = Z.length := by omega
        have HCF := wContains_at _ 39 #[] #[.pointer (some ⟨w1.heap.size, 0, none⟩)] ts (fun t => !hasZ Z t.1) wr (enters_of Try.func39 (by kernel_rfl) rfl) Klr.out (by omega) (tsk2_pred _ _ Z wr Yr.out Isr.out (by omega))
        rw [HAL.out] at HCF
        have HCF := Lib.hid HCF
        go_wp2_with fail
        refine HCF.out.mono ?_
        rintro e w6 ⟨rfl, b6⟩
        have HB6 := Lib.hid (HBr.out.trans (b6.mono HBr.out.size))
        clear b6
        have hC7 := awake_any w6
        have HC7 := Lib.hid hC7
        clear hC7
        go_wp2_with fail
        refine HC7.out.mono ?_
        rintro e w7 ⟨rfl, b7⟩
        have HB7 := Lib.hid (HB6.out.trans (b7.mono HB6.out.size))
        clear b7
        go_wp2
        go_ret
        exact ⟨rfl, HB7.out⟩

end Go.Proofs.Ytonjempbphnimaa
