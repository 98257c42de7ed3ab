/-
  The walk of DequeParts.
-/
import Derived.Test.YtmgadcfiaipimaaDqAwake
import Derived.Test.YtmgadcfiaipimaaDqCat
import Derived.Test.YtmgadcfiaipimaaDqOpen
import Derived.Test.YtmgadcfiaipimaaDqLawMany
namespace Go.Proofs.Ytmgadcfiaipimaa
open Go.RowKit

theorem opS_shift (A X Y : List Int) (o : Int × Int) : opS A (X ++ Y) o = if (opS A Y o).2.2 = 0 then ((opS A Y o).1, X ++ (opS A Y o).2.1, 0) else opS A Y o := by
  unfold opS
  by_cases h1 : o.1 = 1
  · simp only [if_pos h1]
    by_cases hn : dnE A o.2 = 0
    · simp [hn]
    · simp [hn]
  · simp only [if_neg h1]
    by_cases h2 : o.1 = 2
    · simp only [if_pos h2]
      by_cases h0 : A = []
      · simp [h0]
      · simp [h0]
    · simp only [if_neg h2]
      by_cases h3 : o.1 = 3
      · simp only [if_pos h3]
        by_cases h0 : A = []
        · simp [h0]
        · simp [h0]
      · simp [h3]
theorem fold_shift (X : List Int) (os : List (Int × Int)) : ∀ A Y : List Int, (os.foldl stp (A, X ++ Y, 0)).2.2 = (os.foldl stp (A, Y, 0)).2.2 ∧ ((os.foldl stp (A, Y, 0)).2.2 = 0 → (os.foldl stp (A, X ++ Y, 0)).1 = (os.foldl stp (A, Y, 0)).1 ∧ (os.foldl stp (A, X ++ Y, 0)).2.1 = X ++ (os.foldl stp (A, Y, 0)).2.1) := by
  induction os with
  | nil => exact fun A Y => ⟨rfl, fun _ => ⟨rfl, rfl⟩⟩
  | cons o os ih =>
    intro A Y
    rw [List.foldl_cons, List.foldl_cons, show stp (A, X ++ Y, 0) o = opS A (X ++ Y) o from if_pos rfl, show stp (A, Y, 0) o = opS A Y o from if_pos rfl, opS_shift]
    obtain ⟨⟨A', Y', e⟩, h⟩ : ∃ s, opS A Y o = s := ⟨_, rfl⟩
    rw [h]
    by_cases he : e = 0
    · subst he
      rw [if_pos rfl]
      exact ih A' Y'
    · rw [if_neg he, stp_stay (s := (A', Y', e)) he]
      exact ⟨rfl, fun h => absurd h he⟩
theorem parts_math {l : List Int} {ops : List (Int × Int)} (k : Nat) (hl : ops.length ≤ 40) :
    ((playS l (ops.take k)).2.2 ≠ 0 → (playS l ops).2.2 = (playS l (ops.take k)).2.2) ∧ ((playS l (ops.take k)).2.2 = 0 → (playS (playS l (ops.take k)).1 (ops.drop k)).2.2 = (playS l ops).2.2 ∧ ((playS l ops).2.2 = 0 → (playS (playS l (ops.take k)).1 (ops.drop k)).1 = (playS l ops).1 ∧ (playS l (ops.take k)).2.1 ++ (playS (playS l (ops.take k)).1 (ops.drop k)).2.1 = (playS l ops).2.1)) := by
  by_cases hd : dqE l = 0
  · rw [playS_pl (ops := ops.take k) hd (by rw [List.length_take]; omega), playS_pl (ops := ops) hd (by omega)]
    have hsplit : plS l ops = (ops.drop k).foldl stp (plS l (ops.take k)) := by
      unfold plS
      rw [← List.foldl_append, List.take_append_drop]
    obtain ⟨⟨A, X, e⟩, h⟩ : ∃ s, plS l (ops.take k) = s := ⟨_, rfl⟩
    have hgood := (plS_good hd (ops.take k)).1
    rw [h] at hgood
    rw [hsplit, h]
    refine ⟨fun he => by rw [stp_stay he], fun he => ?_⟩
    have he : e = 0 := he
    subst he
    obtain ⟨hA, _⟩ := hgood rfl
    rw [playS_pl hA (by rw [List.length_drop]; omega)]
    have := fold_shift X (ops.drop k) A []
    rw [List.append_nil] at this
    obtain ⟨h1, h2⟩ := this
    refine ⟨h1.symm, fun h0 => ?_⟩
    rw [h1] at h0
    obtain ⟨h3, h4⟩ := h2 h0
    exact ⟨h3.symm, h4.symm⟩
  · rw [playS_bad hd, playS_bad hd]
    exact ⟨fun _ => rfl, fun h => absurd h hd⟩
theorem out_len {l : List Int} {ops : List (Int × Int)} (hl : ops.length ≤ 40) : (playS l ops).2.1.length ≤ 40 := by
  by_cases hd : dqE l = 0
  · rw [playS_pl hd (by omega)]
    obtain ⟨h1, h2⟩ := plS_good hd ops
    by_cases h : (plS l ops).2.2 = 0
    · have := (h1 h).2
      omega
    · rw [(h2 h).2]
      simp
  · rw [playS_bad hd]
    simp
theorem edgesA_take {n : Nat} {w : World} {a : Option Addr} {es : List (Int × Int)} (h : EdgesA n w a es) (k : Nat) : EdgesA n w a (es.take k) := fun j hj => by
  rw [List.length_take] at hj
  obtain ⟨b, off, e, h1, h2, h3⟩ := h j (by omega)
  exact ⟨b, off, e, h1, by rw [ge_take (by omega)]; exact h2, by rw [ge_take (by omega)]; exact h3⟩
theorem restE (n i : Nat) (ad : Option Addr) (cap : Nat) (es : List (Int × Int)) (W : World) (hA : EdgesA n W ad es) (hcap : es.length ≤ cap) (hi : i ≤ es.length) :
    ∃ (ao : Option Addr) (c2 : Nat), EdgesA n W ao (es.drop i) ∧ es.length - i ≤ c2 ∧ c2 ≤ cap ∧ ∀ w, (Instr.slice 34 (.slice ad es.length cap) (some (.int .i64 (i : Int))) none none).run Try.prog w = .ok (.slice ao (es.length - i) c2) w := by
  refine ⟨if cap = i then ad else ad.map (·.add (i * 2)), cap - i, fun j hj => ?_, by omega, by omega, fun w => ?_⟩
  · simp only [List.length_drop] at hj
    obtain ⟨b, off, rfl, hb, h1, h2⟩ := hA (i + j) (by omega)
    refine ⟨b, off + i * 2, by rw [if_neg (by omega)]; simp [Addr.add], hb, ?_, ?_⟩
    · rw [ge_drop, show off + i * 2 + j * 2 = off + (i + j) * 2 by omega]
      exact h1
    · rw [ge_drop, show off + i * 2 + j * 2 = off + (i + j) * 2 by omega]
      exact h2
  · rw [run_slice_l w 34 ad es.length cap (by kernel_rfl) .i64 (i : Int) (by omega) (by omega)]
    have hz : (sizeOf (Try.prog.elem 34)).run Try.prog w = .ok 2 w := by kernel_rfl
    rw [hz]
    simp [Result.andThen, sliced]
theorem headE (i : Nat) (ad : Option Addr) (len cap : Nat) (hcap : i ≤ cap) (w : World) : (Instr.slice 34 (.slice ad len cap) none (some (.int .i64 (i : Int))) none).run Try.prog w = .ok (.slice ad i cap) w := by
  rw [run_slice_h w 34 ad len cap (by kernel_rfl) .i64 (i : Int) (by omega) (by omega)]
  have hz : (sizeOf (Try.prog.elem 34)).run Try.prog w = .ok 2 w := by kernel_rfl
  rw [hz]
  simp [Result.andThen, sliced]
  intro _
  cases ad <;> simp [Addr.add]

set_option maxRecDepth 100000 in
set_option maxHeartbeats 8000000 in
theorem dequeParts_walk (v u : Value) (l : List Int) (ops : List (Int × Int)) (at_ : Nat) (w : World) (hK : KZ w v l) (hE : KE w u ops) (hat : at_ ≤ 255) :
    Calls Try.prog 10 #[v, u, .int .u8 (at_ : Int)] w fun e w' => e = .returned (.bool true) ∧ Below w.heap.size w w' := by
  have HB0 : Hid (Below w.heap.size w w) := Lib.hid (Below.refl _ w)
  have K0 := Lib.hid hK
  have E0 := Lib.hid hE
  obtain ⟨ad, cap, rfl, hc1, hc2, hA⟩ := hK
  obtain ⟨ae, cae, rfl, he1, he2, hAE⟩ := hE
  clear hA
  by_cases hg : 40 < l.length
  · have hgI : (40 : Int) < (l.length : Int) := by omega
    clear hAE
    go_enter Try.func10, Try.ntmps10
    have hC1 := awake_any w
    have HC1 := Lib.hid hC1
    clear hC1
    go_wp2_with fail
    refine HC1.out.mono ?_
    rintro e w1 ⟨rfl, b1⟩
    have HB1 := Lib.hid (HB0.out.trans (b1.mono HB0.out.size))
    clear b1
    go_wp2
    go_ret
    exact ⟨rfl, HB1.out⟩
  · have hgI : ¬ (40 : Int) < (l.length : Int) := by omega
    by_cases hh : 40 < ops.length
    · have hhI : (40 : Int) < (ops.length : Int) := by omega
      clear hAE
      go_enter Try.func10, Try.ntmps10
      have hC1 := awake_any w
      have HC1 := Lib.hid hC1
      clear hC1
      go_wp2_with fail
      refine HC1.out.mono ?_
      rintro e w1 ⟨rfl, b1⟩
      have HB1 := Lib.hid (HB0.out.trans (b1.mono HB0.out.size))
      clear b1
      go_wp2
      go_ret
      exact ⟨rfl, HB1.out⟩
    · have hhI : ¬ (40 : Int) < (ops.length : Int) := by omega
      obtain ⟨k, hk⟩ : ∃ k, at_ % (ops.length + 1) = k := ⟨_, rfl⟩
      have hkl : k ≤ ops.length := by have := Nat.mod_lt at_ (show 0 < ops.length + 1 by omega); omega
      have q1 : IntKind.i64.wrap (at_ : Int) = (at_ : Int) := IntWalk.i64_in _ (by omega)
      have q2 : IntKind.i64.wrap ((ops.length : Int) + 1) = (ops.length : Int) + 1 := IntWalk.i64_in _ (by omega)
      have q3 : (at_ : Int).tmod ((ops.length : Int) + 1) = (k : Int) := by rw [Int.tmod_eq_emod_of_nonneg (by omega), ← hk]; simp
      have q4 : IntKind.i64.wrap (k : Int) = (k : Int) := IntWalk.i64_in _ (by omega)
      have q5 : ¬ ((ops.length : Int) + 1 = 0) := by omega
      have hm := parts_math (l := l) (ops := ops) k (by omega)
      have ho1 := out_len (l := l) (ops := ops.take k) (by rw [List.length_take]; omega)
      obtain ⟨⟨SL, SO, SE⟩, hS⟩ : ∃ q, playS l ops = q := ⟨_, rfl⟩
      obtain ⟨⟨FL, FO, FE⟩, hF⟩ : ∃ q, playS l (ops.take k) = q := ⟨_, rfl⟩
      rw [hS, hF] at hm
      rw [hF] at ho1
      have ho2 := out_len (l := FL) (ops := ops.drop k) (by rw [List.length_drop]; omega)
      obtain ⟨⟨GL, GO, GE⟩, hG⟩ : ∃ q, playS FL (ops.drop k) = q := ⟨_, rfl⟩
      have hm2 : FE = 0 → GE = SE ∧ (SE = 0 → GL = SL ∧ FO ++ GO = SO) := fun h => by
        have := hm.2 h
        rw [hG] at this
        exact this
      have hm1 : FE ≠ 0 → SE = FE := hm.1
      rw [hG] at ho2
      have hsl1 := headE k ae ops.length cae (by omega)
      obtain ⟨ao, c2, hAR, hc3, hc4, hsl2⟩ := restE w.heap.size k ae cae ops w hAE he1 hkl
      have hE1 : KE w (.slice ae k cae) (ops.take k) := ⟨ae, cae, by rw [List.length_take, Nat.min_eq_left hkl], by rw [List.length_take]; omega, he2, edgesA_take hAE k⟩
      have hE2 : KE w (.slice ao (ops.length - k) c2) (ops.drop k) := ⟨ao, c2, by rw [List.length_drop], by rw [List.length_drop]; omega, by omega, hAR⟩
      have E1 := Lib.hid hE1
      have E2 := Lib.hid hE2
      have HS := Lib.hid hS
      have HF := Lib.hid hF
      have HG := Lib.hid hG
      have HO1 : Hid (FO.length ≤ 40) := Lib.hid ho1
      have HO2 : Hid (GO.length ≤ 40) := Lib.hid ho2
      clear hS hF hG hm ho1 ho2 hAE hAR hE1 hE2 hk
      have nS : (SE != SE) = false := by simp
      have mS : (SE == SE) = true := by simp
      by_cases hfe : FE = 0
      · obtain ⟨hge, hm3⟩ := hm2 hfe
        subst hfe
        subst hge
        clear hm1 hm2
        by_cases hse : GE = 0
        · obtain ⟨hgl, hgo⟩ := hm3 hse
          subst hgl
          subst hgo
          subst hse
          clear hm3
          go_enter Try.func10, Try.ntmps10
          have hC1 := play_any _ _ l ops w K0.out E0.out
          unfold RetP at hC1
          rw [HS.out] at hC1
          have HC1 := Lib.hid hC1
          clear hC1
          go_wp2_with fail
          refine HC1.out.mono ?_
          rintro e w1 ⟨um, uo, rfl, km, ko, b1⟩
          have HB1 := Lib.hid (HB0.out.trans (b1.mono HB0.out.size))
          have Kl_1 := Lib.hid (KZ.below K0.out b1)
          have Eo_1 := Lib.hid (KE.below E0.out b1)
          have Ep_1 := Lib.hid (KE.below E1.out b1)
          have Er_1 := Lib.hid (KE.below E2.out b1)
          have Km_1 := Lib.hid (km.kz)
          have Ko_1 := Lib.hid (ko.kz)
          clear b1 km ko
          have hC2 := play_any _ _ l (ops.take k) w1 Kl_1.out Ep_1.out
          unfold RetP at hC2
          rw [HF.out] at hC2
          have HC2 := Lib.hid hC2
          clear hC2
          go_wp2_with fail
          refine HC2.out.mono ?_
          rintro e w2 ⟨ua, ux, rfl, ka, kx, b2⟩
          have HB2 := Lib.hid (HB1.out.trans (b2.mono HB1.out.size))
          have Kl_2 := Lib.hid (KZ.below Kl_1.out b2)
          have Km_2 := Lib.hid (KZ.below Km_1.out b2)
          have Ko_2 := Lib.hid (KZ.below Ko_1.out b2)
          have Ep_2 := Lib.hid (KE.below Ep_1.out b2)
          have Er_2 := Lib.hid (KE.below Er_1.out b2)
          have Ka_2 := Lib.hid (ka.kz)
          have Kx_2 := Lib.hid (kx.kz)
          clear b2 ka kx
          have hC3 := play_any _ _ FL (ops.drop k) w2 Ka_2.out Er_2.out
          unfold RetP at hC3
          rw [HG.out] at hC3
          have HC3 := Lib.hid hC3
          clear hC3
          go_wp2_with fail
          refine HC3.out.mono ?_
          rintro e w3 ⟨ub, uy, rfl, kb, ky, b3⟩
          have HB3 := Lib.hid (HB2.out.trans (b3.mono HB2.out.size))
          have Km_3 := Lib.hid (KZ.below Km_2.out b3)
          have Ko_3 := Lib.hid (KZ.below Ko_2.out b3)
          have Ka_3 := Lib.hid (KZ.below Ka_2.out b3)
          have Kx_3 := Lib.hid (KZ.below Kx_2.out b3)
          have Er_3 := Lib.hid (KE.below Er_2.out b3)
          have Kb_3 := Lib.hid (kb.kz)
          have Ky_3 := Lib.hid (ky.kz)
          clear b3 kb ky
          have hC4 := same_yes _ _ GL w3 Kb_3.out Km_3.out
          have HC4 := Lib.hid hC4
          clear hC4
          go_wp2_with fail
          refine HC4.out.mono ?_
          rintro e w4 ⟨rfl, b4⟩
          have HB4 := Lib.hid (HB3.out.trans (b4.mono HB3.out.size))
          have Km_4 := Lib.hid (KZ.below Km_3.out b4)
          have Ko_4 := Lib.hid (KZ.below Ko_3.out b4)
          have Kx_4 := Lib.hid (KZ.below Kx_3.out b4)
          have Kb_4 := Lib.hid (KZ.below Kb_3.out b4)
          have Ky_4 := Lib.hid (KZ.below Ky_3.out b4)
          clear b4
          obtain ⟨ax, cx, rfl, _, _, _⟩ := Kx_4.out
          obtain ⟨ay, cy, rfl, _, _, _⟩ := Ky_4.out
          obtain ⟨w5, hw5⟩ : ∃ W, w4.alloc (.cells #[(.slice ax FO.length cx), (.slice ay GO.length cy)] 22) = W := ⟨_, rfl⟩
          have b5 : Below w4.heap.size w4 w5 := by rw [← hw5]; exact (Below.refl _ _).alloc (Nat.le_refl _) _
          have HB5 := Lib.hid (HB4.out.trans (b5.mono HB4.out.size))
          have Ko_5 := Lib.hid (KZ.below Ko_4.out b5)
          have Kx_5 := Lib.hid (KZ.below Kx_4.out b5)
          have Ky_5 := Lib.hid (KZ.below Ky_4.out b5)
          have HW5 := Lib.hid hw5
          clear hw5 b5
          have hz5 : w5.cell? ⟨w4.heap.size, 0, none⟩ = some (.slice ax FO.length cx) ∧ w5.cell? ⟨w4.heap.size, 1, none⟩ = some (.slice ay GO.length cy) := by rw [← HW5.out]; exact box2V w4 _ _ _
          have hC6 := zConcat_any w4.heap.size (.slice ax FO.length cx) (.slice ay GO.length cy) FO GO w5 hz5.1 hz5.2 Kx_5.out Ky_5.out (by have := HO1.out; omega) (by have := HO2.out; omega)
          have HC6 := Lib.hid hC6
          clear hC6
          go_wp2_with fail
          rw [HW5.out]
          refine HC6.out.mono ?_
          rintro e w6 ⟨uc, rfl, kc, b6⟩
          have HB6 := Lib.hid (HB5.out.trans (b6.mono HB5.out.size))
          have Ko_6 := Lib.hid (KZ.below Ko_5.out b6)
          have Kx_6 := Lib.hid (KZ.below Kx_5.out b6)
          have Ky_6 := Lib.hid (KZ.below Ky_5.out b6)
          have Kc_6 := Lib.hid (kc.kz)
          clear b6 kc hz5
          have hC7 := same_yes _ _ (FO ++ GO) w6 Kc_6.out Ko_6.out
          have HC7 := Lib.hid hC7
          clear hC7
          go_wp2_with fail
          refine HC7.out.mono ?_
          rintro e w7 ⟨rfl, b7⟩
          have HB7 := Lib.hid (HB6.out.trans (b7.mono HB6.out.size))
          have Ko_7 := Lib.hid (KZ.below Ko_6.out b7)
          have Kc_7 := Lib.hid (KZ.below Kc_6.out b7)
          clear b7
          have hC8 := awake_any w7
          have HC8 := Lib.hid hC8
          clear hC8
          go_wp2_with fail
          refine HC8.out.mono ?_
          rintro e w8 ⟨rfl, b8⟩
          have HB8 := Lib.hid (HB7.out.trans (b8.mono HB7.out.size))
          clear b8
          go_wp2
          go_ret
          exact ⟨rfl, HB8.out⟩
        · have h0' : (GE != 0) = true := by simpa using hse
          clear hm3 hse
          go_enter Try.func10, Try.ntmps10
          have hC1 := play_any _ _ l ops w K0.out E0.out
          unfold RetP at hC1
          rw [HS.out] at hC1
          have HC1 := Lib.hid hC1
          clear hC1
          go_wp2_with fail
          refine HC1.out.mono ?_
          rintro e w1 ⟨um, uo, rfl, km, ko, b1⟩
          have HB1 := Lib.hid (HB0.out.trans (b1.mono HB0.out.size))
          have Kl_1 := Lib.hid (KZ.below K0.out b1)
          have Eo_1 := Lib.hid (KE.below E0.out b1)
          have Ep_1 := Lib.hid (KE.below E1.out b1)
          have Er_1 := Lib.hid (KE.below E2.out b1)
          have Km_1 := Lib.hid (km.kz)
          have Ko_1 := Lib.hid (ko.kz)
          clear b1 km ko
          have hC2 := play_any _ _ l (ops.take k) w1 Kl_1.out Ep_1.out
          unfold RetP at hC2
          rw [HF.out] at hC2
          have HC2 := Lib.hid hC2
          clear hC2
          go_wp2_with fail
          refine HC2.out.mono ?_
          rintro e w2 ⟨ua, ux, rfl, ka, kx, b2⟩
          have HB2 := Lib.hid (HB1.out.trans (b2.mono HB1.out.size))
          have Kl_2 := Lib.hid (KZ.below Kl_1.out b2)
          have Km_2 := Lib.hid (KZ.below Km_1.out b2)
          have Ko_2 := Lib.hid (KZ.below Ko_1.out b2)
          have Ep_2 := Lib.hid (KE.below Ep_1.out b2)
          have Er_2 := Lib.hid (KE.below Er_1.out b2)
          have Ka_2 := Lib.hid (ka.kz)
          have Kx_2 := Lib.hid (kx.kz)
          clear b2 ka kx
          have hC3 := play_any _ _ FL (ops.drop k) w2 Ka_2.out Er_2.out
          unfold RetP at hC3
          rw [HG.out] at hC3
          have HC3 := Lib.hid hC3
          clear hC3
          go_wp2_with fail
          refine HC3.out.mono ?_
          rintro e w3 ⟨ub, uy, rfl, kb, ky, b3⟩
          have HB3 := Lib.hid (HB2.out.trans (b3.mono HB2.out.size))
          have Km_3 := Lib.hid (KZ.below Km_2.out b3)
          have Ko_3 := Lib.hid (KZ.below Ko_2.out b3)
          have Ka_3 := Lib.hid (KZ.below Ka_2.out b3)
          have Kx_3 := Lib.hid (KZ.below Kx_2.out b3)
          have Er_3 := Lib.hid (KE.below Er_2.out b3)
          have Kb_3 := Lib.hid (kb.kz)
          have Ky_3 := Lib.hid (ky.kz)
          clear b3 kb ky
          have hC4 := awake_any w3
          have HC4 := Lib.hid hC4
          clear hC4
          go_wp2_with fail
          refine HC4.out.mono ?_
          rintro e w4 ⟨rfl, b4⟩
          have HB4 := Lib.hid (HB3.out.trans (b4.mono HB3.out.size))
          clear b4
          go_wp2
          go_ret
          exact ⟨rfl, HB4.out⟩
      · have hse := hm1 hfe
        subst hse
        have h0' : (SE != 0) = true := by simpa using hfe
        clear hm1 hm2 hfe
        go_enter Try.func10, Try.ntmps10
        have hC1 := play_any _ _ l ops w K0.out E0.out
        unfold RetP at hC1
        rw [HS.out] at hC1
        have HC1 := Lib.hid hC1
        clear hC1
        go_wp2_with fail
        refine HC1.out.mono ?_
        rintro e w1 ⟨um, uo, rfl, km, ko, b1⟩
        have HB1 := Lib.hid (HB0.out.trans (b1.mono HB0.out.size))
        have Kl_1 := Lib.hid (KZ.below K0.out b1)
        have Eo_1 := Lib.hid (KE.below E0.out b1)
        have Ep_1 := Lib.hid (KE.below E1.out b1)
        have Er_1 := Lib.hid (KE.below E2.out b1)
        have Km_1 := Lib.hid (km.kz)
        have Ko_1 := Lib.hid (ko.kz)
        clear b1 km ko
        have hC2 := play_any _ _ l (ops.take k) w1 Kl_1.out Ep_1.out
        unfold RetP at hC2
        rw [HF.out] at hC2
        have HC2 := Lib.hid hC2
        clear hC2
        go_wp2_with fail
        refine HC2.out.mono ?_
        rintro e w2 ⟨ua, ux, rfl, ka, kx, b2⟩
        have HB2 := Lib.hid (HB1.out.trans (b2.mono HB1.out.size))
        have Kl_2 := Lib.hid (KZ.below Kl_1.out b2)
        have Km_2 := Lib.hid (KZ.below Km_1.out b2)
        have Ko_2 := Lib.hid (KZ.below Ko_1.out b2)
        have Ep_2 := Lib.hid (KE.below Ep_1.out b2)
        have Er_2 := Lib.hid (KE.below Er_1.out b2)
        have Ka_2 := Lib.hid (ka.kz)
        have Kx_2 := Lib.hid (kx.kz)
        clear b2 ka kx
        have hC3 := awake_any w2
        have HC3 := Lib.hid hC3
        clear hC3
        go_wp2_with fail
        refine HC3.out.mono ?_
        rintro e w3 ⟨rfl, b3⟩
        have HB3 := Lib.hid (HB2.out.trans (b3.mono HB2.out.size))
        clear b3
        go_wp2
        go_ret
        exact ⟨rfl, HB3.out⟩

end Go.Proofs.Ytmgadcfiaipimaa
