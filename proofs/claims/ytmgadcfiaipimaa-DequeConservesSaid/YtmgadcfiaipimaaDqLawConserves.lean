/-
  The walk of DequeConserves.
-/
import Derived.Test.YtmgadcfiaipimaaDqAwake
import Derived.Test.YtmgadcfiaipimaaDqSort
import Derived.Test.YtmgadcfiaipimaaDqOpen
namespace Go.Proofs.Ytmgadcfiaipimaa
open Go.RowKit

theorem ownZ_keepB {B m : Nat} {o : List Int} {v : Value} {w w' : World} (h : OwnZ B o v w) (hb : Below m w w') (hm : ∀ b, v.ownBlock = some b → b < m) : OwnZ B o v w' := ownZ_block h (fun b e => hb.block b (hm b e))
theorem ownZ_keptNe {B : Nat} {o : List Int} {v : Value} {w w' : World} {r : Option Nat} (h : OwnZ B o v w) (hg : w.grownBy w' r) (hr : ∀ b, r = some b → b < B) : OwnZ B o v w' := ownZ_block h (fun b e => hg.block b (h.lt b e).2 (fun e2 => by have := hr b e2.symm; have := (h.lt b e).1; omega))

set_option maxRecDepth 100000 in
set_option maxHeartbeats 16000000 in
theorem dequeConserves_walk (v u : Value) (l : List Int) (ops : List (Int × Int)) (w : World) (hK : KZ w v l) (hE : KE w u ops) :
    Calls Try.prog 9 #[v, u] w fun e w' => e = .returned (.bool true) ∧ Below w.heap.size w w' := by
  have HB0 : Hid (Below w.heap.size w w) := Lib.hid (Below.refl _ w)
  have K0 := Lib.hid hK
  have E0 := Lib.hid hE
  obtain ⟨ad, cap, rfl, hc1, hc2, hA⟩ := hK
  obtain ⟨ae, cae, rfl, he1, he2, hAE⟩ := hE
  clear hA
  by_cases hg : 40 < l.length
  · have hgI : (40 : Int) < (l.length : Int) := by omega
    clear hAE
    go_enter Try.func9, Try.ntmps9
    have hC1 := awake_any w
    have HC1 := Lib.hid hC1
    clear hC1
    go_wp2_with fail
    refine HC1.out.mono ?_
    rintro e w1 ⟨rfl, b1⟩
    have HB1 := Lib.hid (HB0.out.trans (b1.mono HB0.out.size))
    clear b1
    go_wp2
    go_ret
    exact ⟨rfl, HB1.out⟩
  · have hgI : ¬ (40 : Int) < (l.length : Int) := by omega
    by_cases hh : 40 < ops.length
    · have hhI : (40 : Int) < (ops.length : Int) := by omega
      clear hAE
      go_enter Try.func9, Try.ntmps9
      have hC1 := awake_any w
      have HC1 := Lib.hid hC1
      clear hC1
      go_wp2_with fail
      refine HC1.out.mono ?_
      rintro e w1 ⟨rfl, b1⟩
      have HB1 := Lib.hid (HB0.out.trans (b1.mono HB0.out.size))
      clear b1
      go_wp2
      go_ret
      exact ⟨rfl, HB1.out⟩
    · have hhI : ¬ (40 : Int) < (ops.length : Int) := by omega
      have hcon := conserve (l := l) (ops := ops) (by omega)
      have hfail := play_fail (l := l) (ops := ops)
      have HAE := Lib.hid hAE
      obtain ⟨⟨SL, SO, SE⟩, hS⟩ : ∃ q, playS l ops = q := ⟨_, rfl⟩
      rw [hS] at hcon hfail
      have HS := Lib.hid hS
      clear hS hAE
      by_cases hse : SE = 0
      · obtain ⟨h1, h2, h3, h4⟩ := hcon hse
        subst hse
        have h1 : SO.length = tkN ops := h1
        have h2 : ((l ++ pushesL ops).mergeSort fun x y => decide (x ≤ y)) = ((SL ++ outL SO).mergeSort fun x y => decide (x ≤ y)) := h2
        have h3 : dqE SL = 0 := h3
        have hll := dqE_len h4
        have hsl := dqE_len h3
        have hso : SO.length ≤ 40 := by have := tkN_le ops; omega
        have H1 := Lib.hid h1
        have H2 := Lib.hid h2
        have H3 := Lib.hid h3
        have HSO := Lib.hid hso
        clear h1 h2 h3 h4 hcon hfail hso
        go_enter Try.func9, Try.ntmps9
        have hC1 := play_any _ _ l ops w K0.out E0.out
        unfold RetP at hC1
        rw [HS.out] at hC1
        have HC1 := Lib.hid hC1
        clear hC1
        go_wp2_with fail
        refine HC1.out.mono ?_
        rintro e w1 ⟨um, uo, rfl, km, ko, b1⟩
        have HB1 := Lib.hid (HB0.out.trans (b1.mono HB0.out.size))
        have Kl_1 := Lib.hid (KZ.below K0.out b1)
        have Eo_1 := Lib.hid (KE.below E0.out b1)
        have Km_1 := Lib.hid (km.kz)
        have Ko_1 := Lib.hid (ko.kz)
        clear b1 km ko
        have hC2 := zClone_any _ l w1 Kl_1.out (by omega)
        have HC2 := Lib.hid hC2
        clear hC2
        go_wp2_with fail
        refine HC2.out.mono ?_
        rintro e w2 ⟨v2, rfl, o2, b2⟩
        have HB2 := Lib.hid (HB1.out.trans (b2.mono HB1.out.size))
        have Kl_2 := Lib.hid (KZ.below Kl_1.out b2)
        have Km_2 := Lib.hid (KZ.below Km_1.out b2)
        have Ko_2 := Lib.hid (KZ.below Ko_1.out b2)
        have HBX : Hid (Below w1.heap.size w1 w2) := Lib.hid b2
        clear b2
        have HOI : Hid (OwnZ w1.heap.size l v2 w2) := Lib.hid o2
        have HB12 : Hid (w.heap.size ≤ w1.heap.size) := Lib.hid HB1.out.size
        clear o2
        go_wp2
        go_loopw [8, 9, 46] (fun x y i wr => ∃ (k : Nat) (iv : Value), k ≤ ops.length ∧ i = .int .i64 k ∧ y = .int .i64 ((tkN (ops.take k) : Nat) : Int) ∧ iv = x ∧ Hid (OwnZ w1.heap.size (l ++ pushesL (ops.take k)) iv wr) ∧ Hid (Below w1.heap.size w1 wr)) (fun _ _ i _ => ops.length - (intOf i).toNat)
        case atStart => exact ⟨0, _, Nat.zero_le _, rfl, rfl, rfl, Lib.hid (by simpa [pushesL] using HOI.out), HBX⟩
        case round =>
          obtain ⟨k, iv, hk, rfl, rfl, rfl, HO, HBR⟩ := hrel
          by_cases hlt : k < ops.length
          · have k1 : (k : Int) < (ops.length : Int) := by omega
            obtain ⟨bk, off, rfl, hbk, c0, c1⟩ := (HAE.out.below (HB1.out.trans (HBR.out.mono HB1.out.size))) k hlt
            have hpu := pushesL_snoc (ops.take k) (ge ops k)
            have htk := tkN_snoc (ops.take k) (ge ops k)
            rw [← take_snocO ops k hlt] at hpu htk
            have hpl := pushesL_length (ops.take k)
            have htl := tkN_le (ops.take k)
            rw [List.length_take] at hpl htl
            obtain ⟨⟨f, t⟩, hft⟩ : ∃ x, ge ops k = x := ⟨_, rfl⟩
            rw [hft] at c0 c1 hpu htk
            simp only [] at c0 c1 hpu htk
            have hln : (l ++ pushesL (ops.take k)).length ≤ 10000 := by rw [List.length_append]; omega
            have hB1 : Below wr.heap.size wr (wr.alloc (.cells #[.int .i64 f, .int .i64 t] TE)) := (Below.refl _ _).alloc (Nat.le_refl _) _
            by_cases hf : f = 1
            · rw [if_pos hf] at hpu htk
              have hB2 : Below (wr.alloc (.cells #[.int .i64 f, .int .i64 t] TE)).heap.size (wr.alloc (.cells #[.int .i64 f, .int .i64 t] TE)) ((wr.alloc (.cells #[.int .i64 f, .int .i64 t] TE)).alloc (.cells #[.int .i64 t] TZ)) := (Below.refl _ _).alloc (Nat.le_refl _) _
              have hB12 := HBR.out.trans ((hB1.trans (hB2.mono hB1.size)).mono HBR.out.size)
              have hy := World.alloc_heap_new (wr.alloc (.cells #[.int .i64 f, .int .i64 t] TE)) (.cells #[.int .i64 t] TZ)
              obtain ⟨v4, V4, hr4, ho4, _, hb4⟩ := append_oneZ ((wr.alloc (.cells #[.int .i64 f, .int .i64 t] TE)).alloc (.cells #[.int .i64 t] TZ)) w1.heap.size iv _ t _ ((HO.out.below hB1).below hB2) hy hln hB12.size
              have HR4 := Lib.hid hr4
              have HO4 : Hid (OwnZ w1.heap.size (l ++ pushesL (ops.take (k + 1))) v4 V4) := Lib.hid (by rw [hpu, ← List.append_assoc]; exact ho4)
              have HB4 := Lib.hid (hB12.trans hb4)
              have HTK := Lib.hid htk
              rw [World.size_alloc] at HR4
              subst hf
              clear hpu htk hft hB1 hB2 hB12 hy hr4 ho4 hb4 hln
              go_wp2_with (at_builtin; refine append_by_run _ rfl _ _ 22 rfl _ _ rfl rfl _ _ HR4.out ?_)
              go_roundw
              case rel => exact ⟨k + 1, v4, by omega, by go_num, by rw [HTK.out], rfl, HO4, HB4⟩
              case measure => simp [intOf]; omega
            · rw [if_neg hf] at hpu htk
              have hf' : (f == 1) = false := by simpa using hf
              have HO4 : Hid (OwnZ w1.heap.size (l ++ pushesL (ops.take (k + 1))) iv (wr.alloc (.cells #[.int .i64 f, .int .i64 t] TE))) := Lib.hid (by rw [hpu]; exact HO.out.below hB1)
              have HB4 := Lib.hid (HBR.out.trans (hB1.mono HBR.out.size))
              obtain ⟨m, hm⟩ : ∃ m, tkN (ops.take k) = m := ⟨_, rfl⟩
              rw [hm] at htk htl ⊢
              have q1 : IntKind.i64.wrap ((m : Int) + 1) = (m : Int) + 1 := IntWalk.i64_in _ (by omega)
              have HTK := Lib.hid htk
              clear hpu htk hft hB1 hln hm hf
              go_wp2
              go_roundw
              case rel => exact ⟨k + 1, iv, by omega, by go_num, by rw [HTK.out]; go_num, rfl, HO4, HB4⟩
              case measure => simp [intOf]; omega
          · obtain rfl : k = ops.length := by omega
            have HO : Hid (OwnZ w1.heap.size (l ++ pushesL ops) iv wr) := Lib.hid (by have := HO.out; rwa [List.take_length] at this)
            rw [List.take_length]
            have KM := Lib.hid (KZ.below Km_1.out HBR.out)
            have HCL := Lib.hid (zClone_any um SL wr KM.out (by omega))
            go_wp2_with fail
            refine HCL.out.mono ?_
            rintro e w3 ⟨v3, rfl, o3, b3⟩
            have HO3 : Hid (OwnZ wr.heap.size SL v3 w3) := Lib.hid o3
            have HI3 := Lib.hid (HO.out.below b3)
            have HBR3 := Lib.hid (HBR.out.trans (b3.mono HBR.out.size))
            have HBS := Lib.hid HBR.out.size
            have HLT := Lib.hid (HO.out.lt)
            have HBY := Lib.hid b3
            have KO := Lib.hid (KZ.below Ko_1.out HBR.out)
            obtain ⟨W5, hW5⟩ : ∃ W, W = wr := ⟨_, rfl⟩
            subst hW5
            obtain ⟨ao, co, rfl, ho1, ho2, ho3⟩ := KO.out
            have HOO := Lib.hid ho3
            clear o3 b3 ho3
            go_wp2
            go_loopw [12, 65] (fun x i wr => ∃ (k : Nat) (ev : Value), k ≤ SO.length ∧ i = .int .i64 k ∧ ev = x ∧ Hid (OwnZ W5.heap.size (SL ++ outL (SO.take k)) ev wr) ∧ Hid (Below W5.heap.size W5 wr)) (fun _ i _ => SO.length - (intOf i).toNat)
            case atStart => exact ⟨0, _, Nat.zero_le _, rfl, rfl, Lib.hid (by simpa [outL] using HO3.out), HBY⟩
            case round =>
              obtain ⟨k, ev, hk, rfl, rfl, HE, HBQ⟩ := hrel
              by_cases hlt : k < SO.length
              · have k1 : (k : Int) < (SO.length : Int) := by omega
                obtain ⟨bk, off, rfl, hbk, c0⟩ := (HOO.out.below HBQ.out) k hlt
                change wr.cell? ⟨bk, off + k, none⟩ = some (.int .i64 (gz SO k)) at c0
                have hou := outL_snoc (SO.take k) (gz SO k)
                rw [← take_snocZ SO k hlt] at hou
                have hol := outL_length (SO.take k)
                rw [List.length_take] at hol
                have hln : (SL ++ outL (SO.take k)).length ≤ 10000 := by rw [List.length_append]; have := HSO.out; omega
                obtain ⟨x, hx⟩ : ∃ x, gz SO k = x := ⟨_, rfl⟩
                rw [hx] at c0 hou
                have hB1 : Below wr.heap.size wr (wr.alloc (.cells #[.int .i64 x] TZ)) := (Below.refl _ _).alloc (Nat.le_refl _) _
                by_cases hx1 : x = -1
                · rw [if_pos hx1] at hou
                  have HE' : Hid (OwnZ W5.heap.size (SL ++ outL (SO.take (k + 1))) ev wr) := Lib.hid (by rw [hou]; exact HE.out)
                  have hx' : (x != -1) = false := by simpa using hx1
                  subst hx1
                  clear hou hx hB1 hln
                  go_wp2
                  go_roundw
                  case rel => exact ⟨k + 1, ev, by omega, by go_num, rfl, HE', HBQ⟩
                  case measure => simp [intOf]; omega
                · rw [if_neg hx1] at hou
                  have hx' : (x != -1) = true := by simpa using hx1
                  obtain ⟨v4, V4, hr4, ho4, _, hb4⟩ := append_oneZ (wr.alloc (.cells #[.int .i64 x] TZ)) W5.heap.size ev _ x wr.heap.size (HE.out.below hB1) (World.alloc_heap_new wr _) hln (Nat.le_trans HBQ.out.size hB1.size)
                  have HR4 := Lib.hid hr4
                  have HE4 : Hid (OwnZ W5.heap.size (SL ++ outL (SO.take (k + 1))) v4 V4) := Lib.hid (by rw [hou, ← List.append_assoc]; exact ho4)
                  have HB4 := Lib.hid ((HBQ.out.trans (hB1.mono HBQ.out.size)).trans hb4)
                  clear hou hx hB1 hln hr4 ho4 hb4 hx1
                  go_wp2_with (at_builtin; refine append_by_run _ rfl _ _ 22 rfl _ _ rfl rfl _ _ HR4.out ?_)
                  go_roundw
                  case rel => exact ⟨k + 1, v4, by omega, by go_num, rfl, HE4, HB4⟩
                  case measure => simp [intOf]; omega
              · obtain rfl : k = SO.length := by omega
                have HE : Hid (OwnZ W5.heap.size (SL ++ outL SO) ev wr) := Lib.hid (by have := HE.out; rwa [List.take_length] at this)
                have HI := Lib.hid (ownZ_keepB HO.out HBQ.out (fun b hb => (HLT.out b hb).2))
                have hpl := pushesL_length ops
                have hol := outL_length SO
                have HS1 := Lib.hid (sortZ_any w1.heap.size iv _ wr HI.out (by rw [List.length_append]; omega) (Nat.le_trans HBS.out HBQ.out.size))
                have HBQ1 := Lib.hid (HBR.out.trans (HBQ.out.mono HBS.out))
                go_wp2_with fail
                refine HS1.out.mono ?_
                rintro e w6 ⟨rfl, s6, g6, b6⟩
                have HI6 := Lib.hid s6
                have HE6 := Lib.hid (ownZ_keptNe HE.out g6 (fun b hb => (HLT.out b hb).2))
                have HB6 := Lib.hid (HBQ1.out.trans b6)
                have HL6 : Hid (∀ b, iv.ownBlock = some b → b < W5.heap.size) := Lib.hid (fun b hb => (HLT.out b hb).2)
                have HSZ6 : Hid (W5.heap.size ≤ w6.heap.size) := Lib.hid (Nat.le_trans HBQ.out.size g6.size)
                have HS2 := Lib.hid (sortZ_any W5.heap.size ev _ w6 HE6.out (by rw [List.length_append]; have := HSO.out; omega) HSZ6.out)
                clear s6 g6 b6
                go_wp2_with fail
                refine HS2.out.mono ?_
                rintro e w7 ⟨rfl, s7, g7, b7⟩
                have HE7 := Lib.hid s7.kz
                have HI7 := Lib.hid (ownZ_keepB HI6.out b7 HL6.out).kz
                have HB7 := Lib.hid (HB6.out.trans (b7.mono HBS.out))
                have HBW7 := Lib.hid (HB1.out.trans (HB7.out.mono HB1.out.size))
                have KM7 := Lib.hid (KZ.below Km_1.out HB7.out)
                have hsame := same_at iv ev _ _ w7 HI7.out HE7.out
                rw [decide_eq_true H2.out] at hsame
                have HSM := Lib.hid hsame
                have ht : ((SO.length : Int) == ((tkN ops : Nat) : Int)) = true := by rw [H1.out]; simp
                have HT := Lib.hid ht
                clear s7 g7 b7 hsame ht
                obtain ⟨nt, hnt⟩ : ∃ m, tkN ops = m := ⟨_, rfl⟩
                rw [hnt] at HT ⊢
                have ht := HT.out
                clear hnt
                go_wp2_with fail
                refine HSM.out.mono ?_
                rintro e w8 ⟨rfl, b8⟩
                have HB8 := Lib.hid (HBW7.out.trans (b8.mono HBW7.out.size))
                have hck := check_any um SL w8 (KZ.below KM7.out b8)
                rw [H3.out] at hck
                have HCK := Lib.hid hck
                clear b8 hck
                go_wp2_with fail
                refine HCK.out.mono ?_
                rintro e w9 ⟨rfl, rfl⟩
                have HAW := Lib.hid (awake_any w8)
                go_wp2_with fail
                refine HAW.out.mono ?_
                rintro e w10 ⟨rfl, b10⟩
                have HB10 := Lib.hid (HB8.out.trans (b10.mono HB8.out.size))
                clear b10
                go_wp2
                go_ret
                exact ⟨rfl, HB10.out⟩
      · obtain ⟨h1, h2⟩ := hfail hse
        have h1 : SL = [] := h1
        have h2 : SO = [] := h2
        subst h1
        subst h2
        have h0' : (SE != 0) = true := by simpa using hse
        clear hcon hfail hse
        go_enter Try.func9, Try.ntmps9
        have hC1 := play_any _ _ l ops w K0.out E0.out
        unfold RetP at hC1
        rw [HS.out] at hC1
        have HC1 := Lib.hid hC1
        clear hC1
        go_wp2_with fail
        refine HC1.out.mono ?_
        rintro e w1 ⟨um, uo, rfl, km, ko, b1⟩
        have HB1 := Lib.hid (HB0.out.trans (b1.mono HB0.out.size))
        have Kl_1 := Lib.hid (KZ.below K0.out b1)
        have Eo_1 := Lib.hid (KE.below E0.out b1)
        have Km_1 := Lib.hid (km.kz)
        have Ko_1 := Lib.hid (ko.kz)
        clear b1 km ko
        obtain ⟨am, cm, rfl, _, _, _⟩ := Km_1.out
        obtain ⟨ao, co, rfl, _, _, _⟩ := Ko_1.out
        have hC2 := awake_any w1
        have HC2 := Lib.hid hC2
        clear hC2
        go_wp2_with fail
        refine HC2.out.mono ?_
        rintro e w2 ⟨rfl, b2⟩
        have HB2 := Lib.hid (HB1.out.trans (b2.mono HB1.out.size))
        clear b2
        go_wp2
        go_ret
        exact ⟨rfl, HB2.out⟩

end Go.Proofs.Ytmgadcfiaipimaa
