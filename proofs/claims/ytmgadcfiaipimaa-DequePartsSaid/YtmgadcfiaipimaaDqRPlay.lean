/-
  What the reference's Play returns.
-/
import Derived.Test.YtmgadcfiaipimaaDqPlay
import Derived.Test.YtmgadcfiaipimaaDqRef
namespace Go.Proofs.Ytmgadcfiaipimaa
open Go.RowKit

theorem opS_nil {O : List Int} {f t : Int} (h : f = 2 ∨ f = 3) : opS [] O (f, t) = ([], O ++ [-1], 0) := by
  unfold opS
  rcases h with rfl | rfl
  · rw [if_neg (by simp), if_pos rfl, if_pos rfl]
  · rw [if_neg (by simp), if_neg (by simp), if_pos rfl, if_pos rfl]
theorem KzC.empty {n m : Nat} {w w' : World} {v : Value} (h : KzC n w v []) : KzC m w' v [] := by
  obtain ⟨a, c, e, h1, h2, h3⟩ := h
  exact ⟨a, c, e, h1, h2, fun j hj => by simp at hj⟩
theorem dnE_ne (o : List Int) (x : Int) : dnE o x ≠ 23 := by
  rcases dnE_cases o x with h | h | h <;> rw [h] <;> decide

set_option maxRecDepth 100000 in
set_option maxHeartbeats 8000000 in
/-- The reference's Play. -/
theorem rPlay_any (v u : Value) (l : List Int) (ops : List (Int × Int)) (w : World) (hK : KZ w v l) (hE : KE w u ops) :
    Calls Try.prog 24 #[v, u] w (fun e w' => ∃ x y, e = .returned (.tuple #[x, y, .int .i64 (playS l ops).2.2]) ∧ KZ w' x (playS l ops).1 ∧ KZ w' y (playS l ops).2.1 ∧ Below w.heap.size w w') := by
  have HC := rCheck_any v l w hK
  obtain ⟨ua, uc, rfl, huc1, huc2, hU⟩ := hE
  by_cases h : dqE l = 0
  · rw [h] at HC
    have HC := Lib.hid HC
    by_cases hlong : 1000 < ops.length
    · rw [playS_long h hlong]
      have q1 : (1000 : Int) < (ops.length : Int) := by omega
      clear hK hU h hlong
      go_enter Try.func24, Try.ntmps24
      go_wp2_with fail
      refine HC.out.mono ?_
      rintro e w1 ⟨rfl, b1⟩
      have HB1 := Lib.hid b1
      clear b1
      go_wp2
      go_ret3
      exact ⟨_, _, rfl, KzC.nil _ _ _ _ (by decide), KzC.nil _ _ _ _ (by decide), HB1.out⟩
    · rw [playS_pl h hlong]
      have q1 : ¬ (1000 : Int) < (ops.length : Int) := by omega
      have hol : ops.length ≤ 1000 := by omega
      have hlen := dqE_len h
      have HU := Lib.hid hU
      have HK := Lib.hid hK
      have HG : Hid (∀ os, ((plS l os).2.2 = 0 → dqE (plS l os).1 = 0 ∧ (plS l os).2.1.length ≤ os.length)) := Lib.hid (fun os => (plS_good h os).1)
      clear hK hU h hlong
      go_enter Try.func24, Try.ntmps24
      go_wp2_with fail
      refine HC.out.mono ?_
      rintro e w1 ⟨rfl, b1⟩
      have HF1 := Lib.hid (HK.out.below b1)
      have HB1 := Lib.hid b1
      clear b1
      go_wp2
      go_loopw [0, 8, 9] (fun x y i wr => ∃ (k : Nat) (L O : List Int) (lv rv : Value), k ≤ ops.length ∧ i = .int .i64 k ∧ lv = x ∧ rv = y ∧ Hid (plS l (ops.take k) = (L, O, 0)) ∧ Hid (KzC wr.heap.size wr lv L) ∧ Hid (OwnZ w.heap.size O rv wr) ∧ Hid (Below w.heap.size w wr)) (fun _ _ i _ => ops.length - (intOf i).toNat)
      case atStart => exact ⟨0, l, [], _, _, Nat.zero_le _, rfl, rfl, rfl, Lib.hid rfl, HF1, Lib.hid (OwnZ.nil _ _), HB1⟩
      case round =>
        obtain ⟨k, L, O, lv, rv, hk, rfl, rfl, rfl, HP, HL, HO, HB⟩ := hrel
        by_cases hlt : k < ops.length
        · have k1 : (k : Int) < (ops.length : Int) := by omega
          have hgood := HG.out (ops.take k)
          rw [HP.out] at hgood
          obtain ⟨hdL, hOl⟩ := hgood rfl
          rw [List.length_take] at hOl
          have hOl : O.length ≤ 1000 := by have : O.length ≤ min k ops.length := hOl; omega
          obtain ⟨bk, off, rfl, hbk, c0, c1⟩ := (HU.out.below HB.out) k hlt
          have hnext := plS_next HP.out hlt
          have hstop := fun (s : Pl) (hs : plS l (ops.take (k + 1)) = s) (h0 : s.2.2 ≠ 0) => plS_stop hs h0
          obtain ⟨⟨f, t⟩, hft⟩ : ∃ x, ge ops k = x := ⟨_, rfl⟩
          rw [hft] at c0 c1 hnext
          simp only [] at c0 c1
          have HN := Lib.hid hnext
          have HST := Lib.hid hstop
          have HDL := Lib.hid hdL
          have HC0 := Lib.hid c0
          have HC1 := Lib.hid c1
          clear hft hnext hstop hdL hgood HP
          by_cases hf1 : f = 1
          · subst hf1
            have hcall := rPush_any lv L t wr HL.out
            by_cases hn : dnE L t = 0
            · have hE : pushE L t = 0 := pushE_iff.2 ⟨HDL.out, hn⟩
              have hQ : pushQ L t = L ++ [t] := if_pos hE
              rw [hE, hQ] at hcall
              have HCA := Lib.hid hcall
              have HNX : Hid (plS l (ops.take (k + 1)) = (L ++ [t], O, 0)) := Lib.hid (by rw [HN.out, opS_push hn])
              clear hcall hE hQ hn
              go_wp2_with fail
              refine HCA.out.mono ?_
              rintro e w4 ⟨u4, rfl, k4, b4⟩
              have HB4 := Lib.hid (HB.out.trans (b4.mono HB.out.size))
              have HK4 : Hid (KzC w4.heap.size w4 u4 (L ++ [t])) := Lib.hid k4.kz
              have HO4 := Lib.hid (HO.out.below b4)
              have c4 := cell_laterZ b4 c0
              clear k4 b4 c0 c1
              go_wp2
              go_roundw
              case rel => exact ⟨k + 1, L ++ [t], O, u4, rv, by omega, by go_num, rfl, rfl, HNX, HK4, HO4, HB4⟩
              case measure => simp [intOf]; omega
            · have hE : pushE L t = dnE L t := if_pos HDL.out
              have hQ : pushQ L t = [] := if_neg (by rw [hE]; exact hn)
              have HR : Hid (plS l ops = ([], [], dnE L t)) := Lib.hid (HST.out _ (by rw [HN.out]; exact opS_no hn) hn)
              have h23 := dnE_ne L t
              rw [hE, hQ] at hcall
              obtain ⟨z, hz⟩ : ∃ z, dnE L t = z := ⟨_, rfl⟩
              rw [hz] at hcall HR hn h23
              have h0' : (z != 0) = true := by simpa using hn
              have h1' : (z == 23) = false := by simpa using h23
              have HCA := Lib.hid hcall
              clear hcall hE hQ hn hz h23
              go_wp2_with fail
              refine HCA.out.mono ?_
              rintro e w4 ⟨u4, rfl, k4, b4⟩
              have HB4 := Lib.hid (HB.out.trans (b4.mono HB.out.size))
              clear k4 b4 c0 c1
              go_wp2
              go_ret3
              exact ⟨_, _, by rw [HR.out]; rfl, by rw [HR.out]; exact KzC.nil _ _ _ _ (by decide), by rw [HR.out]; exact KzC.nil _ _ _ _ (by decide), HB4.out⟩
          · by_cases hf2 : f = 2
            · subst hf2
              have hcall := rPop_any lv L wr HL.out
              by_cases h0 : L = []
              · have hE : takeE L = 23 := by unfold takeE; rw [if_pos HDL.out, if_pos h0]
                rw [hE] at hcall
                have HCA := Lib.hid hcall
                subst h0
                have HNX : Hid (plS l (ops.take (k + 1)) = ([], O ++ [-1], 0)) := Lib.hid (by rw [HN.out]; exact opS_nil (by simp))
                clear hcall hE
                go_wp2_with fail
                refine HCA.out.mono ?_
                rintro e w4 ⟨u4, rfl, k4, b4⟩
                have HB4 := Lib.hid (HB.out.trans (b4.mono HB.out.size))
                have HO4 := Lib.hid (HO.out.below b4)
                have c4 := cell_laterZ b4 c0
                clear k4
                have hb5 : Below w4.heap.size w4 (w4.alloc (.cells #[.int .i64 (-1)] TZ)) := (Below.refl _ _).alloc (Nat.le_refl _) _
                have HB5 := Lib.hid (HB4.out.trans (hb5.mono HB4.out.size))
                obtain ⟨r6, W6, hr6, ho6, hg6, hb6⟩ := append_oneZ (w4.alloc (.cells #[.int .i64 (-1)] TZ)) w.heap.size rv O (-1) w4.heap.size (HO4.out.below hb5) (World.alloc_heap_new w4 _) (by omega) HB5.out.size
                have HL6 : Hid (KzC W6.heap.size W6 lv []) := Lib.hid (HL.out.empty)
                have HO6 := Lib.hid ho6
                have HB6 := Lib.hid (HB5.out.trans hb6)
                clear b4 c0 c1 hb5 ho6 hg6 hb6
                go_wp2_with (at_builtin; refine append_by_run _ rfl _ _ 22 rfl _ _ rfl rfl _ _ hr6 ?_)
                go_roundw
                case rel => exact ⟨k + 1, [], O ++ [(-1)], lv, r6, by omega, by go_num, rfl, rfl, HNX, HL6, HO6, HB6⟩
                case measure => simp [intOf]; omega
              · have hE : takeE L = 0 := takeE_iff.2 ⟨HDL.out, h0⟩
                have hop := (opS_pop (L := L) (O := O) (t := t)).resolve_right (fun h => h HDL.out)
                rw [if_neg h0, if_neg h0] at hop
                obtain ⟨Q, hQ⟩ : ∃ q, popQ L = q := ⟨_, rfl⟩
                obtain ⟨X, hX⟩ : ∃ q, popX L = q := ⟨_, rfl⟩
                rw [hQ, hX] at hop
                rw [hE, hQ, hX] at hcall
                have HCA := Lib.hid hcall
                have HNX : Hid (plS l (ops.take (k + 1)) = (Q, O ++ [X], 0)) := Lib.hid (by rw [HN.out, hop])
                clear hcall hE hop hQ hX h0
                go_wp2_with fail
                refine HCA.out.mono ?_
                rintro e w4 ⟨u4, rfl, k4, b4⟩
                have HB4 := Lib.hid (HB.out.trans (b4.mono HB.out.size))
                have HK4 := Lib.hid k4
                have HO4 := Lib.hid (HO.out.below b4)
                have c4 := cell_laterZ b4 c0
                clear k4
                have hb5 : Below w4.heap.size w4 (w4.alloc (.cells #[.int .i64 X] TZ)) := (Below.refl _ _).alloc (Nat.le_refl _) _
                have HB5 := Lib.hid (HB4.out.trans (hb5.mono HB4.out.size))
                obtain ⟨r6, W6, hr6, ho6, hg6, hb6⟩ := append_oneZ (w4.alloc (.cells #[.int .i64 X] TZ)) w.heap.size rv O X w4.heap.size (HO4.out.below hb5) (World.alloc_heap_new w4 _) (by omega) HB5.out.size
                have HL6 : Hid (KzC W6.heap.size W6 u4 Q) := Lib.hid ((FzC.grown (HK4.out.below hb5) hg6 (fun b e => (HO.out.lt b e).2)).kz)
                have HO6 := Lib.hid ho6
                have HB6 := Lib.hid (HB5.out.trans hb6)
                clear b4 c0 c1 hb5 ho6 hg6 hb6
                go_wp2_with (at_builtin; refine append_by_run _ rfl _ _ 22 rfl _ _ rfl rfl _ _ hr6 ?_)
                go_roundw
                case rel => exact ⟨k + 1, Q, O ++ [X], u4, r6, by omega, by go_num, rfl, rfl, HNX, HL6, HO6, HB6⟩
                case measure => simp [intOf]; omega
            · by_cases hf3 : f = 3
              · subst hf3
                have hcall := rSteal_any lv L wr HL.out
                by_cases h0 : L = []
                · have hE : takeE L = 23 := by unfold takeE; rw [if_pos HDL.out, if_pos h0]
                  rw [hE] at hcall
                  have HCA := Lib.hid hcall
                  subst h0
                  have HNX : Hid (plS l (ops.take (k + 1)) = ([], O ++ [-1], 0)) := Lib.hid (by rw [HN.out]; exact opS_nil (by simp))
                  clear hcall hE
                  go_wp2_with fail
                  refine HCA.out.mono ?_
                  rintro e w4 ⟨u4, rfl, k4, b4⟩
                  have HB4 := Lib.hid (HB.out.trans (b4.mono HB.out.size))
                  have HO4 := Lib.hid (HO.out.below b4)
                  have c4 := cell_laterZ b4 c0
                  clear k4
                  have hb5 : Below w4.heap.size w4 (w4.alloc (.cells #[.int .i64 (-1)] TZ)) := (Below.refl _ _).alloc (Nat.le_refl _) _
                  have HB5 := Lib.hid (HB4.out.trans (hb5.mono HB4.out.size))
                  obtain ⟨r6, W6, hr6, ho6, hg6, hb6⟩ := append_oneZ (w4.alloc (.cells #[.int .i64 (-1)] TZ)) w.heap.size rv O (-1) w4.heap.size (HO4.out.below hb5) (World.alloc_heap_new w4 _) (by omega) HB5.out.size
                  have HL6 : Hid (KzC W6.heap.size W6 lv []) := Lib.hid (HL.out.empty)
                  have HO6 := Lib.hid ho6
                  have HB6 := Lib.hid (HB5.out.trans hb6)
                  clear b4 c0 c1 hb5 ho6 hg6 hb6
                  go_wp2_with (at_builtin; refine append_by_run _ rfl _ _ 22 rfl _ _ rfl rfl _ _ hr6 ?_)
                  go_roundw
                  case rel => exact ⟨k + 1, [], O ++ [(-1)], lv, r6, by omega, by go_num, rfl, rfl, HNX, HL6, HO6, HB6⟩
                  case measure => simp [intOf]; omega
                · have hE : takeE L = 0 := takeE_iff.2 ⟨HDL.out, h0⟩
                  have hop := (opS_steal (L := L) (O := O) (t := t)).resolve_right (fun h => h HDL.out)
                  rw [if_neg h0, if_neg h0] at hop
                  obtain ⟨Q, hQ⟩ : ∃ q, stealQ L = q := ⟨_, rfl⟩
                  obtain ⟨X, hX⟩ : ∃ q, stealX L = q := ⟨_, rfl⟩
                  rw [hQ, hX] at hop
                  rw [hE, hQ, hX] at hcall
                  have HCA := Lib.hid hcall
                  have HNX : Hid (plS l (ops.take (k + 1)) = (Q, O ++ [X], 0)) := Lib.hid (by rw [HN.out, hop])
                  clear hcall hE hop hQ hX h0
                  go_wp2_with fail
                  refine HCA.out.mono ?_
                  rintro e w4 ⟨u4, rfl, k4, b4⟩
                  have HB4 := Lib.hid (HB.out.trans (b4.mono HB.out.size))
                  have HK4 := Lib.hid k4
                  have HO4 := Lib.hid (HO.out.below b4)
                  have c4 := cell_laterZ b4 c0
                  clear k4
                  have hb5 : Below w4.heap.size w4 (w4.alloc (.cells #[.int .i64 X] TZ)) := (Below.refl _ _).alloc (Nat.le_refl _) _
                  have HB5 := Lib.hid (HB4.out.trans (hb5.mono HB4.out.size))
                  obtain ⟨r6, W6, hr6, ho6, hg6, hb6⟩ := append_oneZ (w4.alloc (.cells #[.int .i64 X] TZ)) w.heap.size rv O X w4.heap.size (HO4.out.below hb5) (World.alloc_heap_new w4 _) (by omega) HB5.out.size
                  have HL6 : Hid (KzC W6.heap.size W6 u4 Q) := Lib.hid ((FzC.grown (HK4.out.below hb5) hg6 (fun b e => (HO.out.lt b e).2)).kz)
                  have HO6 := Lib.hid ho6
                  have HB6 := Lib.hid (HB5.out.trans hb6)
                  clear b4 c0 c1 hb5 ho6 hg6 hb6
                  go_wp2_with (at_builtin; refine append_by_run _ rfl _ _ 22 rfl _ _ rfl rfl _ _ hr6 ?_)
                  go_roundw
                  case rel => exact ⟨k + 1, Q, O ++ [X], u4, r6, by omega, by go_num, rfl, rfl, HNX, HL6, HO6, HB6⟩
                  case measure => simp [intOf]; omega
              · have HR : Hid (plS l ops = ([], [], 8)) := Lib.hid (HST.out _ (by rw [HN.out]; exact opS_kind (by omega)) (show (8 : Int) ≠ 0 by decide))
                have m1 : (f == 1) = false := by simpa using hf1
                have m2 : (f == 2) = false := by simpa using hf2
                have m3 : (f == 3) = false := by simpa using hf3
                go_wp2
                go_ret3
                exact ⟨_, _, by rw [HR.out]; rfl, by rw [HR.out]; exact KzC.nil _ _ _ _ (by decide), by rw [HR.out]; exact KzC.nil _ _ _ _ (by decide), HB.out⟩
        · obtain rfl : k = ops.length := by omega
          have HR : Hid (plS l ops = (L, O, 0)) := Lib.hid (by have := HP.out; rwa [List.take_length] at this)
          go_wp2
          go_ret3
          exact ⟨_, _, by rw [HR.out]; rfl, by rw [HR.out]; exact HL.out, by rw [HR.out]; exact HO.out.kz, HB.out⟩
  · rw [playS_bad h]
    obtain ⟨z, hz⟩ : ∃ z, dqE l = z := ⟨_, rfl⟩
    rw [hz] at HC h ⊢
    have h0' : (z != 0) = true := by simpa using h
    have HC := Lib.hid HC
    clear hK hU hz h
    go_enter Try.func24, Try.ntmps24
    go_wp2_with fail
    refine HC.out.mono ?_
    rintro e w1 ⟨rfl, b1⟩
    have HB1 := Lib.hid b1
    clear b1
    go_wp2
    go_ret3
    exact ⟨_, _, rfl, KzC.nil _ _ _ _ (by decide), KzC.nil _ _ _ _ (by decide), HB1.out⟩

end Go.Proofs.Ytmgadcfiaipimaa
