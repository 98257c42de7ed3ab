/-
  The statement PartialorderLinear: the walk.
-/
import Derived.Test.YtkiomcihomkgoaaPoCompare
import Derived.Test.YtkiomcihomkgoaaPoMeet
namespace Go.Proofs.Ytkiomcihomkgoaa
open Go.RowKit

theorem lin_law {n : Int} {es : List (Int × Int)} (hp : poE n es = 0) (h6 : n ≤ 6) :
    exsE n es 720 = 0 ∧ (exsL n es 720).length ≤ 720 ∧ (exsL n es 720).Pairwise LexLt ∧ 0 < (exsL n es 720).length ∧ leastL n es = ((exsL n es 720)[0]?).getD [] ∧
      (∀ x, x ∈ exsL n es 720 → exB n es (intsOf x) = true) ∧ ∀ os, exB n es os = (exsL n es 720).any fun x => decide (intsOf x = os) := by
  obtain ⟨m1, m2, _⟩ := meet_law hp h6
  obtain ⟨o1, _⟩ := exs_one hp
  obtain ⟨x0, hx0⟩ := exs_some hp
  obtain ⟨N, rfl, hN, _, hok, _⟩ := po_ok hp
  have hL := gN_low hok
  have hfac : fac N ≤ 720 := by
    have : N = 0 ∨ N = 1 ∨ N = 2 ∨ N = 3 ∨ N = 4 ∨ N = 5 ∨ N = 6 := by omega
    rcases this with rfl | rfl | rfl | rfl | rfl | rfl | rfl <;> decide
  have hcnt := ext_count hL N [] (OrdAll.nil _ _) (by simp)
  have hX : exsL (N : Int) es 720 = extN N (relG (gN es)) N [] := by
    unfold exsL
    rw [if_pos m1, Int.toNat_natCast]
    exact List.take_of_length_le (by show _ ≤ 720; omega)
  have hB : ∀ os, exB (N : Int) es os = (extN N (relG (gN es)) N []).any fun x => decide (intsOf x = os) := by
    intro os
    unfold exB
    rw [decide_eq_true hp, Bool.true_and, Int.toNat_natCast]
  rw [Int.toNat_natCast] at hx0
  have hpos : 0 < (extN N (relG (gN es)) N []).length := List.length_pos_of_mem hx0
  have h1 : exsL (N : Int) es 1 = (extN N (relG (gN es)) N []).take 1 := by
    unfold exsL
    rw [if_pos o1, Int.toNat_natCast]
    rfl
  refine ⟨m1, m2, by rw [hX]; exact ext_sorted _ _, by rw [hX]; exact hpos, ?_, ?_, by rw [hX]; exact hB⟩
  · unfold leastL
    rw [h1, hX]
    simp
  · intro x hx
    rw [hX] at hx
    rw [hB, List.any_eq_true]
    exact ⟨x, hx, by simp⟩
theorem sameI_at (u v : Value) (x : List Nat) (os : List Int) (ao : Option Addr) (co m : Nat) (w : World) (hu : IntsC w u x) (hv : v = .slice ao os.length co) (hI : IntsA m w ao os) (hl : os.length ≤ 9223372036854775807) :
    Calls Try.prog 28 #[u, v] w fun e w' => e = .returned (.bool (decide (intsOf x = os))) ∧ ∃ q, w' = w.drewN q := by
  obtain ⟨a, c, rfl, h, hn⟩ := hu
  subst hv
  exact sameInts_any _ _ a ao c co _ os w h hI hn hl

set_option maxRecDepth 100000 in
theorem pred_any (B Bx m : Nat) (ao : Option Addr) (co : Nat) (os : List Int) (ll : List (List Nat)) (w : World) (hc : w.cell? ⟨Bx, 0, none⟩ = some (.slice ao os.length co)) (hI : IntsA m w ao os) (hm : m ≤ B) (hl : os.length ≤ 9223372036854775807) (hB : Bx < B) :
    PredL B 38 #[.pointer (some ⟨Bx, 0, none⟩)] ll (fun x => decide (intsOf x = os)) w := by
  intro x v W _ hv hb
  have c1 := (hb.cell (p := ⟨Bx, 0, none⟩) hB).trans hc
  have hS := Lib.hid (sameI_at v _ x os ao co m W hv rfl (hI.below ⟨hb.os, hb.tape, hb.output, hb.size, fun k hk => hb.block k (by omega)⟩) hl)
  have HB := Lib.hid hb
  clear hc hI hv hb
  go_enter Try.func38, Try.ntmps38
  go_wp2_with fail
  refine hS.out.mono ?_
  rintro e w1 ⟨rfl, q, hq⟩
  have b1 : Below B w w1 := by rw [hq]; exact below_drewN' HB.out
  clear hq
  go_wp2
  go_ret
  exact ⟨rfl, b1⟩

set_option maxRecDepth 100000 in
set_option maxHeartbeats 8000000 in
theorem partialorderLinear_walk (n : Int) (a : Option Addr) (c : Nat) (es : List (Int × Int)) (ao : Option Addr) (co : Nat) (os : List Int) (w : World) (hE : EdgesA w.heap.size w a es) (hle : es.length ≤ 9223372036854775807) (hO : IntsA w.heap.size w ao os) (hlo : os.length ≤ 9223372036854775807) :
    Calls Try.prog 9 #[.int .i64 n, .slice a es.length c, .slice ao os.length co] w fun e w' => e = .returned (.bool true) ∧ Below w.heap.size w w' := by
  obtain ⟨w1, hw1⟩ : ∃ x, w.alloc (.cells #[.slice ao os.length co] 23) = x := ⟨_, rfl⟩
  have b1 : Below w.heap.size w w1 := by rw [← hw1]; exact (Below.refl _ w).alloc (Nat.le_refl _) _
  have q1 : w1.cell? ⟨w.heap.size, 0, none⟩ = some (.slice ao os.length co) := by rw [← hw1]; simp
  have z1 : w.heap.size < w1.heap.size := by rw [← hw1]; simp
  have E1 := (hE.below b1).mono b1.size
  have O1 := (hO.below b1).mono b1.size
  have HG := great4_any n a c es w1
  have HA1 := Lib.hid (awake_any w1)
  have HW := Lib.hid hw1
  have B1 := Lib.hid b1
  clear hE hO hw1 b1
  cases hg : great4 n es with
  | true =>
    rw [hg] at HG
    have HG := Lib.hid HG
    clear hg E1 O1
    go_enter Try.func9, Try.ntmps9
    go_wp2_with fail
    rw [HW.out]
    refine HG.out.mono ?_
    rintro e w2 ⟨rfl, rfl⟩
    go_wp2_with fail
    refine HA1.out.mono ?_
    rintro e w3 ⟨rfl, b3⟩
    go_wp2
    go_ret
    exact ⟨rfl, B1.out.trans (b3.mono B1.out.size)⟩
  | false =>
    rw [hg] at HG
    have HG := Lib.hid HG
    by_cases h6 : n ≤ 6
    · have h6' : ¬ (6 : Int) < n := by omega
      by_cases h20 : 20 < os.length
      · have h20' : (20 : Int) < (os.length : Int) := by omega
        clear hg E1 O1 h6
        go_enter Try.func9, Try.ntmps9
        go_wp2_with fail
        rw [HW.out]
        refine HG.out.mono ?_
        rintro e w2 ⟨rfl, rfl⟩
        go_wp2_with fail
        refine HA1.out.mono ?_
        rintro e w3 ⟨rfl, b3⟩
        go_wp2
        go_ret
        exact ⟨rfl, B1.out.trans (b3.mono B1.out.size)⟩
      · have h20' : ¬ (20 : Int) < (os.length : Int) := by omega
        have HX := myExtensions n 720 a c es w1 E1 hle
        by_cases hp : poE n es = 0
        · obtain ⟨m1, m2, m3, m4, m5, m6, m7⟩ := lin_law hp h6
          rw [m1] at HX
          generalize exsL n es 720 = M at *
          have hMl := listsOf_length M
          have HX := Lib.hid HX
          have HE := Lib.hid E1
          have HO := Lib.hid O1
          have HM3 := Lib.hid m3
          have HM6 := Lib.hid m6
          have HM7 := Lib.hid m7
          have m4' : (0 : Int) < (M.length : Int) := by omega
          have m4'' : ((M.length : Int) == 0) = false := beq_eq_false_iff_ne.2 (by omega)
          clear E1 O1 m1 m3 m6 m7 hg h6
          go_enter Try.func9, Try.ntmps9
          go_wp2_with fail
          rw [HW.out]
          refine HG.out.mono ?_
          rintro e w2 ⟨rfl, rfl⟩
          go_wp2_with fail
          refine HX.out.mono ?_
          rintro e w2 ⟨v2, rfl, l2, b2⟩
          have hls := least_any n a c es w2 ((HE.out.below b2).mono b2.size) hle
          rw [hp, m5] at hls
          have HLS := Lib.hid hls
          have HB2 := Lib.hid b2
          have HL2 := Lib.hid l2
          clear hls b2 l2 hp m5
          go_wp2_with fail
          refine HLS.out.mono ?_
          rintro e w3 ⟨v3, rfl, i3, b3⟩
          have hb3 := HB2.out.trans (b3.mono HB2.out.size)
          have l3 := HL2.out.below b3
          have q3 := (hb3.cell (p := ⟨w.heap.size, 0, none⟩) z1).trans q1
          obtain ⟨am, cm, rfl, hLm, hnm⟩ := l3
          rw [hMl] at hnm ⊢
          obtain ⟨b, off, u, rfl, hc0, hI0⟩ := lists_at hLm m4
          rw [Nat.add_zero] at hc0
          have hg0 : (M[0]?).getD [] = M[0] := by rw [List.getElem?_eq_getElem m4]; rfl
          rw [hg0] at i3
          have hsm : Hid (Calls Try.prog 28 #[u, v3] w3 fun e w' => e = .returned (.bool true) ∧ Below w3.heap.size w3 w') := Lib.hid (by
            obtain ⟨a', c', rfl, h', n'⟩ := i3
            refine (sameI_at u _ M[0] (intsOf M[0]) a' c' _ w3 hI0 rfl h' n').mono ?_
            rintro e w' ⟨rfl, q, rfl⟩
            exact ⟨by rw [decide_eq_true rfl], below_drewN' (Below.refl _ _)⟩)
          have HB3 := Lib.hid hb3
          have HL3 := Lib.hid hLm
          clear i3 b3 hb3 hLm hI0 hg0
          go_wp2_with fail
          refine hsm.out.mono ?_
          rintro e w4 ⟨rfl, b4⟩
          have HB4 := Lib.hid (HB3.out.trans (b4.mono HB3.out.size))
          have HL4 : Hid (ListsA w4.heap.size w4 (some ⟨b, off, none⟩) (listsOf M)) := Lib.hid ((HL3.out.below b4).mono b4.size)
          clear hsm b4 HL3 HB3 hc0 q3 HL2 HB2 HLS
          go_wp2_with fail
          go_loopw [81] (fun x wr => ∃ k : Nat, k ≤ M.length ∧ x = .int .i64 k ∧ Hid (Below w4.heap.size w4 wr)) (fun x _ => M.length - (intOf x).toNat)
          case atStart => exact ⟨0, Nat.zero_le _, rfl, Lib.hid (Below.refl _ _)⟩
          case round =>
            obtain ⟨k, hk, rfl, HB⟩ := hrel
            have hbr := HB4.out.trans (HB.out.mono HB4.out.size)
            have hLr := (HL4.out.below HB.out).mono HB.out.size
            have HBR := Lib.hid hbr
            by_cases hkt : k < M.length
            · have k1 : (k : Int) < (M.length : Int) := by omega
              obtain ⟨b', off', u', e', hck, hIk⟩ := lists_at hLr hkt
              obtain ⟨rfl, rfl⟩ : b = b' ∧ off = off' := by injection e' with e'; injection e' with e1 e2 _; exact ⟨e1, e2⟩
              have hex := extends_at n u' es a c M[k] wr ((HE.out.below hbr).mono hbr.size) hle hIk
              rw [HM6.out _ (List.getElem_mem hkt)] at hex
              have HEX := Lib.hid hex
              by_cases h0 : k = 0
              · subst h0
                rw [Nat.add_zero] at hck
                clear hex hLr hbr hIk e'
                go_wp2_with fail
                refine HEX.out.mono ?_
                rintro e w5 ⟨rfl, b5⟩
                have HB5 := Lib.hid (HB.out.trans (b5.mono HB.out.size))
                clear b5
                go_wp2
                go_roundw
                case rel => exact ⟨0 + 1, by omega, by go_num, HB5⟩
                case measure => simp [intOf]; omega
              · obtain ⟨m, rfl⟩ : ∃ m, k = m + 1 := ⟨k - 1, by omega⟩
                obtain ⟨b', off', u'', e'', hck', hIk'⟩ := lists_at hLr (show m < M.length by omega)
                obtain ⟨rfl, rfl⟩ : b = b' ∧ off = off' := by injection e'' with e''; injection e'' with e1 e2 _; exact ⟨e1, e2⟩
                have hlex : LexLt (M[m]'(by omega)) M[m + 1] := List.pairwise_iff_getElem.1 HM3.out m (m + 1) (by omega) hkt (by omega)
                have hblk : b < wr.heap.size := World.block_lt_of_cell? _ _ hck
                have HIK := Lib.hid hIk
                have HIK' := Lib.hid hIk'
                have m0 : (0 : Int) < (m : Int) + 1 := by omega
                clear hex hLr hbr hIk hIk' e' e''
                go_wp2_with fail
                refine HEX.out.mono ?_
                rintro e w5 ⟨rfl, b5⟩
                have p5 := (b5.cell (p := ⟨b, off + m, none⟩) hblk).trans hck'
                have HCMP := Lib.hid (compare_any u'' u' _ _ w5 (HIK'.out.below b5) (HIK.out.below b5) hlex)
                have HB5 := Lib.hid (HB.out.trans (b5.mono HB.out.size))
                clear b5 hlex HIK HIK' hck hck' HEX
                go_wp2_with fail
                refine HCMP.out.mono ?_
                rintro e w6 ⟨rfl, rfl⟩
                go_wp2
                go_roundw
                case rel => exact ⟨m + 1 + 1, by omega, by go_num, HB5⟩
                case measure => simp [intOf]; omega
            · obtain rfl : k = M.length := by omega
              have qr := (hbr.cell (p := ⟨w.heap.size, 0, none⟩) z1).trans q1
              have hzr : w.heap.size < wr.heap.size := by have := hbr.size; omega
              have hor := (HO.out.below hbr).mono hbr.size
              have hcf := containsFunc_any 38 #[.pointer (some ⟨w.heap.size, 0, none⟩)] (.slice (some ⟨b, off, none⟩) M.length cm) M (fun x => decide (intsOf x = os)) wr (fun _ _ => rfl) ⟨_, cm, by rw [hMl], hLr, by rw [hMl]; exact hnm⟩ (pred_any wr.heap.size w.heap.size wr.heap.size ao co os M wr qr hor (Nat.le_refl _) hlo hzr)
              rw [← HM7.out os] at hcf
              have HCF := Lib.hid hcf
              clear hcf hLr hor
              go_wp2_with fail
              refine HCF.out.mono ?_
              rintro e w5 ⟨rfl, b5⟩
              have hb5 := hbr.trans (b5.mono hbr.size)
              have q5 := (hb5.cell (p := ⟨w.heap.size, 0, none⟩) z1).trans q1
              have HEX := Lib.hid (extends_any n a c es ao co os w5 ((HE.out.below hb5).mono hb5.size) hle ((HO.out.below hb5).mono hb5.size) hlo)
              have HB5 := Lib.hid hb5
              clear b5 hb5 hbr qr HCF HM7 HM6
              generalize exB n es os = z at *
              cases z with
              | true =>
                go_wp2_with fail
                refine HEX.out.mono ?_
                rintro e w6 ⟨rfl, b6⟩
                have HB6 := Lib.hid (HB5.out.trans (b6.mono HB5.out.size))
                have HA := Lib.hid (awake_any w6)
                clear b6
                go_wp2_with fail
                refine HA.out.mono ?_
                rintro e w7 ⟨rfl, b7⟩
                go_wp2
                go_ret
                exact ⟨rfl, B1.out.trans ((HB6.out.trans (b7.mono HB6.out.size)).mono B1.out.size)⟩
              | false =>
                go_wp2_with fail
                refine HEX.out.mono ?_
                rintro e w6 ⟨rfl, b6⟩
                have HB6 := Lib.hid (HB5.out.trans (b6.mono HB5.out.size))
                have HA := Lib.hid (awake_any w6)
                clear b6
                go_wp2_with fail
                refine HA.out.mono ?_
                rintro e w7 ⟨rfl, b7⟩
                go_wp2
                go_ret
                exact ⟨rfl, B1.out.trans ((HB6.out.trans (b7.mono HB6.out.size)).mono B1.out.size)⟩
        · have h1 : exsE n es 720 = poE n es := by unfold exsE; rw [if_neg hp]
          have h2 : exsL n es 720 = [] := by unfold exsL; rw [if_neg (by rw [h1]; exact hp)]
          have h3 : leastL n es = [] := by unfold leastL exsL exsE; rw [if_neg hp, if_neg hp]; rfl
          have h4 : exB n es os = false := by unfold exB; rw [decide_eq_false hp]; rfl
          have hpb : (poE n es != 0) = true := by simp [hp]
          rw [h1, h2] at HX
          have HX := Lib.hid HX
          have HE := Lib.hid E1
          have HO := Lib.hid O1
          clear E1 O1 h1 h2 hg h6
          go_enter Try.func9, Try.ntmps9
          go_wp2_with fail
          rw [HW.out]
          refine HG.out.mono ?_
          rintro e w2 ⟨rfl, rfl⟩
          go_wp2_with fail
          refine HX.out.mono ?_
          rintro e w2 ⟨v2, rfl, ⟨am, cm, rfl, _⟩, b2⟩
          have hls := least_any n a c es w2 ((HE.out.below b2).mono b2.size) hle
          rw [h3] at hls
          have HLS := Lib.hid hls
          have HB2 := Lib.hid b2
          clear hls b2
          go_wp2_with fail
          refine HLS.out.mono ?_
          rintro e w3 ⟨v3, rfl, ⟨al, cl, rfl, _⟩, b3⟩
          have hb3 := HB2.out.trans (b3.mono HB2.out.size)
          have q3 := (hb3.cell (p := ⟨w.heap.size, 0, none⟩) z1).trans q1
          have hex := extends_any n a c es ao co os w3 ((HE.out.below hb3).mono hb3.size) hle ((HO.out.below hb3).mono hb3.size) hlo
          rw [h4] at hex
          have HEX := Lib.hid hex
          have HB3 := Lib.hid hb3
          clear hex b3 hb3
          simp only [listsOf, intsOf, List.map_nil, List.length_nil]
          go_wp2_with fail
          refine HEX.out.mono ?_
          rintro e w4 ⟨rfl, b4⟩
          have HB4 := Lib.hid (HB3.out.trans (b4.mono HB3.out.size))
          have HA := Lib.hid (awake_any w4)
          clear b4
          go_wp2_with fail
          refine HA.out.mono ?_
          rintro e w5 ⟨rfl, b5⟩
          go_wp2
          go_ret
          exact ⟨rfl, B1.out.trans ((HB4.out.trans (b5.mono HB4.out.size)).mono B1.out.size)⟩
    · have h6' : (6 : Int) < n := by omega
      clear hg E1 O1
      go_enter Try.func9, Try.ntmps9
      go_wp2_with fail
      rw [HW.out]
      refine HG.out.mono ?_
      rintro e w2 ⟨rfl, rfl⟩
      go_wp2_with fail
      refine HA1.out.mono ?_
      rintro e w3 ⟨rfl, b3⟩
      go_wp2
      go_ret
      exact ⟨rfl, B1.out.trans (b3.mono B1.out.size)⟩

end Go.Proofs.Ytkiomcihomkgoaa
