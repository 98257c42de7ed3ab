/-
  The statement PartialorderLeast: the walk, by the contracts of partialorder's functions and the plain mathematics.
-/
import Derived.Test.YtkiomcihomkgoaaPoMath
import Derived.Test.YtkiomcihomkgoaaAwake4
namespace Go.Proofs.Ytkiomcihomkgoaa
open Go.RowKit

theorem within_at (u v : Value) (a : Option Addr) (c : Nat) (za : List (Int × Int)) (l : List (Nat × Nat)) (w : World) (hu : u = .slice a za.length c) (ha : EdgesA w.heap.size w a za) (hl : za.length ≤ 9223372036854775807) (hv : EdgesC w v l) :
    Calls Try.prog 32 #[u, v] w fun e w' => e = .returned (.bool (subE za (edgesOf l))) ∧ Below w.heap.size w w' := by
  obtain ⟨b, d, rfl, hb, h2, _⟩ := hv
  subst hu
  exact within_any a b c d za _ w ha hb hl h2
theorem within_at' (u v : Value) (b : Option Addr) (d : Nat) (zb : List (Int × Int)) (l : List (Nat × Nat)) (w : World) (hv : v = .slice b zb.length d) (hb : EdgesA w.heap.size w b zb) (hl : zb.length ≤ 9223372036854775807) (hu : EdgesC w u l) :
    Calls Try.prog 32 #[u, v] w fun e w' => e = .returned (.bool (subE (edgesOf l) zb)) ∧ Below w.heap.size w w' := by
  obtain ⟨a, c, rfl, ha, h2, _⟩ := hu
  subst hv
  exact within_any a b c d _ zb w ha hb h2 hl
theorem check_at (n : Int) (v : Value) (l : List (Nat × Nat)) (w : World) (h : EdgesC w v l) : Calls Try.prog 15 #[.int .i64 n, v] w fun e w' => e = .returned (.int .i64 (poE n (edgesOf l))) ∧ Below w.heap.size w w' := by
  obtain ⟨a, c, rfl, hA, hl, _⟩ := h
  exact myCheck n a c _ w hA hl

set_option maxRecDepth 100000 in
set_option maxHeartbeats 4000000 in
theorem partialorderLeast_walk (n : Int) (a b : Option Addr) (c d : Nat) (es ms : List (Int × Int)) (w : World) (hE : EdgesA w.heap.size w a es) (hM : EdgesA w.heap.size w b ms) (hle : es.length ≤ 9223372036854775807) (hlm : ms.length ≤ 9223372036854775807) :
    Calls Try.prog 7 #[.int .i64 n, .slice a es.length c, .slice b ms.length d] w fun e w' => e = .returned (.bool true) ∧ Below w.heap.size w w' := by
  have HG := great4_any n a c es w
  cases hg : great4 n es with
  | true =>
    rw [hg] at HG
    have HG := Lib.hid HG
    have HA := Lib.hid (awake_any w)
    clear hE hM hg
    go_enter Try.func7, Try.ntmps7
    go_wp2_with fail
    refine HG.out.mono ?_
    rintro e w1 ⟨rfl, rfl⟩
    go_wp2_with fail
    refine HA.out.mono ?_
    rintro e w1 ⟨rfl, b1⟩
    go_wp2
    go_ret
    exact ⟨rfl, b1⟩
  | false =>
    rw [hg] at HG
    have HG := Lib.hid HG
    by_cases h60 : 60 < ms.length
    · have HA := Lib.hid (awake_any w)
      have hl60 : (60 : Int) < (ms.length : Int) := by omega
      clear hE hM hg
      go_enter Try.func7, Try.ntmps7
      go_wp2_with fail
      refine HG.out.mono ?_
      rintro e w1 ⟨rfl, rfl⟩
      go_wp2_with fail
      refine HA.out.mono ?_
      rintro e w1 ⟨rfl, b1⟩
      go_wp2
      go_ret
      exact ⟨rfl, b1⟩
    · have hl60 : ¬ (60 : Int) < (ms.length : Int) := by omega
      have HN := myGenerate n a c es w hE hle
      by_cases he : genE n es = 0
      · obtain ⟨k1, k2, k3, k4⟩ := least_is he
        have hfin : poE n ms = 0 → subE es ms = true → subE (edgesOf (genL n es)) ms = true := fun h1 h2 => (least_gen hg h1 h2).2
        rw [he] at HN
        generalize genL n es = G at *
        have HN := Lib.hid HN
        have HE := Lib.hid hE
        have HM := Lib.hid hM
        clear hE hM
        go_enter Try.func7, Try.ntmps7
        go_wp2_with fail
        refine HG.out.mono ?_
        rintro e w1 ⟨rfl, rfl⟩
        go_wp2_with fail
        refine HN.out.mono ?_
        rintro e w2 ⟨v2, rfl, e2, b2⟩
        have hc := check_at n v2 G w2 e2
        rw [k1] at hc
        have HC := Lib.hid hc
        have E2 := Lib.hid e2
        have B2 := Lib.hid b2
        clear hc e2 b2
        go_wp2_with fail
        refine HC.out.mono ?_
        rintro e w3 ⟨rfl, b3⟩
        have e3 := E2.out.below b3
        have B3 := Lib.hid (B2.out.trans (b3.mono B2.out.size))
        have hw := within_at _ v2 a c es G w3 rfl ((HE.out.below B3.out).mono B3.out.size) hle e3
        rw [k2] at hw
        have HW := Lib.hid hw
        have E3 := Lib.hid e3
        clear hw e3 b3
        go_wp2_with fail
        refine HW.out.mono ?_
        rintro e w4 ⟨rfl, b4⟩
        have e4 := E3.out.below b4
        have hn := gen_at n v2 G w4 e4
        rw [k3, k4] at hn
        have HN4 := Lib.hid hn
        have B4 := Lib.hid (B3.out.trans (b4.mono B3.out.size))
        have E4 := Lib.hid e4
        clear hn e4 b4
        go_wp2_with fail
        refine HN4.out.mono ?_
        rintro e w5 ⟨v5, rfl, e5, b5⟩
        have e5b := E4.out.below b5
        have hs := Lib.hid (same_yes v2 v5 G w5 e5b e5)
        have E5 := Lib.hid e5b
        have B5 := Lib.hid (B4.out.trans (b5.mono B4.out.size))
        clear e5b e5 b5
        go_wp2_with fail
        refine hs.out.mono ?_
        rintro e w6 ⟨rfl, b6⟩
        have E6 := Lib.hid (E5.out.below b6)
        have B6 := Lib.hid (B5.out.trans (b6.mono B5.out.size))
        have HC6 := Lib.hid (myCheck n b d ms w6 ((HM.out.below B6.out).mono B6.out.size) hlm)
        clear b6
        go_wp2_with fail
        refine HC6.out.mono ?_
        rintro e w7 ⟨rfl, b7⟩
        have E7 := Lib.hid (E6.out.below b7)
        have B7 := Lib.hid (B6.out.trans (b7.mono B6.out.size))
        clear b7
        by_cases hp : poE n ms = 0
        · rw [hp]
          have HW7 := Lib.hid (within_any a b c d es ms w7 ((HE.out.below B7.out).mono B7.out.size) ((HM.out.below B7.out).mono B7.out.size) hle hlm)
          go_wp2_with fail
          refine HW7.out.mono ?_
          rintro e w8 ⟨rfl, b8⟩
          have E8 := Lib.hid (E7.out.below b8)
          have B8 := Lib.hid (B7.out.trans (b8.mono B7.out.size))
          clear b8
          cases hq : subE es ms with
          | true =>
            have hw8 := within_at' v2 _ b d ms G w8 rfl ((HM.out.below B8.out).mono B8.out.size) hlm E8.out
            rw [hfin hp hq] at hw8
            have HW8 := Lib.hid hw8
            clear hw8
            go_wp2_with fail
            refine HW8.out.mono ?_
            rintro e w9 ⟨rfl, b9⟩
            have B9 := Lib.hid (B8.out.trans (b9.mono B8.out.size))
            have HA := Lib.hid (awake_any w9)
            clear b9
            go_wp2_with fail
            refine HA.out.mono ?_
            rintro e w10 ⟨rfl, b10⟩
            go_wp2
            go_ret
            exact ⟨rfl, B9.out.trans (b10.mono B9.out.size)⟩
          | false =>
            have HA := Lib.hid (awake_any w8)
            go_wp2_with fail
            refine HA.out.mono ?_
            rintro e w10 ⟨rfl, b10⟩
            go_wp2
            go_ret
            exact ⟨rfl, B8.out.trans (b10.mono B8.out.size)⟩
        · have HA := Lib.hid (awake_any w7)
          have hpb : (poE n ms != 0) = true := by simp [hp]
          go_wp2_with fail
          refine HA.out.mono ?_
          rintro e w10 ⟨rfl, b10⟩
          go_wp2
          go_ret
          exact ⟨rfl, B7.out.trans (b10.mono B7.out.size)⟩
      · have hno : poE n ms = 0 → subE es ms = false := by
          intro h1
          cases hq : subE es ms with
          | false => rfl
          | true => exact absurd (least_gen hg h1 hq).1 he
        have hbn : (genE n es != 0) = true := by simp [he]
        rw [genL_err rfl he] at HN
        generalize genE n es = E at *
        have HN := Lib.hid HN
        have HE := Lib.hid hE
        have HM := Lib.hid hM
        clear hE hM
        go_enter Try.func7, Try.ntmps7
        go_wp2_with fail
        refine HG.out.mono ?_
        rintro e w1 ⟨rfl, rfl⟩
        go_wp2_with fail
        refine HN.out.mono ?_
        rintro e w2 ⟨v2, rfl, ⟨a2, c2, rfl, _⟩, b2⟩
        have HC := Lib.hid (myCheck n b d ms w2 ((HM.out.below b2).mono b2.size) hlm)
        have B2 := Lib.hid b2
        clear b2
        simp only [edgesOf, List.map_nil, List.length_nil]
        go_wp2_with fail
        refine HC.out.mono ?_
        rintro e w7 ⟨rfl, b7⟩
        have B7 := Lib.hid (B2.out.trans (b7.mono B2.out.size))
        clear b7
        by_cases hp : poE n ms = 0
        · have hw7 := within_any a b c d es ms w7 ((HE.out.below B7.out).mono B7.out.size) ((HM.out.below B7.out).mono B7.out.size) hle hlm
          rw [hno hp] at hw7
          have HW7 := Lib.hid hw7
          rw [hp]
          clear hw7
          go_wp2_with fail
          refine HW7.out.mono ?_
          rintro e w8 ⟨rfl, b8⟩
          have B8 := Lib.hid (B7.out.trans (b8.mono B7.out.size))
          have HA := Lib.hid (awake_any w8)
          clear b8
          go_wp2_with fail
          refine HA.out.mono ?_
          rintro e w10 ⟨rfl, b10⟩
          go_wp2
          go_ret
          exact ⟨rfl, B8.out.trans (b10.mono B8.out.size)⟩
        · have HA := Lib.hid (awake_any w7)
          have hpb : (poE n ms != 0) = true := by simp [hp]
          go_wp2_with fail
          refine HA.out.mono ?_
          rintro e w10 ⟨rfl, b10⟩
          go_wp2
          go_ret
          exact ⟨rfl, B7.out.trans (b10.mono B7.out.size)⟩

end Go.Proofs.Ytkiomcihomkgoaa
