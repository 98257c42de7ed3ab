/-
  The statement PartialorderGenerate: the walk.
-/
import Derived.Test.YtkiomcihomkgoaaRefGen
import Derived.Test.YtkiomcihomkgoaaRefCov
import Derived.Test.YtkiomcihomkgoaaRefLeast
import Derived.Test.YtkiomcihomkgoaaAwake4
namespace Go.Proofs.Ytkiomcihomkgoaa
open Go.RowKit

theorem sameInts_yes (u v : Value) (x : List Nat) (w : World) (hu : IntsC w u x) (hv : IntsC w v x) :
    Calls Try.prog 28 #[u, v] w fun e w' => e = .returned (.bool true) ∧ Below w.heap.size w w' := by
  obtain ⟨a, c, rfl, ha, h1⟩ := hu
  obtain ⟨b, d, rfl, hb, h2⟩ := hv
  refine (sameInts_any _ _ a b c d _ _ w ha hb h1 h2).mono ?_
  rintro e w' ⟨rfl, q, rfl⟩
  exact ⟨by rw [decide_eq_true rfl], below_drewN' (Below.refl _ _)⟩

set_option maxRecDepth 100000 in
set_option maxHeartbeats 8000000 in
theorem partialorderGenerate_walk (n : Int) (a : Option Addr) (c : Nat) (es : List (Int × Int)) (w : World) (hE : EdgesA w.heap.size w a es) (hle : es.length ≤ 9223372036854775807) :
    Calls Try.prog 4 #[.int .i64 n, .slice a es.length c] w fun e w' => e = .returned (.bool true) ∧ Below w.heap.size w w' := by
  have HG := great4_any n a c es w
  cases hg : great4 n es with
  | true =>
    rw [hg] at HG
    have HG := Lib.hid HG
    have HA := Lib.hid (awake_any w)
    clear hE hg
    go_enter Try.func4, Try.ntmps4
    go_wp2_with fail
    refine HG.out.mono ?_
    rintro e w1 ⟨rfl, rfl⟩
    go_wp2_with fail
    refine HA.out.mono ?_
    rintro e w1 ⟨rfl, b1⟩
    go_wp2
    go_ret
    exact ⟨rfl, b1⟩
  | false =>
    rw [hg] at HG
    have HG := Lib.hid HG
    have HE := Lib.hid hE
    have H1 : Hid (∀ W, Below w.heap.size w W → Calls Try.prog 22 #[.int .i64 n, .slice a es.length c] W (RetEC (genL n es) (genE n es) W)) := Lib.hid (fun W h => myGenerate n a c es W ((HE.out.below h).mono h.size) hle)
    have H2 : Hid (∀ W, Below w.heap.size w W → Calls Try.prog 23 #[.int .i64 n, .slice a es.length c] W (RetEC (genL n es) (genE n es) W)) := Lib.hid (fun W h => (refGenerate_any n a c es W ((HE.out.below h).mono h.size) hle).mono (by
      rintro e w1 ⟨v, rfl, hr, b1⟩
      exact ⟨v, rfl, hr.known, b1⟩))
    have H3 : Hid (∀ W, Below w.heap.size w W → Calls Try.prog 24 #[.int .i64 n, .slice a es.length c] W (RetEC (covL n es) (poE n es) W)) := Lib.hid (fun W h => myCovers n a c es W ((HE.out.below h).mono h.size) hle)
    have H4 : Hid (∀ W, Below w.heap.size w W → Calls Try.prog 25 #[.int .i64 n, .slice a es.length c] W (RetEC (covL n es) (poE n es) W)) := Lib.hid (fun W h => (refCovers_any n a c es W ((HE.out.below h).mono h.size) hle).mono (by
      rintro e w1 ⟨v, rfl, hr, b1⟩
      exact ⟨v, rfl, hr.known, b1⟩))
    have H5 : Hid (∀ W, Below w.heap.size w W → Calls Try.prog 26 #[.int .i64 n, .slice a es.length c] W (RetIC (leastL n es) (poE n es) W)) := Lib.hid (fun W h => least_any n a c es W ((HE.out.below h).mono h.size) hle)
    have H6 : Hid (∀ W, Below w.heap.size w W → Calls Try.prog 27 #[.int .i64 n, .slice a es.length c] W (RetIC (leastL n es) (poE n es) W)) := Lib.hid (fun W h => refLeast_any n a c es W ((HE.out.below h).mono h.size) hle)
    clear hE hg
    generalize genL n es = L1 at *
    generalize genE n es = x1 at *
    generalize covL n es = L2 at *
    generalize poE n es = x2 at *
    generalize leastL n es = L3 at *
    go_enter Try.func4, Try.ntmps4
    go_wp2_with fail
    refine HG.out.mono ?_
    rintro e w1 ⟨rfl, rfl⟩
    have K1 := Lib.hid (H1.out w1 (Below.refl _ _))
    go_wp2_with fail
    refine K1.out.mono ?_
    rintro e w2 ⟨v2, rfl, e2, b2⟩
    have E2 := Lib.hid e2
    have B2 := Lib.hid b2
    have K2 := Lib.hid (H2.out w2 b2)
    clear e2 b2
    go_wp2_with fail
    refine K2.out.mono ?_
    rintro e w3 ⟨v3, rfl, e3, b3⟩
    have A3 := Lib.hid (E2.out.below b3)
    have E3 := Lib.hid e3
    have B3 := Lib.hid (B2.out.trans (b3.mono B2.out.size))
    have K3 := Lib.hid (H3.out w3 B3.out)
    clear e3 b3
    go_wp2_with fail
    refine K3.out.mono ?_
    rintro e w4 ⟨v4, rfl, e4, b4⟩
    have A4 := Lib.hid (A3.out.below b4)
    have C4 := Lib.hid (E3.out.below b4)
    have E4 := Lib.hid e4
    have B4 := Lib.hid (B3.out.trans (b4.mono B3.out.size))
    have K4 := Lib.hid (H4.out w4 B4.out)
    clear e4 b4
    go_wp2_with fail
    refine K4.out.mono ?_
    rintro e w5 ⟨v5, rfl, e5, b5⟩
    have A5 := Lib.hid (A4.out.below b5)
    have C5 := Lib.hid (C4.out.below b5)
    have D5 := Lib.hid (E4.out.below b5)
    have E5 := Lib.hid e5
    have B5 := Lib.hid (B4.out.trans (b5.mono B4.out.size))
    have K5 := Lib.hid (H5.out w5 B5.out)
    clear e5 b5
    go_wp2_with fail
    refine K5.out.mono ?_
    rintro e w6 ⟨v6, rfl, e6, b6⟩
    have A6 := Lib.hid (A5.out.below b6)
    have C6 := Lib.hid (C5.out.below b6)
    have D6 := Lib.hid (D5.out.below b6)
    have F6 := Lib.hid (E5.out.below b6)
    have E6 := Lib.hid e6
    have B6 := Lib.hid (B5.out.trans (b6.mono B5.out.size))
    have K6 := Lib.hid (H6.out w6 B6.out)
    clear e6 b6
    go_wp2_with fail
    refine K6.out.mono ?_
    rintro e w7 ⟨v7, rfl, e7, b7⟩
    have D7 := Lib.hid (D6.out.below b7)
    have F7 := Lib.hid (F6.out.below b7)
    have G7 := Lib.hid (E6.out.below b7)
    have E7 := Lib.hid e7
    have B7 := Lib.hid (B6.out.trans (b7.mono B6.out.size))
    have S7 := Lib.hid (same_yes v2 v3 L1 w7 (A6.out.below b7) (C6.out.below b7))
    clear e7 b7
    go_wp2_with fail
    refine S7.out.mono ?_
    rintro e w8 ⟨rfl, b8⟩
    have G8 := Lib.hid (G7.out.below b8)
    have E8 := Lib.hid (E7.out.below b8)
    have B8 := Lib.hid (B7.out.trans (b8.mono B7.out.size))
    have S8 := Lib.hid (same_yes v4 v5 L2 w8 (D7.out.below b8) (F7.out.below b8))
    clear b8
    go_wp2_with fail
    refine S8.out.mono ?_
    rintro e w9 ⟨rfl, b9⟩
    have B9 := Lib.hid (B8.out.trans (b9.mono B8.out.size))
    have S9 := Lib.hid (sameInts_yes v6 v7 L3 w9 (G8.out.below b9) (E8.out.below b9))
    clear b9
    go_wp2_with fail
    refine S9.out.mono ?_
    rintro e w10 ⟨rfl, b10⟩
    have B10 := Lib.hid (B9.out.trans (b10.mono B9.out.size))
    have HA := Lib.hid (awake_any w10)
    clear b10
    go_wp2_with fail
    refine HA.out.mono ?_
    rintro e w11 ⟨rfl, b11⟩
    go_wp2
    go_ret
    exact ⟨rfl, B10.out.trans (b11.mono B10.out.size)⟩

end Go.Proofs.Ytkiomcihomkgoaa
