/-
  The statement PartialorderExtensions: the walk.
-/
import Derived.Test.YtbfeiegjhcjbnaaRefExt
import Derived.Test.YtbfeiegjhcjbnaaAwake4
namespace Go.Proofs.Ytbfeiegjhcjbnaa
open Go.RowKit

set_option maxRecDepth 100000 in
set_option maxHeartbeats 8000000 in
theorem partialorderExtensions_walk (n most : Int) (a : Option Addr) (c : Nat) (es : List (Int × Int)) (w : World) (hE : EdgesA w.heap.size w a es) (hle : es.length ≤ 9223372036854775807) :
    Calls Try.prog 5 #[.int .i64 n, .slice a es.length c, .int .i64 most] w fun e w' => e = .returned (.bool true) ∧ Below w.heap.size w w' := by
  have HG := great4_any n a c es w
  have HA1 := Lib.hid (awake_any w)
  have H1 : Hid (Calls Try.prog 28 #[.int .i64 n, .slice a es.length c, .int .i64 most] w (RetLC (exsL n es most) (exsE n es most) w)) := Lib.hid (myExtensions n most a c es w hE hle)
  have H2 : Hid (∀ W, Below w.heap.size w W → Calls Try.prog 29 #[.int .i64 n, .slice a es.length c, .int .i64 most] W (RetLC (exsL n es most) (exsE n es most) W)) := by
    have HE := Lib.hid hE
    exact Lib.hid (fun W h => refExtensions_any n most a c es W ((HE.out.below h).mono h.size) hle)
  clear hE
  generalize exsL n es most = L at *
  generalize exsE n es most = x at *
  have xx : (x == x) = true := by simp
  cases hg : great4 n es with
  | true =>
    rw [hg] at HG
    have HG := Lib.hid HG
    clear hg
    go_enter Try.func5, Try.ntmps5
    go_wp2_with fail
    refine HG.out.mono ?_
    rintro e w1 ⟨rfl, rfl⟩
    go_wp2_with fail
    refine HA1.out.mono ?_
    rintro e w1 ⟨rfl, b1⟩
    go_wp2
    go_ret
    exact ⟨rfl, b1⟩
  | false =>
    rw [hg] at HG
    have HG := Lib.hid HG
    clear hg
    by_cases h8 : n = 8
    · subst h8
      go_enter Try.func5, Try.ntmps5
      go_wp2_with fail
      refine HG.out.mono ?_
      rintro e w1 ⟨rfl, rfl⟩
      go_wp2_with fail
      refine HA1.out.mono ?_
      rintro e w1 ⟨rfl, b1⟩
      go_wp2
      go_ret
      exact ⟨rfl, b1⟩
    · have h8b : (n == 8) = false := by simpa using h8
      by_cases h1 : 100 < most
      · by_cases h5 : most ≤ 5000
        · skip
          go_enter Try.func5, Try.ntmps5
          go_wp2_with fail
          refine HG.out.mono ?_
          rintro e w1 ⟨rfl, rfl⟩
          go_wp2_with fail
          refine HA1.out.mono ?_
          rintro e w1 ⟨rfl, b1⟩
          go_wp2
          go_ret
          exact ⟨rfl, b1⟩
        · skip
          go_enter Try.func5, Try.ntmps5
          go_wp2_with fail
          refine HG.out.mono ?_
          rintro e w1 ⟨rfl, rfl⟩
          go_wp2_with fail
          refine H1.out.mono ?_
          rintro e w1 ⟨v1, rfl, e1, b1⟩
          have E1 := Lib.hid e1
          have B1 := Lib.hid b1
          have K2 := Lib.hid (H2.out w1 b1)
          clear e1 b1
          go_wp2_with fail
          refine K2.out.mono ?_
          rintro e w2 ⟨v2, rfl, e2, b2⟩
          have K3 := Lib.hid (sameLists_yes v1 v2 L w2 (E1.out.below b2) e2)
          have B2 := Lib.hid (B1.out.trans (b2.mono B1.out.size))
          clear e2 b2
          go_wp2_with fail
          refine K3.out.mono ?_
          rintro e w3 ⟨rfl, b3⟩
          have B3 := Lib.hid (B2.out.trans (b3.mono B2.out.size))
          have K4 := Lib.hid (awake_any w3)
          clear b3
          go_wp2_with fail
          refine K4.out.mono ?_
          rintro e w4 ⟨rfl, b4⟩
          go_wp2
          go_ret
          exact ⟨rfl, B3.out.trans (b4.mono B3.out.size)⟩
      · skip
        go_enter Try.func5, Try.ntmps5
        go_wp2_with fail
        refine HG.out.mono ?_
        rintro e w1 ⟨rfl, rfl⟩
        go_wp2_with fail
        refine H1.out.mono ?_
        rintro e w1 ⟨v1, rfl, e1, b1⟩
        have E1 := Lib.hid e1
        have B1 := Lib.hid b1
        have K2 := Lib.hid (H2.out w1 b1)
        clear e1 b1
        go_wp2_with fail
        refine K2.out.mono ?_
        rintro e w2 ⟨v2, rfl, e2, b2⟩
        have K3 := Lib.hid (sameLists_yes v1 v2 L w2 (E1.out.below b2) e2)
        have B2 := Lib.hid (B1.out.trans (b2.mono B1.out.size))
        clear e2 b2
        go_wp2_with fail
        refine K3.out.mono ?_
        rintro e w3 ⟨rfl, b3⟩
        have B3 := Lib.hid (B2.out.trans (b3.mono B2.out.size))
        have K4 := Lib.hid (awake_any w3)
        clear b3
        go_wp2_with fail
        refine K4.out.mono ?_
        rintro e w4 ⟨rfl, b4⟩
        go_wp2
        go_ret
        exact ⟨rfl, B3.out.trans (b4.mono B3.out.size)⟩

end Go.Proofs.Ytbfeiegjhcjbnaa
