/-
  The statement PartialorderCheck: the walk.
-/
import Derived.Test.YtkiomcihomkgoaaRefCon
import Derived.Test.YtkiomcihomkgoaaRefExtd
import Derived.Test.YtkiomcihomkgoaaAwake4
namespace Go.Proofs.Ytkiomcihomkgoaa
open Go.RowKit

set_option maxRecDepth 100000 in
set_option maxHeartbeats 8000000 in
theorem partialorderCheck_walk (n : Int) (a : Option Addr) (c : Nat) (es : List (Int × Int)) (ao : Option Addr) (co : Nat) (os : List Int) (w : World) (hE : EdgesA w.heap.size w a es) (hle : es.length ≤ 9223372036854775807) (hO : IntsA w.heap.size w ao os) (hlo : os.length ≤ 9223372036854775807) :
    Calls Try.prog 3 #[.int .i64 n, .slice a es.length c, .slice ao os.length co] w fun e w' => e = .returned (.bool true) ∧ Below w.heap.size w w' := by
  have HG := great4_any n a c es w
  have HA1 := Lib.hid (awake_any w)
  cases hg : great4 n es with
  | true =>
    rw [hg] at HG
    have HG := Lib.hid HG
    clear hE hO hg
    go_enter Try.func3, Try.ntmps3
    go_wp2_with fail
    refine HG.out.mono ?_
    rintro e w1 ⟨rfl, rfl⟩
    go_wp2_with fail
    refine HA1.out.mono ?_
    rintro e w1 ⟨rfl, b1⟩
    go_wp2
    go_ret
    exact ⟨rfl, b1⟩
  | false =>
    rw [hg] at HG
    have HG := Lib.hid HG
    by_cases h20 : 20 < os.length
    · have h20' : (20 : Int) < (os.length : Int) := by omega
      clear hE hO hg
      go_enter Try.func3, Try.ntmps3
      go_wp2_with fail
      refine HG.out.mono ?_
      rintro e w1 ⟨rfl, rfl⟩
      go_wp2_with fail
      refine HA1.out.mono ?_
      rintro e w1 ⟨rfl, b1⟩
      go_wp2
      go_ret
      exact ⟨rfl, b1⟩
    · have h20' : ¬ (20 : Int) < (os.length : Int) := by omega
      have HE := Lib.hid hE
      have HO := Lib.hid hO
      have H1 : Hid (∀ W, Below w.heap.size w W → Calls Try.prog 15 #[.int .i64 n, .slice a es.length c] W fun e w' => e = .returned (.int .i64 (poE n es)) ∧ Below W.heap.size W w') := Lib.hid (fun W h => myCheck n a c es W ((HE.out.below h).mono h.size) hle)
      have H2 : Hid (∀ W, Below w.heap.size w W → Calls Try.prog 16 #[.int .i64 n, .slice a es.length c] W fun e w' => e = .returned (.int .i64 (poE n es)) ∧ Below W.heap.size W w') := Lib.hid (fun W h => refCheck_any n a c es W ((HE.out.below h).mono h.size) hle)
      have H3 : Hid (∀ W, Below w.heap.size w W → Calls Try.prog 17 #[.int .i64 n, .slice a es.length c, .slice ao os.length co] W fun e w' => e = .returned (.bool (exB n es os)) ∧ Below W.heap.size W w') := Lib.hid (fun W h => extends_any n a c es ao co os W ((HE.out.below h).mono h.size) hle ((HO.out.below h).mono h.size) hlo)
      have H4 : Hid (∀ W, Below w.heap.size w W → Calls Try.prog 18 #[.int .i64 n, .slice a es.length c, .slice ao os.length co] W fun e w' => e = .returned (.bool (exB n es os)) ∧ Below W.heap.size W w') := Lib.hid (fun W h => refExtends_any n a c es ao co os W ((HE.out.below h).mono h.size) hle ((HO.out.below h).mono h.size) hlo)
      have H5 : Hid (∀ W, Below w.heap.size w W → Calls Try.prog 20 #[.int .i64 n, .slice a es.length c] W fun e w' => ∃ v, e = .returned v ∧ EdgesC w' v (conL n es) ∧ Below W.heap.size W w') := Lib.hid (fun W h => myConcurrent n a c es W ((HE.out.below h).mono h.size) hle)
      have H6 : Hid (∀ W, Below w.heap.size w W → Calls Try.prog 21 #[.int .i64 n, .slice a es.length c] W fun e w' => ∃ v, e = .returned v ∧ EdgesC w' v (conL n es) ∧ Below W.heap.size W w') := Lib.hid (fun W h => (refConcurrent_any n a c es W ((HE.out.below h).mono h.size) hle).mono (by
        rintro e w1 ⟨v, rfl, hr, b1⟩
        exact ⟨v, rfl, hr.known, b1⟩))
      clear hE hO hg
      generalize poE n es = x1 at *
      generalize exB n es os = z1 at *
      generalize conL n es = L1 at *
      go_enter Try.func3, Try.ntmps3
      go_wp2_with fail
      refine HG.out.mono ?_
      rintro e w1 ⟨rfl, rfl⟩
      have K1 := Lib.hid (H1.out w1 (Below.refl _ _))
      go_wp2_with fail
      refine K1.out.mono ?_
      rintro e w2 ⟨rfl, b2⟩
      have B2 := Lib.hid b2
      have K2 := Lib.hid (H2.out w2 b2)
      clear b2
      go_wp2_with fail
      refine K2.out.mono ?_
      rintro e w3 ⟨rfl, b3⟩
      have B3 := Lib.hid (B2.out.trans (b3.mono B2.out.size))
      have K3 := Lib.hid (H3.out w3 B3.out)
      clear b3
      go_wp2_with fail
      refine K3.out.mono ?_
      rintro e w4 ⟨rfl, b4⟩
      have B4 := Lib.hid (B3.out.trans (b4.mono B3.out.size))
      have K4 := Lib.hid (H4.out w4 B4.out)
      clear b4
      go_wp2_with fail
      refine K4.out.mono ?_
      rintro e w5 ⟨rfl, b5⟩
      have B5 := Lib.hid (B4.out.trans (b5.mono B4.out.size))
      have K5 := Lib.hid (H5.out w5 B5.out)
      clear b5
      have zz : (z1 == z1) = true := by simp
      go_wp2_with fail
      refine K5.out.mono ?_
      rintro e w6 ⟨v6, rfl, e6, b6⟩
      have E6 := Lib.hid e6
      have B6 := Lib.hid (B5.out.trans (b6.mono B5.out.size))
      have K6 := Lib.hid (H6.out w6 B6.out)
      clear e6 b6
      go_wp2_with fail
      refine K6.out.mono ?_
      rintro e w7 ⟨v7, rfl, e7, b7⟩
      have B7 := Lib.hid (B6.out.trans (b7.mono B6.out.size))
      have K7 := Lib.hid (same_yes v6 v7 L1 w7 (E6.out.below b7) e7)
      clear e7 b7
      go_wp2_with fail
      refine K7.out.mono ?_
      rintro e w8 ⟨rfl, b8⟩
      have B8 := Lib.hid (B7.out.trans (b8.mono B7.out.size))
      have K8 := Lib.hid (awake_any w8)
      clear b8
      go_wp2_with fail
      refine K8.out.mono ?_
      rintro e w9 ⟨rfl, b9⟩
      go_wp2
      go_ret
      exact ⟨rfl, B8.out.trans (b9.mono B8.out.size)⟩

end Go.Proofs.Ytkiomcihomkgoaa
