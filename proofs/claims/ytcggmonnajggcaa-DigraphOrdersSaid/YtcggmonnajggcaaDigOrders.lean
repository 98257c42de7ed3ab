/-
  The statement DigraphOrders, walked by the contracts of digraph's functions and of the reference's.
-/
import Derived.Test.YtcggmonnajggcaaDigMine
namespace Go.Proofs.Ytcggmonnajggcaa
open Go.RowKit

set_option maxRecDepth 100000 in
set_option maxHeartbeats 8000000 in
theorem digraphOrders_walk (haw : ∀ w, Calls Try.prog 12 #[] w fun e w' => e = .returned (.bool true) ∧ Below w.heap.size w w') (n : Int) (ad : Option Addr) (cap : Nat) (es : List (Int × Int)) (w : World) (hE : EdgesA w.heap.size w ad es) (hl : es.length ≤ 9223372036854775807) (hcap : es.length ≤ cap) :
    Calls Try.prog 4 #[.int .i64 n, .slice ad es.length cap] w fun e w' => e = .returned (.bool true) ∧ Below w.heap.size w w' := by
  have HAW := Lib.hid haw
  have HE := Lib.hid hE
  have hgr := (great_any n ad cap es w).mono (fun e w' h => (⟨h.1, h.2.symm⟩ : e = .returned (.bool (greatE n es)) ∧ w = w'))
  obtain ⟨gr, hgr2⟩ : ∃ gr, greatE n es = gr := ⟨_, rfl⟩
  rw [hgr2] at hgr
  have HGR := Lib.hid hgr
  clear haw hE hgr hgr2
  cases gr
  · obtain ⟨x1, X1⟩ : ∃ x, Hid (ordE n es = x) := ⟨_, Lib.hid rfl⟩
    obtain ⟨x2, X2⟩ : ∃ x, Hid (cycE n es = x) := ⟨_, Lib.hid rfl⟩
    obtain ⟨x4, X4⟩ : ∃ x, Hid (cloE n es = x) := ⟨_, Lib.hid rfl⟩
    obtain ⟨L1, Y1⟩ : ∃ x, Hid (ordL n es = x) := ⟨_, Lib.hid rfl⟩
    obtain ⟨L2, Y2⟩ : ∃ x, Hid (cycL n es = x) := ⟨_, Lib.hid rfl⟩
    obtain ⟨L3, Y3⟩ : ∃ x, Hid (rankL n es = x) := ⟨_, Lib.hid rfl⟩
    obtain ⟨L4, Y4⟩ : ∃ x, Hid (cloL n es = x) := ⟨_, Lib.hid rfl⟩
    have q1 : (x1 == x1) = true := beq_self_eq_true x1
    have q2 : (x2 == x2) = true := beq_self_eq_true x2
    have q4 : (x4 == x4) = true := beq_self_eq_true x4
    have B0 : Hid (Below w.heap.size w w) := Lib.hid (Below.refl _ w)
    go_enter Try.func4, Try.ntmps4
    go_wp2_with fail
    refine HGR.out.mono ?_
    rintro e w0 ⟨rfl, rfl⟩
    have h1 := myOrder n ad cap es w ((HE.out.below B0.out).mono B0.out.size) hl hcap
    rw [Y1.out, X1.out] at h1
    have H1 := Lib.hid h1
    clear h1
    go_wp2_with fail
    refine H1.out.mono ?_
    rintro e w1 ⟨v1, rfl, k1, b1⟩
    have B1 := Lib.hid (B0.out.trans (b1.mono B0.out.size))
    have K1 := Lib.hid k1
    clear k1 b1
    have h2 := (order_any w1.heap.size n ad cap es w1 ((HE.out.below B1.out).mono B1.out.size) (Nat.le_refl _) hl).mono (fun e w' h => h.ret)
    rw [Y1.out, X1.out] at h2
    have H2 := Lib.hid h2
    clear h2
    go_wp2_with fail
    refine H2.out.mono ?_
    rintro e w2 ⟨v2, rfl, k2, b2⟩
    have B2 := Lib.hid (B1.out.trans (b2.mono B1.out.size))
    replace K1 := Lib.hid (K1.out.below b2)
    have K2 := Lib.hid k2
    clear k2 b2
    have h3 := myCycle n ad cap es w2 ((HE.out.below B2.out).mono B2.out.size) hl hcap
    rw [Y2.out, X2.out] at h3
    have H3 := Lib.hid h3
    clear h3
    go_wp2_with fail
    refine H3.out.mono ?_
    rintro e w3 ⟨v3, rfl, k3, b3⟩
    have B3 := Lib.hid (B2.out.trans (b3.mono B2.out.size))
    replace K1 := Lib.hid (K1.out.below b3)
    replace K2 := Lib.hid (K2.out.below b3)
    have K3 := Lib.hid k3
    clear k3 b3
    have h4 := (cycle_any w3.heap.size n ad cap es w3 ((HE.out.below B3.out).mono B3.out.size) (Nat.le_refl _) hl).mono (fun e w' h => h.ret)
    rw [Y2.out, X2.out] at h4
    have H4 := Lib.hid h4
    clear h4
    go_wp2_with fail
    refine H4.out.mono ?_
    rintro e w4 ⟨v4, rfl, k4, b4⟩
    have B4 := Lib.hid (B3.out.trans (b4.mono B3.out.size))
    replace K1 := Lib.hid (K1.out.below b4)
    replace K2 := Lib.hid (K2.out.below b4)
    replace K3 := Lib.hid (K3.out.below b4)
    have K4 := Lib.hid k4
    clear k4 b4
    have h5 := myRanks n ad cap es w4 ((HE.out.below B4.out).mono B4.out.size) hl hcap
    rw [Y3.out, X1.out] at h5
    have H5 := Lib.hid h5
    clear h5
    go_wp2_with fail
    refine H5.out.mono ?_
    rintro e w5 ⟨v5, rfl, k5, b5⟩
    have B5 := Lib.hid (B4.out.trans (b5.mono B4.out.size))
    replace K1 := Lib.hid (K1.out.below b5)
    replace K2 := Lib.hid (K2.out.below b5)
    replace K3 := Lib.hid (K3.out.below b5)
    replace K4 := Lib.hid (K4.out.below b5)
    have K5 := Lib.hid k5
    clear k5 b5
    have h6 := (ranks_any w5.heap.size n ad cap es w5 ((HE.out.below B5.out).mono B5.out.size) (Nat.le_refl _) hl).mono (fun e w' h => h.ret)
    rw [Y3.out, X1.out] at h6
    have H6 := Lib.hid h6
    clear h6
    go_wp2_with fail
    refine H6.out.mono ?_
    rintro e w6 ⟨v6, rfl, k6, b6⟩
    have B6 := Lib.hid (B5.out.trans (b6.mono B5.out.size))
    replace K1 := Lib.hid (K1.out.below b6)
    replace K2 := Lib.hid (K2.out.below b6)
    replace K3 := Lib.hid (K3.out.below b6)
    replace K4 := Lib.hid (K4.out.below b6)
    replace K5 := Lib.hid (K5.out.below b6)
    have K6 := Lib.hid k6
    clear k6 b6
    have h7 := myClosure n ad cap es w6 ((HE.out.below B6.out).mono B6.out.size) hl hcap
    rw [Y4.out, X4.out] at h7
    have H7 := Lib.hid h7
    clear h7
    go_wp2_with fail
    refine H7.out.mono ?_
    rintro e w7 ⟨v7, rfl, k7, b7⟩
    have B7 := Lib.hid (B6.out.trans (b7.mono B6.out.size))
    replace K1 := Lib.hid (K1.out.below b7)
    replace K2 := Lib.hid (K2.out.below b7)
    replace K3 := Lib.hid (K3.out.below b7)
    replace K4 := Lib.hid (K4.out.below b7)
    replace K5 := Lib.hid (K5.out.below b7)
    replace K6 := Lib.hid (K6.out.below b7)
    have K7 := Lib.hid k7
    clear k7 b7
    have h8 := (closure_any w7.heap.size n ad cap es w7 ((HE.out.below B7.out).mono B7.out.size) (Nat.le_refl _) hl).mono (fun e w' h => h.ret)
    rw [Y4.out, X4.out] at h8
    have H8 := Lib.hid h8
    clear h8
    go_wp2_with fail
    refine H8.out.mono ?_
    rintro e w8 ⟨v8, rfl, k8, b8⟩
    have B8 := Lib.hid (B7.out.trans (b8.mono B7.out.size))
    replace K1 := Lib.hid (K1.out.below b8)
    replace K2 := Lib.hid (K2.out.below b8)
    replace K3 := Lib.hid (K3.out.below b8)
    replace K4 := Lib.hid (K4.out.below b8)
    replace K5 := Lib.hid (K5.out.below b8)
    replace K6 := Lib.hid (K6.out.below b8)
    replace K7 := Lib.hid (K7.out.below b8)
    have K8 := Lib.hid k8
    clear k8 b8
    obtain ⟨a1, c1, rfl, i1, l1⟩ := K1.out
    have I1 := Lib.hid i1
    have M1 := Lib.hid l1
    clear i1 l1
    obtain ⟨a2, c2, rfl, i2, l2⟩ := K2.out
    have I2 := Lib.hid i2
    have M2 := Lib.hid l2
    clear i2 l2
    obtain ⟨a3, c3, rfl, i3, l3⟩ := K3.out
    have I3 := Lib.hid i3
    have M3 := Lib.hid l3
    clear i3 l3
    obtain ⟨a4, c4, rfl, i4, l4⟩ := K4.out
    have I4 := Lib.hid i4
    have M4 := Lib.hid l4
    clear i4 l4
    obtain ⟨a5, c5, rfl, i5, l5⟩ := K5.out
    have I5 := Lib.hid i5
    have M5 := Lib.hid l5
    clear i5 l5
    obtain ⟨a6, c6, rfl, i6, l6⟩ := K6.out
    have I6 := Lib.hid i6
    have M6 := Lib.hid l6
    clear i6 l6
    obtain ⟨a7, c7, rfl, i7, l7⟩ := K7.out
    have I7 := Lib.hid i7
    have M7 := Lib.hid l7
    clear i7 l7
    obtain ⟨a8, c8, rfl, i8, l8⟩ := K8.out
    have I8 := Lib.hid i8
    have M8 := Lib.hid l8
    clear i8 l8
    have e0 := eqInts_any _ _ a1 a2 c1 c2 _ _ w8 I1.out I2.out M1.out M2.out
    rw [decide_eq_true rfl] at e0
    have E0 := Lib.hid e0
    clear e0
    go_wp2_with fail
    refine E0.out.mono ?_
    rintro e u0 ⟨rfl, q0', hu0⟩
    have bu0 : Below w8.heap.size w8 u0 := by rw [hu0]; exact below_drewN' (Below.refl _ _)
    have B9 := Lib.hid (B8.out.trans (bu0.mono B8.out.size))
    replace I3 := Lib.hid ((I3.out.below bu0).mono bu0.size)
    replace I4 := Lib.hid ((I4.out.below bu0).mono bu0.size)
    replace I5 := Lib.hid ((I5.out.below bu0).mono bu0.size)
    replace I6 := Lib.hid ((I6.out.below bu0).mono bu0.size)
    replace I7 := Lib.hid ((I7.out.below bu0).mono bu0.size)
    replace I8 := Lib.hid ((I8.out.below bu0).mono bu0.size)
    clear hu0 bu0
    have e1 := eqInts_any _ _ a3 a4 c3 c4 _ _ u0 I3.out I4.out M3.out M4.out
    rw [decide_eq_true rfl] at e1
    have E1 := Lib.hid e1
    clear e1
    go_wp2_with fail
    refine E1.out.mono ?_
    rintro e u1 ⟨rfl, q1', hu1⟩
    have bu1 : Below u0.heap.size u0 u1 := by rw [hu1]; exact below_drewN' (Below.refl _ _)
    have B10 := Lib.hid (B9.out.trans (bu1.mono B9.out.size))
    replace I5 := Lib.hid ((I5.out.below bu1).mono bu1.size)
    replace I6 := Lib.hid ((I6.out.below bu1).mono bu1.size)
    replace I7 := Lib.hid ((I7.out.below bu1).mono bu1.size)
    replace I8 := Lib.hid ((I8.out.below bu1).mono bu1.size)
    clear hu1 bu1
    have e2 := eqInts_any _ _ a5 a6 c5 c6 _ _ u1 I5.out I6.out M5.out M6.out
    rw [decide_eq_true rfl] at e2
    have E2 := Lib.hid e2
    clear e2
    go_wp2_with fail
    refine E2.out.mono ?_
    rintro e u2 ⟨rfl, q2', hu2⟩
    have bu2 : Below u1.heap.size u1 u2 := by rw [hu2]; exact below_drewN' (Below.refl _ _)
    have B11 := Lib.hid (B10.out.trans (bu2.mono B10.out.size))
    replace I7 := Lib.hid ((I7.out.below bu2).mono bu2.size)
    replace I8 := Lib.hid ((I8.out.below bu2).mono bu2.size)
    clear hu2 bu2
    have e3 := eqEdges_any _ _ a7 a8 c7 c8 _ _ u2 I7.out I8.out M7.out M8.out
    rw [decide_eq_true rfl] at e3
    have E3 := Lib.hid e3
    clear e3
    go_wp2_with fail
    refine E3.out.mono ?_
    rintro e u3 ⟨rfl, q3', hu3⟩
    have bu3 : Below u2.heap.size u2 u3 := by rw [hu3]; exact below_drewN' (Below.refl _ _)
    have B12 := Lib.hid (B11.out.trans (bu3.mono B11.out.size))
    clear hu3 bu3
    go_wp2_with fail
    refine (HAW.out _).mono ?_
    rintro e w9 ⟨rfl, b9⟩
    go_wp2
    go_ret
    exact ⟨rfl, B12.out.trans (b9.mono B12.out.size)⟩
  · go_enter Try.func4, Try.ntmps4
    go_wp2_with fail
    refine HGR.out.mono ?_
    rintro e w0 ⟨rfl, rfl⟩
    go_wp2_with fail
    refine (HAW.out _).mono ?_
    rintro e w9 ⟨rfl, b9⟩
    go_wp2
    go_ret
    exact ⟨rfl, b9⟩

end Go.Proofs.Ytcggmonnajggcaa
