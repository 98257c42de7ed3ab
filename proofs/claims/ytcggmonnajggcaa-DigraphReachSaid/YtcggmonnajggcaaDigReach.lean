/-
  The statement DigraphReach, walked by the contracts of digraph's functions and of the reference's.
-/
import Derived.Test.YtcggmonnajggcaaDigMine
namespace Go.Proofs.Ytcggmonnajggcaa
open Go.RowKit

set_option maxRecDepth 100000 in
set_option maxHeartbeats 4000000 in
theorem digraphReach_walk (haw : ∀ w, Calls Try.prog 12 #[] w fun e w' => e = .returned (.bool true) ∧ Below w.heap.size w w') (n s : Int) (ad : Option Addr) (cap : Nat) (es : List (Int × Int)) (w : World) (hE : EdgesA w.heap.size w ad es) (hl : es.length ≤ 9223372036854775807) (hcap : es.length ≤ cap) :
    Calls Try.prog 3 #[.int .i64 n, .slice ad es.length cap, .int .i64 s] w fun e w' => e = .returned (.bool true) ∧ Below w.heap.size w w' := by
  have HAW := Lib.hid haw
  have HE := Lib.hid hE
  have hgr := (great_any n ad cap es w).mono (fun e w' h => (⟨h.1, h.2.symm⟩ : e = .returned (.bool (greatE n es)) ∧ w = w'))
  obtain ⟨gr, hgr2⟩ : ∃ gr, greatE n es = gr := ⟨_, rfl⟩
  rw [hgr2] at hgr
  have HGR := Lib.hid hgr
  clear haw hE hgr hgr2
  cases gr
  · -- not great
    have h1 := Lib.hid (myCheck n ad cap es w HE.out hl)
    obtain ⟨c, hc⟩ : ∃ c, chkE n es = c := ⟨_, rfl⟩
    rw [hc] at h1
    have HCE := Lib.hid hc
    clear hc
    go_enter Try.func3, Try.ntmps3
    go_wp2_with fail
    refine HGR.out.mono ?_
    rintro e w0 ⟨rfl, rfl⟩
    go_wp2_with fail
    refine h1.out.mono ?_
    rintro e w1 ⟨rfl, b1⟩
    have h2 := check_calm w1.heap.size n ad cap es w1 ((HE.out.below b1).mono b1.size) hl
    rw [HCE.out] at h2
    have H2 := Lib.hid h2
    have B1 := Lib.hid b1
    clear h2 b1
    go_wp2_with fail
    refine H2.out.mono ?_
    rintro e w2 ⟨rfl, b2, _⟩
    have b2 := B1.out.trans (b2.mono B1.out.size)
    have H3 := Lib.hid (myReach n s ad cap es w2 ((HE.out.below b2).mono b2.size) hl hcap)
    have B2 := Lib.hid b2
    clear b2
    have hcc : (c == c) = true := beq_self_eq_true c
    go_wp2_with fail
    refine H3.out.mono ?_
    rintro e w3 ⟨v3, rfl, k3, b3⟩
    have b3' := B2.out.trans (b3.mono B2.out.size)
    have H4 := Lib.hid (reach_any w3.heap.size n s ad cap es w3 ((HE.out.below b3').mono b3'.size) (Nat.le_refl _) hl)
    have B3 := Lib.hid b3'
    have K3 := Lib.hid k3
    clear b3 b3' k3
    go_wp2_with fail
    refine H4.out.mono ?_
    rintro e w4 ⟨v4, rfl, k4, b4⟩
    obtain ⟨a4, c4, rfl, i4, l4⟩ := k4.known
    obtain ⟨a3, c3, rfl, i3, l3⟩ := K3.out.below b4
    have H5 := eqInts_any _ _ a3 a4 c3 c4 _ _ w4 i3 i4 l3 l4
    rw [decide_eq_true rfl] at H5
    have H5 := Lib.hid H5
    have B4 := Lib.hid (B3.out.trans (b4.mono B3.out.size))
    clear k4 b4 i3 i4 l3 l4
    go_wp2_with fail
    refine H5.out.mono ?_
    rintro e w5 ⟨rfl, q, rfl⟩
    obtain ⟨w5, hw5⟩ : ∃ w5, w4.drewN q = w5 := ⟨_, rfl⟩
    have b5 : Below w.heap.size w w5 := by rw [← hw5]; exact below_drewN' B4.out
    rw [hw5]
    clear hw5
    have H6 := Lib.hid (myComponents n ad cap es w5 ((HE.out.below b5).mono b5.size) hl hcap)
    have B5 := Lib.hid b5
    clear b5
    go_wp2_with fail
    refine H6.out.mono ?_
    rintro e w6 ⟨v6, rfl, k6, b6⟩
    have b6' := B5.out.trans (b6.mono B5.out.size)
    have H7 := Lib.hid (components_any w6.heap.size n ad cap es w6 ((HE.out.below b6').mono b6'.size) (Nat.le_refl _) hl)
    have B6 := Lib.hid b6'
    have K6 := Lib.hid k6
    clear b6 b6' k6
    go_wp2_with fail
    refine H7.out.mono ?_
    rintro e w7 ⟨v7, rfl, k7, b7⟩
    obtain ⟨a7, c7, rfl, i7, l7⟩ := k7.known
    obtain ⟨a6, c6, rfl, i6, l6⟩ := K6.out.below b7
    have H8 := sameLists_any _ _ a6 a7 c6 c7 _ _ w7 i6 i7 l6 l7
    rw [decide_eq_true rfl] at H8
    have H8 := Lib.hid H8
    have B7 := Lib.hid (B6.out.trans (b7.mono B6.out.size))
    clear k7 b7 i6 i7 l6 l7
    go_wp2_with fail
    refine H8.out.mono ?_
    rintro e w8 ⟨rfl, q8, rfl⟩
    have B8 := Lib.hid (below_drewN' (k := q8) B7.out)
    go_wp2_with fail
    refine (HAW.out _).mono ?_
    rintro e w9 ⟨rfl, b9⟩
    go_wp2
    go_ret
    exact ⟨rfl, B8.out.trans (b9.mono B8.out.size)⟩
  · go_enter Try.func3, Try.ntmps3
    go_wp2_with fail
    refine HGR.out.mono ?_
    rintro e w0 ⟨rfl, rfl⟩
    go_wp2_with fail
    refine (HAW.out _).mono ?_
    rintro e w9 ⟨rfl, b9⟩
    go_wp2
    go_ret
    exact ⟨rfl, b9⟩

end Go.Proofs.Ytcggmonnajggcaa
