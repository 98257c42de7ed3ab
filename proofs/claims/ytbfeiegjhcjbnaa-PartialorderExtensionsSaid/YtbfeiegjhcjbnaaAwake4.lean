/-
  The statements' own examples of partialorder hold.
-/
import Derived.Test.YtbfeiegjhcjbnaaPoKnown
namespace Go.Proofs.Ytbfeiegjhcjbnaa
open Go.RowKit

def exN : List (Nat × Nat) := [(0, 1), (1, 2)]
def exE : List (Int × Int) := edgesOf exN
def exH : List (Nat × Nat) := [(0, 1), (0, 2), (1, 2)]
def exG : List (Int × Int) := edgesOf exH
theorem ex_genE : genE 4 exE = 0 := by decide +kernel
theorem ex_genL : genL 4 exE = exH := by decide +kernel
theorem ex_poE : poE 4 exG = 0 := by decide +kernel
theorem ex_covL : covL 4 exG = exN := by decide +kernel
theorem ex_exsE : exsE 4 exG 10 = 0 := by decide +kernel
theorem ex_exsL : exsL 4 exG 10 = [[0, 1, 2, 3], [0, 1, 3, 2], [0, 3, 1, 2], [3, 0, 1, 2]] := by decide +kernel
theorem ex_conL : conL 4 exG = [(0, 3), (1, 3), (2, 3)] := by decide +kernel

/-- Pairs that have just been laid. -/
theorem lit2 (w : World) (a b c d : Nat) : EdgesC (w.alloc (.cells #[.int .i64 a, .int .i64 b, .int .i64 c, .int .i64 d] TE)) (.slice (some ⟨w.heap.size, 0, none⟩) 2 2) [(a, b), (c, d)] := by
  refine ⟨some ⟨w.heap.size, 0, none⟩, 2, rfl, fun j hj => ?_, by simp [edgesOf], by simp [edgesOf]⟩
  match j, hj with
  | 0, _ => exact ⟨w.heap.size, 0, rfl, by simp, by simp [edgesOf], by simp [edgesOf]⟩
  | 1, _ => exact ⟨w.heap.size, 0, rfl, by simp, by simp [edgesOf], by simp [edgesOf]⟩
theorem lit3 (w : World) (a b c d e f : Nat) : EdgesC (w.alloc (.cells #[.int .i64 a, .int .i64 b, .int .i64 c, .int .i64 d, .int .i64 e, .int .i64 f] TE)) (.slice (some ⟨w.heap.size, 0, none⟩) 3 3) [(a, b), (c, d), (e, f)] := by
  refine ⟨some ⟨w.heap.size, 0, none⟩, 3, rfl, fun j hj => ?_, by simp [edgesOf], by simp [edgesOf]⟩
  match j, hj with
  | 0, _ => exact ⟨w.heap.size, 0, rfl, by simp, by simp [edgesOf], by simp [edgesOf]⟩
  | 1, _ => exact ⟨w.heap.size, 0, rfl, by simp, by simp [edgesOf], by simp [edgesOf]⟩
  | 2, _ => exact ⟨w.heap.size, 0, rfl, by simp, by simp [edgesOf], by simp [edgesOf]⟩
theorem lit_ints (w : World) (a b c d : Nat) : IntsC (w.alloc (.cells #[.int .i64 a, .int .i64 b, .int .i64 c, .int .i64 d] TI)) (.slice (some ⟨w.heap.size, 0, none⟩) 4 4) [a, b, c, d] := by
  refine ⟨some ⟨w.heap.size, 0, none⟩, 4, rfl, fun j hj => ?_, by simp [intsOf]⟩
  match j, hj with
  | 0, _ => exact ⟨w.heap.size, 0, rfl, by simp, by simp [intsOf]⟩
  | 1, _ => exact ⟨w.heap.size, 0, rfl, by simp, by simp [intsOf]⟩
  | 2, _ => exact ⟨w.heap.size, 0, rfl, by simp, by simp [intsOf]⟩
  | 3, _ => exact ⟨w.heap.size, 0, rfl, by simp, by simp [intsOf]⟩

/-- The functions of a slice value that is known. -/
theorem gen_at (n : Int) (v : Value) (l : List (Nat × Nat)) (w : World) (h : EdgesC w v l) : Calls Try.prog 21 #[.int .i64 n, v] w (RetEC (genL n (edgesOf l)) (genE n (edgesOf l)) w) := by
  obtain ⟨a, c, rfl, hA, hl, _⟩ := h
  exact myGenerate n a c _ w hA hl
theorem cov_at (n : Int) (v : Value) (l : List (Nat × Nat)) (w : World) (h : EdgesC w v l) : Calls Try.prog 23 #[.int .i64 n, v] w (RetEC (covL n (edgesOf l)) (poE n (edgesOf l)) w) := by
  obtain ⟨a, c, rfl, hA, hl, _⟩ := h
  exact myCovers n a c _ w hA hl
theorem con_at (n : Int) (v : Value) (l : List (Nat × Nat)) (w : World) (h : EdgesC w v l) : Calls Try.prog 19 #[.int .i64 n, v] w fun e w' => ∃ u, e = .returned u ∧ EdgesC w' u (conL n (edgesOf l)) ∧ Below w.heap.size w w' := by
  obtain ⟨a, c, rfl, hA, hl, _⟩ := h
  exact myConcurrent n a c _ w hA hl
theorem exs_at (n most : Int) (v : Value) (l : List (Nat × Nat)) (w : World) (h : EdgesC w v l) : Calls Try.prog 28 #[.int .i64 n, v, .int .i64 most] w (RetLC (exsL n (edgesOf l) most) (exsE n (edgesOf l) most) w) := by
  obtain ⟨a, c, rfl, hA, hl, _⟩ := h
  exact myExtensions n most a c _ w hA hl
theorem same_yes (u v : Value) (l : List (Nat × Nat)) (w : World) (hu : EdgesC w u l) (hv : EdgesC w v l) :
    Calls Try.prog 18 #[u, v] w fun e w' => e = .returned (.bool true) ∧ Below w.heap.size w w' := by
  refine (same_known u v l l w hu hv).mono ?_
  rintro e w' ⟨rfl, h⟩
  exact ⟨by rw [decide_eq_true rfl], h⟩
theorem sameLists_yes (u v : Value) (l : List (List Nat)) (w : World) (hu : ListsC w u l) (hv : ListsC w v l) :
    Calls Try.prog 30 #[u, v] w fun e w' => e = .returned (.bool true) ∧ Below w.heap.size w w' := by
  obtain ⟨a, c, rfl, ha, h1⟩ := hu
  obtain ⟨b, d, rfl, hb, h2⟩ := hv
  refine (sameLists_any _ _ a b c d _ _ w ha hb h1 h2).mono ?_
  rintro e w' ⟨rfl, q, rfl⟩
  exact ⟨by rw [decide_eq_true rfl], below_drewN' (Below.refl _ _)⟩

def exM : List (List Nat) := [[0, 1, 2, 3], [0, 1, 3, 2], [0, 3, 1, 2], [3, 0, 1, 2]]
def rw4 (a b c d : Nat) : Array Value := #[.int .i64 a, .int .i64 b, .int .i64 c, .int .i64 d]
theorem lit_lists (w W : World) (hW : (((((w.alloc (.cells (rw4 0 1 2 3) TI)).alloc (.cells (rw4 0 1 3 2) TI)).alloc (.cells (rw4 0 3 1 2) TI)).alloc (.cells (rw4 3 0 1 2) TI)).alloc (.cells #[.slice (some ⟨w.heap.size, 0, none⟩) 4 4, .slice (some ⟨w.heap.size + 1, 0, none⟩) 4 4, .slice (some ⟨w.heap.size + 1 + 1, 0, none⟩) 4 4, .slice (some ⟨w.heap.size + 1 + 1 + 1, 0, none⟩) 4 4] TL)) = W) :
    ListsC W (.slice (some ⟨w.heap.size + 1 + 1 + 1 + 1, 0, none⟩) 4 4) exM ∧ Below w.heap.size w W := by
  obtain ⟨w1, hw1⟩ : ∃ w1, w.alloc (.cells (rw4 0 1 2 3) TI) = w1 := ⟨_, rfl⟩
  obtain ⟨w2, hw2⟩ : ∃ w2, w1.alloc (.cells (rw4 0 1 3 2) TI) = w2 := ⟨_, rfl⟩
  obtain ⟨w3, hw3⟩ : ∃ w3, w2.alloc (.cells (rw4 0 3 1 2) TI) = w3 := ⟨_, rfl⟩
  obtain ⟨w4, hw4⟩ : ∃ w4, w3.alloc (.cells (rw4 3 0 1 2) TI) = w4 := ⟨_, rfl⟩
  have z1 : w1.heap.size = w.heap.size + 1 := by rw [← hw1]; simp
  have z2 : w2.heap.size = w.heap.size + 1 + 1 := by rw [← hw2]; simp [z1]
  have z3 : w3.heap.size = w.heap.size + 1 + 1 + 1 := by rw [← hw3]; simp [z2]
  have z4 : w4.heap.size = w.heap.size + 1 + 1 + 1 + 1 := by rw [← hw4]; simp [z3]
  have i0 := lit_ints w 0 1 2 3
  have i1 := lit_ints w1 0 1 3 2
  have i2 := lit_ints w2 0 3 1 2
  have i3 := lit_ints w3 3 0 1 2
  rw [← rw4, hw1] at i0
  rw [← rw4, hw2] at i1
  rw [← rw4, hw3] at i2
  rw [← rw4, hw4] at i3
  rw [hw1, hw2, hw3, hw4] at hW
  have b0 : Below w.heap.size w w1 := by rw [← hw1]; exact (Below.refl _ w).alloc (Nat.le_refl _) _
  have b1 : Below w1.heap.size w1 w2 := by rw [← hw2]; exact (Below.refl _ w1).alloc (Nat.le_refl _) _
  have b2 : Below w2.heap.size w2 w3 := by rw [← hw3]; exact (Below.refl _ w2).alloc (Nat.le_refl _) _
  have b3 : Below w3.heap.size w3 w4 := by rw [← hw4]; exact (Below.refl _ w3).alloc (Nat.le_refl _) _
  have b4 : Below w4.heap.size w4 W := by rw [← hW]; exact (Below.refl _ w4).alloc (Nat.le_refl _) _
  have j0 := (((i0.below b1).below b2).below b3).below b4
  have j1 := ((i1.below b2).below b3).below b4
  have j2 := (i2.below b3).below b4
  have j3 := i3.below b4
  have c0 : W.cell? ⟨w.heap.size + 1 + 1 + 1 + 1, 0, none⟩ = some (.slice (some ⟨w.heap.size, 0, none⟩) 4 4) := by rw [← hW, ← z4]; simp
  have c1 : W.cell? ⟨w.heap.size + 1 + 1 + 1 + 1, 1, none⟩ = some (.slice (some ⟨w1.heap.size, 0, none⟩) 4 4) := by rw [← hW, ← z4, z1]; simp
  have c2 : W.cell? ⟨w.heap.size + 1 + 1 + 1 + 1, 2, none⟩ = some (.slice (some ⟨w2.heap.size, 0, none⟩) 4 4) := by rw [← hW, ← z4, z2]; simp
  have c3 : W.cell? ⟨w.heap.size + 1 + 1 + 1 + 1, 3, none⟩ = some (.slice (some ⟨w3.heap.size, 0, none⟩) 4 4) := by rw [← hW, ← z4, z3]; simp
  have zW : w.heap.size + 1 + 1 + 1 + 1 < W.heap.size := by rw [← hW]; simp [z4]
  refine ⟨⟨_, 4, rfl, fun i hi => ?_, by simp [listsOf, exM]⟩, b0.trans ((b1.mono (by omega)).trans ((b2.mono (by omega)).trans ((b3.mono (by omega)).trans (b4.mono (by omega)))))⟩
  match i, hi with
  | 0, _ =>
    obtain ⟨a, c, e, h, hl⟩ := j0
    exact ⟨_, 0, a, c, rfl, zW, by rw [Nat.zero_add, c0, e]; rfl, h, by simp [elL, listsOf, exM, intsOf]⟩
  | 1, _ =>
    obtain ⟨a, c, e, h, hl⟩ := j1
    exact ⟨_, 0, a, c, rfl, zW, by rw [Nat.zero_add, c1, e]; rfl, h, by simp [elL, listsOf, exM, intsOf]⟩
  | 2, _ =>
    obtain ⟨a, c, e, h, hl⟩ := j2
    exact ⟨_, 0, a, c, rfl, zW, by rw [Nat.zero_add, c2, e]; rfl, h, by simp [elL, listsOf, exM, intsOf]⟩
  | 3, _ =>
    obtain ⟨a, c, e, h, hl⟩ := j3
    exact ⟨_, 0, a, c, rfl, zW, by rw [Nat.zero_add, c3, e]; rfl, h, by simp [elL, listsOf, exM, intsOf]⟩

set_option maxRecDepth 100000 in
set_option maxHeartbeats 4000000 in
theorem awake_any (w : World) : Calls Try.prog 13 #[] w fun e w' => e = .returned (.bool true) ∧ Below w.heap.size w w' := by
  obtain ⟨w1, hw1⟩ : ∃ w1, w.alloc (.cells #[.int .i64 0, .int .i64 1, .int .i64 1, .int .i64 2] TE) = w1 := ⟨_, rfl⟩
  have hE : EdgesC w1 (.slice (some ⟨w.heap.size, 0, none⟩) 2 2) exN := by rw [← hw1]; exact lit2 w 0 1 1 2
  have b1 : Below w.heap.size w w1 := by rw [← hw1]; exact (Below.refl _ w).alloc (Nat.le_refl _) _
  have HG := gen_at 4 _ exN w1 hE
  rw [show genE 4 (edgesOf exN) = 0 from ex_genE, show genL 4 (edgesOf exN) = exH from ex_genL] at HG
  have HGY := Lib.hid HG
  have HW := Lib.hid hw1
  have B1 := Lib.hid b1
  clear HG hw1 hE b1
  go_enter Try.func13, Try.ntmps13
  go_wp2_with fail
  rw [HW.out]
  refine HGY.out.mono ?_
  rintro e w2 ⟨v2, rfl, k2, b2⟩
  have B2 := Lib.hid (B1.out.trans (b2.mono B1.out.size))
  have h3 := cov_at 4 _ exH w2 k2
  rw [show poE 4 (edgesOf exH) = 0 from ex_poE, show covL 4 (edgesOf exH) = exN from ex_covL] at h3
  have H3 := Lib.hid h3
  have K2 := Lib.hid k2
  clear h3 k2 b2 HGY HW B1
  go_wp2_with fail
  refine H3.out.mono ?_
  rintro e w3 ⟨v3, rfl, k3, b3⟩
  have B3 := Lib.hid (B2.out.trans (b3.mono B2.out.size))
  have L3 := Lib.hid (K2.out.below b3)
  have h4 := exs_at 4 10 _ exH w3 L3.out
  rw [show exsE 4 (edgesOf exH) 10 = 0 from ex_exsE, show exsL 4 (edgesOf exH) 10 = exM from ex_exsL] at h4
  have H4 := Lib.hid h4
  have C3 := Lib.hid k3
  clear h4 k3 b3 H3 K2 B2
  go_wp2_with fail
  refine H4.out.mono ?_
  rintro e w4 ⟨v4, rfl, k4, b4⟩
  have B4 := Lib.hid (B3.out.trans (b4.mono B3.out.size))
  have L4 := Lib.hid (L3.out.below b4)
  have C4 := Lib.hid (C3.out.below b4)
  have M4 := Lib.hid k4
  clear k4 b4 H4 L3 C3 B3
  obtain ⟨w5, hw5⟩ : ∃ W, w4.alloc (.cells #[.int .i64 0, .int .i64 1, .int .i64 0, .int .i64 2, .int .i64 1, .int .i64 2] TE) = W := ⟨_, rfl⟩
  have b5 : Below w4.heap.size w4 w5 := by rw [← hw5]; exact (Below.refl _ w4).alloc (Nat.le_refl _) _
  have h5 := same_yes v2 _ exH w5 (L4.out.below b5) (by rw [← hw5]; exact lit3 w4 0 1 0 2 1 2)
  have L5 := Lib.hid (L4.out.below b5)
  have C5 := Lib.hid (C4.out.below b5)
  have M5 := Lib.hid (M4.out.below b5)
  have B5 := Lib.hid (B4.out.trans (b5.mono B4.out.size))
  have H5 := Lib.hid h5
  have W5 := Lib.hid hw5
  clear h5 hw5 b5 L4 C4 M4 B4
  go_wp2_with fail
  rw [W5.out]
  refine H5.out.mono ?_
  rintro e w6 ⟨rfl, b6⟩
  obtain ⟨w7, hw7⟩ : ∃ W, w6.alloc (.cells #[.int .i64 0, .int .i64 1, .int .i64 1, .int .i64 2] TE) = W := ⟨_, rfl⟩
  have b7 : Below w6.heap.size w6 w7 := by rw [← hw7]; exact (Below.refl _ w6).alloc (Nat.le_refl _) _
  have h7 := same_yes v3 _ exN w7 ((C5.out.below b6).below b7) (by rw [← hw7]; exact lit2 w6 0 1 1 2)
  have L7 := Lib.hid ((L5.out.below b6).below b7)
  have M7 := Lib.hid ((M5.out.below b6).below b7)
  have B6 := Lib.hid (B5.out.trans (b6.mono B5.out.size))
  have B7 := Lib.hid (B6.out.trans (b7.mono B6.out.size))
  have H7 := Lib.hid h7
  have W7 := Lib.hid hw7
  clear h7 hw7 b7 b6 B6 L5 C5 M5 B5 H5 W5
  go_wp2_with fail
  rw [W7.out]
  refine H7.out.mono ?_
  rintro e w8 ⟨rfl, b8⟩
  obtain ⟨w9, hw9⟩ : ∃ W, (((((w8.alloc (.cells (rw4 0 1 2 3) TI)).alloc (.cells (rw4 0 1 3 2) TI)).alloc (.cells (rw4 0 3 1 2) TI)).alloc (.cells (rw4 3 0 1 2) TI)).alloc (.cells #[.slice (some ⟨w8.heap.size, 0, none⟩) 4 4, .slice (some ⟨w8.heap.size + 1, 0, none⟩) 4 4, .slice (some ⟨w8.heap.size + 1 + 1, 0, none⟩) 4 4, .slice (some ⟨w8.heap.size + 1 + 1 + 1, 0, none⟩) 4 4] TL)) = W := ⟨_, rfl⟩
  obtain ⟨l9, b9⟩ := lit_lists w8 w9 hw9
  have h9 := sameLists_yes v4 _ exM w9 ((M7.out.below b8).below b9) l9
  have B8 := Lib.hid (B7.out.trans (b8.mono B7.out.size))
  have B9 := Lib.hid (B8.out.trans (b9.mono B8.out.size))
  have L9 := Lib.hid ((L7.out.below b8).below b9)
  have H9 := Lib.hid h9
  have W9 := Lib.hid hw9
  clear h9 hw9 b9 l9 b8 B8 L7 M7 B7 H7 W7
  go_wp2_with fail
  rw [show (((((w8.alloc (.cells #[.int .i64 0, .int .i64 1, .int .i64 2, .int .i64 3] TI)).alloc (.cells #[.int .i64 0, .int .i64 1, .int .i64 3, .int .i64 2] TI)).alloc (.cells #[.int .i64 0, .int .i64 3, .int .i64 1, .int .i64 2] TI)).alloc (.cells #[.int .i64 3, .int .i64 0, .int .i64 1, .int .i64 2] TI)).alloc (.cells #[.slice (some ⟨w8.heap.size, 0, none⟩) 4 4, .slice (some ⟨w8.heap.size + 1, 0, none⟩) 4 4, .slice (some ⟨w8.heap.size + 1 + 1, 0, none⟩) 4 4, .slice (some ⟨w8.heap.size + 1 + 1 + 1, 0, none⟩) 4 4] TL)) = w9 from W9.out]
  refine H9.out.mono ?_
  rintro e w10 ⟨rfl, b10⟩
  have h11 := con_at 4 _ exH w10 (L9.out.below b10)
  rw [show conL 4 (edgesOf exH) = [(0, 3), (1, 3), (2, 3)] from ex_conL] at h11
  have B10 := Lib.hid (B9.out.trans (b10.mono B9.out.size))
  have H11 := Lib.hid h11
  clear h11 b10 L9 B9 H9 W9
  go_wp2_with fail
  refine H11.out.mono ?_
  rintro e w11 ⟨v11, rfl, k11, b11⟩
  obtain ⟨w12, hw12⟩ : ∃ W, w11.alloc (.cells #[.int .i64 0, .int .i64 3, .int .i64 1, .int .i64 3, .int .i64 2, .int .i64 3] TE) = W := ⟨_, rfl⟩
  have b12 : Below w11.heap.size w11 w12 := by rw [← hw12]; exact (Below.refl _ w11).alloc (Nat.le_refl _) _
  have h12 := same_yes v11 _ [(0, 3), (1, 3), (2, 3)] w12 (k11.below b12) (by rw [← hw12]; exact lit3 w11 0 3 1 3 2 3)
  have B11 := Lib.hid (B10.out.trans (b11.mono B10.out.size))
  have B12 := Lib.hid (B11.out.trans (b12.mono B11.out.size))
  have H12 := Lib.hid h12
  have W12 := Lib.hid hw12
  clear h12 hw12 b12 k11 b11 B10 B11 H11
  go_wp2_with fail
  rw [W12.out]
  refine H12.out.mono ?_
  rintro e w13 ⟨rfl, b13⟩
  go_wp2
  go_ret
  exact ⟨rfl, B12.out.trans (b13.mono B12.out.size)⟩

end Go.Proofs.Ytbfeiegjhcjbnaa
