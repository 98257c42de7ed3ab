/-
  What the statements' awake returns: the example of the chapter.
-/
import Derived.Test.YtcmcgcogahkamaaTmAdded
namespace Go.Proofs.Ytcmcgcogahkamaa
open Go.RowKit Go.Shelf

theorem ktc_block {w : World} {g : Nat} {l : List Tm} (h : w.heap[g]? = some (.cells (tmV l).toArray TT (0, 0))) (hl : l.length ≤ 1000) : FtC g w (.slice (some ⟨g, 0, none⟩) l.length l.length) l := by
  refine ⟨_, _, rfl, Nat.le_refl _, by omega, fun j hj => ⟨g, 0, rfl, Nat.le_refl _, (Array.getElem?_eq_some_iff.1 h).1, ?_⟩⟩
  obtain ⟨h0, h1, h2⟩ := tmV_get l j hj
  rw [Nat.zero_add]
  rw [Lib.cell_of_heap h, Lib.cell_of_heap h, Lib.cell_of_heap h]
  exact ⟨by simpa using h0, by simpa using h1, by simpa using h2⟩

def exL : List Tm := [(10, 2, 2), (10, 1, 3), (7, 1, 1)]
def exQ : List Tm := [(7, 1, 1), (10, 1, 3), (10, 2, 2)]
def exR : List Tm := [(10, 1, 3), (10, 2, 2), (12, 1, 1)]
theorem ex_adds : addsL exL = exQ ∧ addsB exL = true := by decide +kernel
theorem ex_add : addQ exQ (12, 1, 1) = exR ∧ addE exQ (12, 1, 1) = 0 := by decide +kernel

/-- What stays as it is while awake compares. -/
abbrev AwS (g4 o4 g6 o6 B : Nat) (w w' : World) : Prop :=
  (w'.cell? ⟨g4, o4, none⟩ = some (.int .i64 7) ∧ w'.cell? ⟨g4, o4 + 1, none⟩ = some (.int .i64 1) ∧ w'.cell? ⟨g4, o4 + 2, none⟩ = some (.int .i64 1)) ∧ (w'.cell? ⟨g4, o4 + 3, none⟩ = some (.int .i64 10) ∧ w'.cell? ⟨g4, o4 + 3 + 1, none⟩ = some (.int .i64 1) ∧ w'.cell? ⟨g4, o4 + 3 + 2, none⟩ = some (.int .i64 3)) ∧
  (w'.cell? ⟨g6, o6 + 6, none⟩ = some (.int .i64 12) ∧ w'.cell? ⟨g6, o6 + 6 + 1, none⟩ = some (.int .i64 1) ∧ w'.cell? ⟨g6, o6 + 6 + 2, none⟩ = some (.int .i64 1)) ∧ Below B w w' ∧ B ≤ w'.heap.size ∧ g4 < w'.heap.size ∧ g6 < w'.heap.size
theorem aw_keep {g4 o4 g6 o6 B : Nat} {w w' w'' : World} (h : AwS g4 o4 g6 o6 B w w') (hb : Below w'.heap.size w' w'') : AwS g4 o4 g6 o6 B w w'' := by
  obtain ⟨⟨a0, a1, a2⟩, ⟨b0, b1, b2⟩, ⟨c0, c1, c2⟩, h4, h5, h6, h7⟩ := h
  have hs := hb.size
  exact ⟨⟨(hb.cell (p := ⟨g4, _, none⟩) h6).trans a0, (hb.cell (p := ⟨g4, _, none⟩) h6).trans a1, (hb.cell (p := ⟨g4, _, none⟩) h6).trans a2⟩, ⟨(hb.cell (p := ⟨g4, _, none⟩) h6).trans b0, (hb.cell (p := ⟨g4, _, none⟩) h6).trans b1, (hb.cell (p := ⟨g4, _, none⟩) h6).trans b2⟩,
    ⟨(hb.cell (p := ⟨g6, _, none⟩) h7).trans c0, (hb.cell (p := ⟨g6, _, none⟩) h7).trans c1, (hb.cell (p := ⟨g6, _, none⟩) h7).trans c2⟩, h4.trans (hb.mono h5), by omega, by omega, by omega⟩
theorem aw_drew {g4 o4 g6 o6 B : Nat} {w w' : World} (h : AwS g4 o4 g6 o6 B w w') : AwS g4 o4 g6 o6 B w w'.drew := aw_keep h ⟨rfl, rfl, rfl, Nat.le_refl _, fun _ _ => rfl⟩
theorem aw_below {g4 o4 g6 o6 B : Nat} {w w' : World} (h : AwS g4 o4 g6 o6 B w w') : Below B w w' := h.2.2.2.1

set_option maxRecDepth 100000 in
set_option maxHeartbeats 4000000 in
theorem awake_any (w : World) : Calls Try.prog 12 #[] w fun e w' => e = .returned (.bool true) ∧ Below w.heap.size w w' := by
  have S1 := Lib.hid (fun W => sleep_any 3 10 W)
  have S2 := Lib.hid (fun W => sleep_any 1 7 W)
  have S3 := Lib.hid (fun W => sleep_any 1 12 W)
  go_enter Try.func12, Try.ntmps12
  go_wp2_with fail
  refine (S1.out _).mono ?_
  rintro e w1 ⟨rfl, b1⟩
  have B1 := Lib.hid b1
  clear b1
  go_wp2_with fail
  refine (S2.out _).mono ?_
  rintro e w2 ⟨rfl, b2⟩
  have B2 := Lib.hid (B1.out.trans (b2.mono B1.out.size))
  clear b2
  have hk : KtC (w2.alloc (.cells #[.int .i64 10, .int .i64 2, .int .i64 2, .int .i64 10, .int .i64 1, .int .i64 3, .int .i64 7, .int .i64 1, .int .i64 1] TT)) (.slice (some ⟨w2.heap.size, 0, none⟩) 3 3) exL := (ktc_block (l := exL) (World.alloc_heap_new w2 _) (by decide)).known
  have hAD := added_any _ _ _ hk (by decide)
  rw [ex_adds.1, ex_adds.2] at hAD
  have HAD := Lib.hid hAD
  have B3 := Lib.hid (B2.out.alloc B2.out.size (.cells #[.int .i64 10, .int .i64 2, .int .i64 2, .int .i64 10, .int .i64 1, .int .i64 3, .int .i64 7, .int .i64 1, .int .i64 1] TT))
  clear hAD hk
  go_wp2_with fail
  refine HAD.out.mono ?_
  rintro e w4 ⟨v4, rfl, hf4, b4⟩
  have B4 := Lib.hid (B3.out.trans (b4.mono B3.out.size))
  have HK4 := Lib.hid hf4.known
  clear b4 hf4
  go_wp2_with fail
  refine (S3.out _).mono ?_
  rintro e w5 ⟨rfl, b5⟩
  have B5 := Lib.hid (B4.out.trans (b5.mono B4.out.size))
  have HK5 := Lib.hid (HK4.out.below b5)
  clear b5
  have hA := tAdd_any v4 exQ 12 1 1 w5 HK5.out (by decide)
  rw [ex_add.1, ex_add.2] at hA
  unfold tmA encT at hA
  dsimp only at hA
  have HA := Lib.hid hA
  clear hA
  go_wp2_with fail
  refine HA.out.mono ?_
  rintro e w6 ⟨v6, rfl, hf6, b6⟩
  have B6 := Lib.hid (B5.out.trans (b6.mono B5.out.size))
  have HK6 := Lib.hid (HK5.out.below b6)
  have HR6 := Lib.hid hf6.known
  clear b6 hf6
  obtain ⟨a4, c4, e4, h41, h42, hA4⟩ := HK6.out
  obtain ⟨a6, c6, e6, h61, h62, hA6⟩ := HR6.out
  obtain ⟨g4, o4, rfl, _, hg4, p0⟩ := hA4.some_ (by decide)
  obtain ⟨g6, o6, rfl, _, hg6, r0⟩ := hA6.some_ (by decide)
  rw [show exQ.length = 3 from rfl] at e4
  rw [show exR.length = 3 from rfl] at e6
  subst e4 e6
  have p00 : w6.cell? ⟨g4, o4, none⟩ = some (.int .i64 7) ∧ w6.cell? ⟨g4, o4 + 1, none⟩ = some (.int .i64 1) ∧ w6.cell? ⟨g4, o4 + 2, none⟩ = some (.int .i64 1) := p0 0 (by decide)
  have p01 : w6.cell? ⟨g4, o4 + 3, none⟩ = some (.int .i64 10) ∧ w6.cell? ⟨g4, o4 + 3 + 1, none⟩ = some (.int .i64 1) ∧ w6.cell? ⟨g4, o4 + 3 + 2, none⟩ = some (.int .i64 3) := p0 1 (by decide)
  have r02 : w6.cell? ⟨g6, o6 + 6, none⟩ = some (.int .i64 12) ∧ w6.cell? ⟨g6, o6 + 6 + 1, none⟩ = some (.int .i64 1) ∧ w6.cell? ⟨g6, o6 + 6 + 2, none⟩ = some (.int .i64 1) := r0 2 (by decide)
  have HS : Hid (AwS g4 o4 g6 o6 w.heap.size w w6) := Lib.hid ⟨p00, p01, r02, B6.out, B6.out.size, hg4, hg6⟩
  have q1 : ∀ w, (binOp .eql 24 (.agg #[.int .i64 7, .int .i64 1, .int .i64 1]) (.agg #[.int .i64 7, .int .i64 1, .int .i64 1])).run Try.prog w = .ok (.bool true) w := fun w => run_eqT 7 1 1 7 1 1 w
  have q2 : ∀ w, (binOp .eql 24 (.agg #[.int .i64 10, .int .i64 1, .int .i64 3]) (.agg #[.int .i64 10, .int .i64 1, .int .i64 3])).run Try.prog w = .ok (.bool true) w := fun w => run_eqT 10 1 3 10 1 3 w
  have q3 : ∀ w, (binOp .eql 24 (.agg #[.int .i64 12, .int .i64 1, .int .i64 1]) (.agg #[.int .i64 12, .int .i64 1, .int .i64 1])).run Try.prog w = .ok (.bool true) w := fun w => run_eqT 12 1 1 12 1 1 w
  clear h41 h42 h61 h62 hA4 hA6 hg4 hg6 p0 r0 HK6 HR6 HK5 HK4 HAD HA B1 B2 B3 B4 B5 B6 p00 p01 r02
  go_wp2_with fail
  go_region_held3 (fun w' => AwS g4 o4 g6 o6 w.heap.size w w')
    (first | exact aw_drew HS.out | exact aw_keep (by assumption) (by assumption))
    (first | (go_at_call 36; (with_reducible refine (S1.out _).mono ?_); rintro e w7 ⟨rfl, b7⟩) | (go_at_call 36; (with_reducible refine (S2.out _).mono ?_); rintro e w8 ⟨rfl, b8⟩) | (go_at_call 36; (with_reducible refine (S3.out _).mono ?_); rintro e w9 ⟨rfl, b9⟩))
  have hb9 : Below w.heap.size w w9 := aw_below (by assumption : AwS g4 o4 g6 o6 w.heap.size w w9)
  go_wp2
  go_ret
  exact ⟨rfl, hb9⟩

end Go.Proofs.Ytcmcgcogahkamaa
