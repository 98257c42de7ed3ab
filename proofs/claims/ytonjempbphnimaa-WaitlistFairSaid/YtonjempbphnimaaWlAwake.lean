/-
  What the statements' awake returns: the examples of the chapter.
-/
import Derived.Deep.RegionHeld3
import Derived.Test.YtonjempbphnimaaWlPush
import Derived.Test.YtonjempbphnimaaWlGrant
import Derived.Test.YtonjempbphnimaaWlTasks
import Derived.Test.YtonjempbphnimaaWlEq
import Derived.Test.YtonjempbphnimaaWlEqI
namespace Go.Proofs.Ytonjempbphnimaa
open Go.RowKit Go.Shelf

set_option maxRecDepth 100000 in
theorem waiter_any (t v p : Int) (w : World) : Calls Try.prog 41 #[.int .i64 t, .int .i64 v, .int .i64 p] w fun e w' => e = .returned (.agg #[.int .i64 t, .int .i64 60, .int .i64 v, .int .i64 p, .int .i64 (-1)]) ∧ Below w.heap.size w w' := by
  go_enter Try.func41, Try.ntmps41
  go_wp2
  refine bodyPost_ret (v := .agg #[.int .i64 t, .int .i64 60, .int .i64 v, .int .i64 p, .int .i64 (-1)]) ?_ rfl ⟨rfl, ?_⟩
  · simp [results, Try.results41, go_sem]
  · exact (Below.refl _ w).alloc (Nat.le_refl _) _

def exL : List Wl := [(1, 60, 2, 5, -1), (2, 60, 4, 3, -1)]
def exP : List Wl := [(1, 60, 2, 5, -1), (3, 60, 1, 5, -1), (2, 60, 4, 3, -1)]
def exQ : List Wl := [(1, 60, 2, 0, -1), (2, 60, 4, 0, -1), (3, 60, 1, 0, -1)]
def exA : List Wl := [(1, 60, 2, 0, -1)]
def exB : List Wl := [(1, 60, 2, 0, -1), (3, 60, 1, 0, -1)]
theorem ex_push : pshQ 2 exL (3, 60, 1, 5, -1) = exP ∧ pshE 2 exL (3, 60, 1, 5, -1) = 0 := by decide +kernel
theorem ex_gra : grG false 4 exQ = exA ∧ grN false 4 exQ = 2 := by decide +kernel
theorem ex_grb : grG true 4 exQ = exB ∧ grN true 4 exQ = 1 := by decide +kernel
theorem ex_tsk : tskL exP = [1, 3, 2] := by decide +kernel

/-- What stays as it is while awake compares. -/
abbrev AwW (g : Nat) (vp va vb : Value) (w w' : World) : Prop :=
  (w'.cell? ⟨g, 0, none⟩ = some (.int .i64 1) ∧ w'.cell? ⟨g, 1, none⟩ = some (.int .i64 60) ∧ w'.cell? ⟨g, 2, none⟩ = some (.int .i64 2) ∧ w'.cell? ⟨g, 3, none⟩ = some (.int .i64 0) ∧ w'.cell? ⟨g, 4, none⟩ = some (.int .i64 (-1))) ∧
  (w'.cell? ⟨g, 10, none⟩ = some (.int .i64 3) ∧ w'.cell? ⟨g, 11, none⟩ = some (.int .i64 60) ∧ w'.cell? ⟨g, 12, none⟩ = some (.int .i64 1) ∧ w'.cell? ⟨g, 13, none⟩ = some (.int .i64 0) ∧ w'.cell? ⟨g, 14, none⟩ = some (.int .i64 (-1))) ∧
  KwC w' vp exP ∧ KwC w' va exA ∧ KwC w' vb exB ∧ Below w.heap.size w w' ∧ w.heap.size ≤ w'.heap.size ∧ g < w'.heap.size
theorem aww_keep {g : Nat} {vp va vb : Value} {w w' w'' : World} (h : AwW g vp va vb w w') (hb : Below w'.heap.size w' w'') : AwW g vp va vb w w'' := by
  obtain ⟨⟨a0, a1, a2, a3, a4⟩, ⟨b0, b1, b2, b3, b4⟩, h3, h4, h5, h6, h7, h8⟩ := h
  have hs := hb.size
  exact ⟨⟨(hb.cell (p := ⟨g, _, none⟩) h8).trans a0, (hb.cell (p := ⟨g, _, none⟩) h8).trans a1, (hb.cell (p := ⟨g, _, none⟩) h8).trans a2, (hb.cell (p := ⟨g, _, none⟩) h8).trans a3, (hb.cell (p := ⟨g, _, none⟩) h8).trans a4⟩,
    ⟨(hb.cell (p := ⟨g, _, none⟩) h8).trans b0, (hb.cell (p := ⟨g, _, none⟩) h8).trans b1, (hb.cell (p := ⟨g, _, none⟩) h8).trans b2, (hb.cell (p := ⟨g, _, none⟩) h8).trans b3, (hb.cell (p := ⟨g, _, none⟩) h8).trans b4⟩,
    h3.below hb, h4.below hb, h5.below hb, h6.trans (hb.mono h7), by omega, by omega⟩
theorem aww_alloc {g : Nat} {vp va vb : Value} {w w' : World} {o : Obj} (h : AwW g vp va vb w w') : AwW g vp va vb w (w'.alloc o) := aww_keep h ((Below.refl _ _).alloc (Nat.le_refl _) _)
theorem aww_drew {g : Nat} {vp va vb : Value} {w w' : World} (h : AwW g vp va vb w w') : AwW g vp va vb w w'.drew := aww_keep h ⟨rfl, rfl, rfl, Nat.le_refl _, fun _ _ => rfl⟩
theorem aww_below {g : Nat} {vp va vb : Value} {w w' : World} (h : AwW g vp va vb w w') : Below w.heap.size w w' := h.2.2.2.2.2.1

theorem aw_tasks {g : Nat} {vp va vb : Value} {w w' : World} (h : AwW g vp va vb w w') : Calls Try.prog 25 #[vp] w' fun e w'' => ∃ u, e = .returned u ∧ KlC w'' u [1, 3, 2] ∧ Below w'.heap.size w' w'' := by
  have := wTasks_any vp exP w' h.2.2.1 (by decide) (by decide +kernel)
  rwa [ex_tsk] at this
theorem klc_new (w : World) : KlC (w.alloc (.cells #[.int .i64 1, .int .i64 3, .int .i64 2] 3)) (.slice (some ⟨w.heap.size, 0, none⟩) 3 3) [1, 3, 2] := by
  refine ⟨_, _, rfl, fun j hj => ⟨w.heap.size, 0, rfl, ?_, ?_⟩, by decide⟩
  · simp
  · rw [Lib.cell_of_heap (heap_alloc_new w _)]
    simp at hj
    obtain rfl | rfl | rfl : j = 0 ∨ j = 1 ∨ j = 2 := by omega
    all_goals rfl
theorem aw_eqi1 {u : Value} {w : World} (hu : KlC w u [1, 3, 2]) : Calls Try.prog 24 #[u, .slice (some ⟨w.heap.size, 0, none⟩) 3 3] (w.alloc (.cells #[.int .i64 1, .int .i64 3, .int .i64 2] 3)) fun e w'' => e = .returned (.bool true) ∧ Below (w.alloc (.cells #[.int .i64 1, .int .i64 3, .int .i64 2] 3)).heap.size (w.alloc (.cells #[.int .i64 1, .int .i64 3, .int .i64 2] 3)) w'' := by
  have := eqI_below u _ [1, 3, 2] [1, 3, 2] _ (hu.below ((Below.refl _ _).alloc (Nat.le_refl _) _)) (klc_new w)
  rwa [decide_eq_true rfl] at this
theorem aw_eqi2 {u : Value} {w w' : World} (hb : Below (w.alloc (.cells #[.int .i64 1, .int .i64 3, .int .i64 2] 3)).drew.heap.size (w.alloc (.cells #[.int .i64 1, .int .i64 3, .int .i64 2] 3)).drew w') (hu : KlC w' u [1, 3, 2]) : Calls Try.prog 24 #[u, .slice (some ⟨w.heap.size, 0, none⟩) 3 3] w' fun e w'' => e = .returned (.bool true) ∧ Below w'.heap.size w' w'' := by
  have h0 : Below (w.alloc (.cells #[.int .i64 1, .int .i64 3, .int .i64 2] 3)).heap.size (w.alloc (.cells #[.int .i64 1, .int .i64 3, .int .i64 2] 3)) w' := Below.trans ((Below.refl _ _).drew) hb
  have := eqI_below u _ [1, 3, 2] [1, 3, 2] _ hu ((klc_new w).below h0)
  rwa [decide_eq_true rfl] at this
theorem aw_eqa {g : Nat} {vp va vb : Value} {w w' : World} (h : AwW g vp va vb w w') : Calls Try.prog 17 #[va, .slice (some ⟨g, 0, none⟩) 1 3] w' fun e w'' => e = .returned (.bool true) ∧ Below w'.heap.size w' w'' := by
  obtain ⟨a0, a1, a2, a3, a4⟩ := h.1
  have hk : KwC w' (.slice (some ⟨g, 0, none⟩) 1 3) exA := by
    refine ⟨_, 3, rfl, by decide, by decide, fun j hj => ⟨g, 0, rfl, trivial, h.2.2.2.2.2.2.2, ?_⟩⟩
    obtain rfl : j = 0 := by simp [exA] at hj; omega
    exact ⟨a0, a1, a2, a3, a4⟩
  have := eqW_at va _ exA exA w' h.2.2.2.1 hk
  rwa [decide_eq_true rfl] at this
theorem aw_eqb {g : Nat} {vp va vb : Value} {w w' : World} (h : AwW g vp va vb w (w'.alloc (.cells #[.int .i64 1, .int .i64 60, .int .i64 2, .int .i64 0, .int .i64 (-1), .int .i64 3, .int .i64 60, .int .i64 1, .int .i64 0, .int .i64 (-1)] 24))) : Calls Try.prog 17 #[vb, .slice (some ⟨w'.heap.size, 0, none⟩) 2 2] (w'.alloc (.cells #[.int .i64 1, .int .i64 60, .int .i64 2, .int .i64 0, .int .i64 (-1), .int .i64 3, .int .i64 60, .int .i64 1, .int .i64 0, .int .i64 (-1)] 24)) fun e w'' => e = .returned (.bool true) ∧ Below (w'.alloc (.cells #[.int .i64 1, .int .i64 60, .int .i64 2, .int .i64 0, .int .i64 (-1), .int .i64 3, .int .i64 60, .int .i64 1, .int .i64 0, .int .i64 (-1)] 24)).heap.size (w'.alloc (.cells #[.int .i64 1, .int .i64 60, .int .i64 2, .int .i64 0, .int .i64 (-1), .int .i64 3, .int .i64 60, .int .i64 1, .int .i64 0, .int .i64 (-1)] 24)) w'' := by
  have hk : FwC w'.heap.size (w'.alloc (.cells #[.int .i64 1, .int .i64 60, .int .i64 2, .int .i64 0, .int .i64 (-1), .int .i64 3, .int .i64 60, .int .i64 1, .int .i64 0, .int .i64 (-1)] 24)) (.slice (some ⟨w'.heap.size, 0, none⟩) 2 2) exB := kwc_block (l := exB) (heap_alloc_new w' _) (by decide)
  have := eqW_at vb _ exB exB _ h.2.2.2.2.1 hk.known
  rwa [decide_eq_true rfl] at this

set_option maxRecDepth 100000 in
set_option maxHeartbeats 4000000 in
theorem awake_any (w : World) : Calls Try.prog 12 #[] w fun e w' => e = .returned (.bool true) ∧ Below w.heap.size w w' := by
  have S0 := Lib.hid (fun W => waiter_any 1 2 5 W)
  have S1 := Lib.hid (fun W => waiter_any 2 4 3 W)
  have S2 := Lib.hid (fun W => waiter_any 3 1 5 W)
  have S3 := Lib.hid (fun W => waiter_any 1 2 0 W)
  have S4 := Lib.hid (fun W => waiter_any 2 4 0 W)
  have S5 := Lib.hid (fun W => waiter_any 3 1 0 W)
  go_enter Try.func12, Try.ntmps12
  go_wp2_with fail
  refine (S0.out _).mono ?_
  rintro e w1 ⟨rfl, b1⟩
  have B1 := Lib.hid (b1)
  clear b1
  go_wp2_with fail
  refine (S1.out _).mono ?_
  rintro e w2 ⟨rfl, b2⟩
  have B2 := Lib.hid (B1.out.trans (b2.mono B1.out.size))
  clear b2
  obtain ⟨W3, hW3⟩ : ∃ W, w2.alloc (.cells #[.int .i64 1, .int .i64 60, .int .i64 2, .int .i64 5, .int .i64 (-1), .int .i64 2, .int .i64 60, .int .i64 4, .int .i64 3, .int .i64 (-1)] TW) = W := ⟨_, rfl⟩
  have b3 : Below w2.heap.size w2 W3 := by rw [← hW3]; exact (Below.refl _ _).alloc (Nat.le_refl _) _
  have k3 : FwC w2.heap.size W3 (.slice (some ⟨w2.heap.size, 0, none⟩) 2 2) exL := by rw [← hW3]; exact kwc_block (l := exL) (heap_alloc_new w2 _) (by decide)
  have B3 := Lib.hid (B2.out.trans (b3.mono B2.out.size))
  have K3 := Lib.hid k3.known
  have HW3 := Lib.hid hW3
  clear b3 k3 hW3
  go_wp2_with fail
  rw [HW3.out]
  refine (S2.out _).mono ?_
  rintro e w4 ⟨rfl, b4⟩
  have B4 := Lib.hid (B3.out.trans (b4.mono B3.out.size))
  have K4 := Lib.hid (KwC.below K3.out b4)
  clear b4
  have hP := wPush_any _ 2 exL 3 60 1 5 (-1) w4 K4.out
  rw [ex_push.1, ex_push.2] at hP
  have HP := Lib.hid hP
  clear hP
  go_wp2_with fail
  refine HP.out.mono ?_
  rintro e w5 ⟨vp, rfl, fp, b5⟩
  have B5 := Lib.hid (B4.out.trans (b5.mono B4.out.size))
  have K5 := Lib.hid (FwC.known fp)
  clear b5 fp
  go_wp2_with fail
  refine (S3.out _).mono ?_
  rintro e w6 ⟨rfl, b6⟩
  have B6 := Lib.hid (B5.out.trans (b6.mono B5.out.size))
  have K6 := Lib.hid (KwC.below K5.out b6)
  clear b6
  go_wp2_with fail
  refine (S4.out _).mono ?_
  rintro e w7 ⟨rfl, b7⟩
  have B7 := Lib.hid (B6.out.trans (b7.mono B6.out.size))
  have K7 := Lib.hid (KwC.below K6.out b7)
  clear b7
  go_wp2_with fail
  refine (S5.out _).mono ?_
  rintro e w8 ⟨rfl, b8⟩
  have B8 := Lib.hid (B7.out.trans (b8.mono B7.out.size))
  have K8 := Lib.hid (KwC.below K7.out b8)
  clear b8
  obtain ⟨W9, hW9⟩ : ∃ W, w8.alloc (.cells #[.int .i64 1, .int .i64 60, .int .i64 2, .int .i64 0, .int .i64 (-1), .int .i64 2, .int .i64 60, .int .i64 4, .int .i64 0, .int .i64 (-1), .int .i64 3, .int .i64 60, .int .i64 1, .int .i64 0, .int .i64 (-1)] TW) = W := ⟨_, rfl⟩
  have b9 : Below w8.heap.size w8 W9 := by rw [← hW9]; exact (Below.refl _ _).alloc (Nat.le_refl _) _
  have h9 : W9.heap[w8.heap.size]? = some (.cells (wlV exQ).toArray TW (0, 0)) := by rw [← hW9]; exact heap_alloc_new w8 _
  have k9 : KwC W9 (.slice (some ⟨w8.heap.size, 0, none⟩) 3 3) exQ := (kwc_block (l := exQ) h9 (by decide)).known
  have B9 := Lib.hid (B8.out.trans (b9.mono B8.out.size))
  have K9 := Lib.hid (KwC.below K8.out b9)
  have Q9 := Lib.hid k9
  have C9 := Lib.hid h9
  have HW9 := Lib.hid hW9
  have HG := Lib.hid (fun W h => wGrant_any (.slice (some ⟨w8.heap.size, 0, none⟩) 3 3) exQ 4 false W h (by decide) (by decide))
  have HF := Lib.hid (fun W h => wGrant_any (.slice (some ⟨w8.heap.size, 0, none⟩) 3 3) exQ 4 true W h (by decide) (by decide))
  clear b9 h9 k9 hW9
  have hC := HG.out W9 Q9.out
  rw [ex_gra.1, ex_gra.2] at hC
  have HC10 := Lib.hid hC
  clear hC
  go_wp2_with fail
  rw [HW9.out]
  refine HC10.out.mono ?_
  rintro e w10 ⟨va, y10, rfl, f10, -, b10⟩
  have B10 := Lib.hid (B9.out.trans (b10.mono B9.out.size))
  have K10 := Lib.hid (KwC.below K9.out b10)
  have Q10 := Lib.hid (KwC.below Q9.out b10)
  have C10 : Hid (w10.heap[w8.heap.size]? = _) := Lib.hid ((b10.block _ (Array.getElem?_eq_some_iff.1 C9.out).1).trans C9.out)
  have A10 := Lib.hid (FwC.known f10)
  clear b10 f10
  have hC := HF.out w10 Q10.out
  rw [ex_grb.1, ex_grb.2] at hC
  have HC11 := Lib.hid hC
  clear hC
  go_wp2_with fail
  refine HC11.out.mono ?_
  rintro e w11 ⟨vb, y11, rfl, f11, -, b11⟩
  have B11 := Lib.hid (B10.out.trans (b11.mono B10.out.size))
  have K11 := Lib.hid (KwC.below K10.out b11)
  have Q11 := Lib.hid (KwC.below Q10.out b11)
  have C11 : Hid (w11.heap[w8.heap.size]? = _) := Lib.hid ((b11.block _ (Array.getElem?_eq_some_iff.1 C10.out).1).trans C10.out)
  have A11 := Lib.hid (KwC.below A10.out b11)
  have E11 := Lib.hid (FwC.known f11)
  clear b11 f11
  have HS : Hid (AwW w8.heap.size vp va vb w w11) := Lib.hid (by
    refine ⟨⟨?_, ?_, ?_, ?_, ?_⟩, ⟨?_, ?_, ?_, ?_, ?_⟩, K11.out, A11.out, E11.out, B11.out, B11.out.size, (Array.getElem?_eq_some_iff.1 C11.out).1⟩
    all_goals (rw [Lib.cell_of_heap C11.out]; rfl))
  clear K5 K6 K7 K8 K9 K10 K11 Q9 Q10 Q11 C9 C10 C11 A10 A11 E11 HC10 HC11 HG HF HP K3 K4 HW3 HW9 B1 B2 B3 B4 B5 B6 B7 B8 B9 B10 B11 S0 S1 S2 S3 S4 S5
  go_wp2_with fail
  go_region_held3 (fun w' => AwW w8.heap.size vp va vb w w')
    (first | exact aww_drew HS.out | exact aww_keep (by assumption) (by assumption) | exact aww_alloc (by assumption))
    (first | (go_at_call 25; (with_reducible refine (aw_tasks (by assumption)).mono ?_); rintro e wt ⟨u, rfl, ku, bt⟩) | (go_at_call 24; (with_reducible refine (aw_eqi1 (by assumption)).mono ?_); rintro e w12 ⟨rfl, b12⟩) | (go_at_call 17; (with_reducible refine (aw_eqa (by assumption)).mono ?_); rintro e w13 ⟨rfl, b13⟩) | (go_at_call 17; (with_reducible refine (aw_eqb (by assumption)).mono ?_); rintro e w14 ⟨rfl, b14⟩) | (go_at_call 24; (with_reducible refine (aw_eqi2 (by assumption) (by assumption)).mono ?_); rintro e w12 ⟨rfl, b12⟩))
  all_goals
    have hb14 : Below w.heap.size w w14 := aww_below (by assumption : AwW w8.heap.size vp va vb w w14)
    go_wp2
    go_ret
    exact ⟨rfl, hb14⟩

end Go.Proofs.Ytonjempbphnimaa
