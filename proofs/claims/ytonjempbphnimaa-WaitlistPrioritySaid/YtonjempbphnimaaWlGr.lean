/-
  What the program's Grant of waiters returns.
-/
import Derived.RangeFuncBox
import Derived.Test.YtonjempbphnimaaWlSplit
import Derived.Test.YtonjempbphnimaaWlGrP
namespace Go.Proofs.Ytonjempbphnimaa
open Go.RowKit Go.Shelf

/-- The three variables of Grant's function. -/
def GrI (n : Nat) (skip : Bool) (s : List Wl × List Wl × Bool × Int) (W : World) : Prop := Boxed W n 4 (.bool skip) ∧ Boxed W (n + 1) 3 (.int .i64 s.2.2.2) ∧ Boxed W (n + 2) 4 (.bool s.2.2.1)
def GrS (n b : Nat) : Prop := n ≤ b ∧ b < n + 3
theorem GrI.keep {n : Nat} {skip : Bool} {s : List Wl × List Wl × Bool × Int} {W W' : World} (h : GrI n skip s W) (hk : ∀ b, GrS n b → W'.heap[b]? = W.heap[b]?) : GrI n skip s W' :=
  ⟨(hk n ⟨Nat.le_refl _, by omega⟩).trans h.1, (hk (n + 1) ⟨by omega, by omega⟩).trans h.2.1, (hk (n + 2) ⟨by omega, by omega⟩).trans h.2.2⟩
def canN (skip : Bool) (u : Int) (ts : List Wl) (k : Nat) : Bool := canG (grS skip u (ts.take k)) (gw ts k)
theorem selN_grant (skip : Bool) (u : Int) (ts : List Wl) : ∀ k, k ≤ ts.length → selN (canN skip u ts) true ts k = (grS skip u (ts.take k)).1 ∧ selN (canN skip u ts) false ts k = (grS skip u (ts.take k)).2.1 := by
  intro k
  induction k with
  | zero => intro _; simp [selN, grS]
  | succ k ih =>
    intro hk
    obtain ⟨h1, h2⟩ := ih (by omega)
    rw [selN_succ, selN_succ, grS_succ skip u ts k (by omega), h1, h2]
    by_cases hc : (grS skip u (ts.take k)).2.2.1 = false ∧ 0 ≤ (gw ts k).2.2.1 ∧ (gw ts k).2.2.1 ≤ (grS skip u (ts.take k)).2.2.2
    · obtain ⟨e1, e2⟩ := stG_can (skip := skip) hc
      rw [e2]
      have : canN skip u ts k = true := e1
      rw [this]
      simp
    · obtain ⟨e1, e2⟩ := stG_cannot (skip := skip) hc
      rw [e2]
      have : canN skip u ts k = false := e1
      rw [this]
      simp
theorem gr_store {n : Nat} {skip : Bool} {s s' : List Wl × List Wl × Bool × Int} {W W1 W2 : World} (h : GrI n skip s W) (hb : Below W.heap.size W W1) (hs : W2 = W1.setCell ⟨n + 1, 0, none⟩ (.int .i64 s'.2.2.2)) (he : s'.2.2.1 = s.2.2.1) : GrI n skip s' W2 ∧ KeepS (GrS n) W W2 := by
  have h1 := h.keep (W' := W1) (fun b hb' => hb.block b (by have := h.2.2.lt; have := hb'.2; omega))
  subst hs
  have hg := grownBy_setCell' W1 (n + 1) (.int .i64 s'.2.2.2)
  refine ⟨⟨h1.1.kept hg (by simp), h1.2.1.set _, by rw [he]; exact h1.2.2.kept hg (by simp)⟩, ?_⟩
  refine ⟨hg.os.trans hb.os, hg.tape.trans hb.tape, hg.output.trans hb.output, Nat.le_trans hb.size hg.size, fun b hb' hS => ?_⟩
  exact (hg.block b (Nat.lt_of_lt_of_le hb' hb.size) (fun e => hS (by cases e; exact ⟨by omega, by omega⟩))).trans (hb.block b hb')
theorem gr_stop {n : Nat} {skip : Bool} {s s' : List Wl × List Wl × Bool × Int} {W W1 W2 : World} (h : GrI n skip s W) (hb : Below W.heap.size W W1) (hs : W2 = W1.setCell ⟨n + 2, 0, none⟩ (.bool s'.2.2.1)) (he : s'.2.2.2 = s.2.2.2) : GrI n skip s' W2 ∧ KeepS (GrS n) W W2 := by
  have h1 := h.keep (W' := W1) (fun b hb' => hb.block b (by have := h.2.2.lt; have := hb'.2; omega))
  subst hs
  have hg := grownBy_setCell' W1 (n + 2) (.bool s'.2.2.1)
  refine ⟨⟨h1.1.kept hg (by simp), by rw [he]; exact h1.2.1.kept hg (by simp), h1.2.2.set _⟩, ?_⟩
  refine ⟨hg.os.trans hb.os, hg.tape.trans hb.tape, hg.output.trans hb.output, Nat.le_trans hb.size hg.size, fun b hb' hS => ?_⟩
  exact (hg.block b (Nat.lt_of_lt_of_le hb' hb.size) (fun e => hS (by cases e; exact ⟨by omega, by omega⟩))).trans (hb.block b hb')

set_option maxRecDepth 100000 in
set_option maxHeartbeats 2000000 in
theorem grant1_any (n : Nat) (skip : Bool) (s : List Wl × List Wl × Bool × Int) (a b c d f : Int) (W : World) (hI : GrI n skip s W) (hu : -9223372036854775808 ≤ s.2.2.2 ∧ s.2.2.2 ≤ 9223372036854775807) :
    Calls Try.prog 48 #[.agg #[.int .i64 a, .int .i64 b, .int .i64 c, .int .i64 d, .int .i64 f], .pointer (some ⟨n + 2, 0, none⟩), .pointer (some ⟨n + 1, 0, none⟩), .pointer (some ⟨n, 0, none⟩)] W fun e W' => e = .returned (.bool (canG s (a, b, c, d, f))) ∧ GrI n skip (stG skip s (a, b, c, d, f)) W' ∧ KeepS (GrS n) W W' := by
  have hb0 : Below W.heap.size W (W.alloc (.cells #[.int .i64 a, .int .i64 b, .int .i64 c, .int .i64 d, .int .i64 f] TW)) := (Below.refl _ _).alloc (Nat.le_refl _) _
  have hI1 := hI.keep (W' := W.alloc (.cells #[.int .i64 a, .int .i64 b, .int .i64 c, .int .i64 d, .int .i64 f] TW)) (fun b hb' => hb0.block b (by have := hI.2.2.lt; have := hb'.2; omega))
  obtain ⟨x0, x1, x2, x3, x4⟩ := box5 W a b c d f
  have p0 := hI1.1.cell
  have p1 := hI1.2.1.cell
  have p2 := hI1.2.2.cell
  have f1 := hI1.2.1.frozen
  have f2 := hI1.2.2.frozen
  have HI := Lib.hid hI
  have HB0 := Lib.hid hb0
  obtain ⟨g, o, st, left⟩ := s
  dsimp only at p1 p2 hu
  obtain ⟨W1, hW1⟩ : ∃ V, W.alloc (.cells #[.int .i64 a, .int .i64 b, .int .i64 c, .int .i64 d, .int .i64 f] TW) = V := ⟨_, rfl⟩
  rw [hW1] at x0 x1 x2 x3 x4 p0 p1 p2 f1 f2 HB0
  simp only [Nat.zero_add] at x0 x1 x2 x3 x4
  have HW1 := Lib.hid hW1
  clear hI hb0 hI1 hW1 x0 x1 x3 x4
  cases st with
  | true =>
    obtain ⟨e1, e2⟩ := stG_cannot (skip := skip) (s := (g, o, true, left)) (t := (a, b, c, d, f)) (fun h => by cases h.1)
    rw [e1, e2]
    clear e1 e2
    go_enter Try.func48, Try.ntmps48
    go_wp2_with (rw [HW1.out])
    go_ret
    exact ⟨rfl, gr_stop HI.out HB0.out rfl rfl⟩
  | false =>
    by_cases hc : c < 0
    · obtain ⟨e1, e2⟩ := stG_cannot (skip := skip) (s := (g, o, false, left)) (t := (a, b, c, d, f)) (fun h => by have := h.2.1; dsimp only at this; omega)
      rw [e1, e2]
      clear e1 e2
      go_enter Try.func48, Try.ntmps48
      go_wp2_with (rw [HW1.out])
      go_ret
      exact ⟨rfl, gr_stop HI.out HB0.out rfl rfl⟩
    · by_cases hl : left < c
      · obtain ⟨e1, e2⟩ := stG_cannot (skip := skip) (s := (g, o, false, left)) (t := (a, b, c, d, f)) (fun h => by have := h.2.2; dsimp only at this; omega)
        rw [e1, e2]
        clear e1 e2
        go_enter Try.func48, Try.ntmps48
        go_wp2_with (rw [HW1.out])
        go_ret
        exact ⟨rfl, gr_stop HI.out HB0.out rfl rfl⟩
      · obtain ⟨e1, e2⟩ := stG_can (skip := skip) (s := (g, o, false, left)) (t := (a, b, c, d, f)) ⟨rfl, by dsimp only; omega, by dsimp only; omega⟩
        rw [e1, e2]
        have hw : IntKind.i64.wrap (left - c) = left - c := IntWalk.i64_in _ (by omega)
        clear e1 e2
        go_enter Try.func48, Try.ntmps48
        go_wp2_with (rw [HW1.out])
        go_ret
        exact ⟨rfl, gr_store HI.out HB0.out rfl rfl⟩

end Go.Proofs.Ytonjempbphnimaa
