/-
  What a round of TimersRun does to lists, and to memory.
-/
import Derived.Test.YtcmcgcogahkamaaTmMath
import Derived.Test.YtcmcgcogahkamaaTmPred
namespace Go.Proofs.Ytcmcgcogahkamaa
open Go.RowKit Go.Shelf

theorem run_step {l : List Tm} (hc : chkE l = 0) {j : Nat} (hj : j < l.length) : ∃ n, 0 < n ∧ j + n ≤ l.length ∧ nxtB (l.drop j) = true ∧ nxtT (l.drop j) = (gt l j).1 ∧ dueL (l.drop j) (gt l j).1 = (l.drop j).take n ∧ rstL (l.drop j) (gt l j).1 = l.drop (j + n) ∧
    l.take j ++ (l.drop j).take n = l.take (j + n) ∧ (((l.drop j).take n).any fun t => t.1 != (gt l j).1) = false ∧ (j + n < l.length → (gt l j).1 < (gt l (j + n)).1) := by
  have hq := chk_drop (n := j) hc
  have h0 : 0 < (l.drop j).length := by rw [List.length_drop]; omega
  have hT : (gt (l.drop j) 0).1 = (gt l j).1 := by rw [gt_drop, Nat.add_zero]
  obtain ⟨h1, h2⟩ := run_due hq h0
  rw [hT] at h1 h2
  have hn := dueN_le (l.drop j) (gt l j).1
  have hge := fun h => due_ge (l := l.drop j) (now := (gt l j).1) h
  have hdl : dueL (l.drop j) (gt l j).1 = (l.drop j).take (dueN (l.drop j) (gt l j).1) := by unfold dueL; rw [if_pos hq]
  rw [hdl] at h2
  have hrl : rstL (l.drop j) (gt l j).1 = l.drop (j + dueN (l.drop j) (gt l j).1) := by unfold rstL; rw [if_pos hq, List.drop_drop]
  rw [List.length_drop] at hn hge
  refine ⟨dueN (l.drop j) (gt l j).1, h1, by omega, ?_, ?_, hdl, hrl, ?_, h2, fun h => ?_⟩
  · unfold nxtB
    rw [decide_eq_true hq, decide_eq_true h0]
    rfl
  · unfold nxtT
    rw [if_pos hq, hT]
  · rw [← List.take_add]
  · have := hge (by omega)
    rw [gt_drop] at this
    exact this
theorem first_pos {l : List Tm} (hc : chkE l = 0) (h : 0 < l.length) : 0 < (gt l 0).1 := by
  have h1 := (chkE_iff.1 hc).1 _ (gt_mem h)
  unfold oneE at h1
  split at h1
  · cases h1
  · split at h1
    · cases h1
    · omega
theorem append_rest2 (W : World) (B : Nat) (v : Value) (o : List Tm) (φ : Nat → Prop) (ad : Option Addr) (c : Nat) (zs : List Tm) (hO : OwnT B o v W) (hA : TmA φ W ad zs) (hl : o.length ≤ 1000) (hz : zs.length ≤ 1000) (hBW : B ≤ W.heap.size) (h0 : 0 < zs.length) :
    ∃ v' w', (Builtin.append_ #[22, 22] 22 #[v, .slice ad zs.length c]).run Try.prog W = .ok v' w' ∧ OwnT B (o ++ zs) v' w' ∧ W.grownBy w' v.ownBlock ∧ Below B W w' := by
  obtain ⟨i3, ki, kz0, kz1, kz2⟩ := info_parts infoT
  have hr : W.ownsRow B TT 3 v o.length (tmV o) := hO
  obtain ⟨b, off, rfl, _⟩ := hA 0 h0
  have hc : ∀ j u, (tmV zs)[j]? = some u → W.cell? ((⟨b, off, none⟩ : Addr).add j) = some u := by
    intro j u hj
    rw [Addr.add_lit]
    exact hA.cells j u hj
  obtain ⟨v', w', h1, h2, h3, h4⟩ := run_append_own (P := Try.prog) W B 22 22 TT i3 (.agg #[.int .i64 0, .int .i64 0, .int .i64 0]) 3 24 Try.underlying22 ki kz0 kz1 kz2 rfl (by decide) _ _ _ hr ⟨b, off, none⟩ zs.length c (tmV zs) (by rw [tmV_length]) hc (tmV_one _) (by unfold maxLen; omega) (by omega) hBW
  refine ⟨v', w', h1, ?_, h3, (Below.refl B W).grown h3 hBW (fun k e => (World.ownsRow.lt hr k e).1)⟩
  unfold OwnT
  rw [tmV_append, List.length_append]
  exact h2
/-- Timers in blocks that are newer than a row stay when the row grows. -/
theorem ftc_grown {n : Nat} {V V' : World} {v : Value} {ts : List Tm} {r : Option Nat} (hF : FtC n V v ts) (hr : ∀ k, r = some k → k < n) (hg : V.grownBy V' r) : FtC n V' v ts := by
  obtain ⟨a, c, e, h1, h2, h3⟩ := hF
  refine ⟨a, c, e, h1, h2, fun j hj => ?_⟩
  obtain ⟨b, off, e1, e2, e3, e4, e5, e6⟩ := h3 j hj
  have hb := hg.block b e3 (fun e => by have := hr b e.symm; omega)
  exact ⟨b, off, e1, e2, Nat.lt_of_lt_of_le e3 hg.size, (World.cell?_of_block (a := ⟨b, off + j * 3, none⟩) hb).trans e4, (World.cell?_of_block (a := ⟨b, off + j * 3 + 1, none⟩) hb).trans e5, (World.cell?_of_block (a := ⟨b, off + j * 3 + 2, none⟩) hb).trans e6⟩
theorem OwnT.old {B : Nat} {o : List Tm} {v : Value} {w : World} (h : OwnT B o v w) : ∀ k, v.ownBlock = some k → k < w.heap.size := fun k e => (World.ownsRow.lt (show w.ownsRow B TT 3 v o.length (tmV o) from h) k e).2
theorem below_chain {w a b : World} (h : Below w.heap.size w a) (hb : Below a.heap.size a b) : Below w.heap.size w b := h.trans (hb.mono h.size)

end Go.Proofs.Ytcmcgcogahkamaa
