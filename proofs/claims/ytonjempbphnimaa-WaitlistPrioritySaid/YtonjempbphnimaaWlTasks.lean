/-
  What the program's Tasks of waiters returns.
-/
import Derived.Test.YtonjempbphnimaaWlSetA
import Derived.Test.YtonjempbphnimaaWlApp
namespace Go.Proofs.Ytonjempbphnimaa
open Go.RowKit Go.Shelf

theorem ts_apart {g : Nat} {mb : Option Nat} {seen : List Int} {W : World} (h : TsI g mb seen W) {B : Nat} {o : List Int} {v : Value} (hO : OwnZ B o v W) : ∀ b, mb = some b → v.ownBlock ≠ some b := by
  intro b hb hv
  obtain ⟨n, D, _, ⟨es, clock, h1, _⟩, _⟩ := h.mapS b hb
  have hO : W.ownsRow B TZ 1 v o.length (intV o) := hO
  rcases hO.2 with ⟨rfl, _⟩ | ⟨g', cap, cur, rfl, _, hg, _⟩
  · simp [Value.ownBlock] at hv
  · simp [Value.ownBlock] at hv
    subst hv
    rw [h1] at hg
    cases hg
theorem addS_tskL (ts : List Wl) (w : Wl) : addS (tskL ts) w.1 = tskL (ts ++ [w]) := by rw [tskL_snoc]; rfl

set_option maxRecDepth 100000 in
set_option maxHeartbeats 4000000 in
theorem wTasks_any (v : Value) (ts : List Wl) (w : World) (hK : KwC w v ts) (hl : ts.length ≤ 900) (hwf : ∀ t ∈ ts, (Lit.int .i64 t.1).wf = true) :
    Calls Try.prog 25 #[v] w fun e w' => ∃ u, e = .returned u ∧ KlC w' u (tskL ts) ∧ Below w.heap.size w w' := by
  obtain ⟨ad, cap, rfl, hc1, hc2, hA⟩ := hK.all
  have HA := Lib.hid hA
  have HWF := Lib.hid hwf
  clear hA hwf
  go_enter Try.func25, Try.ntmps25
  go_wp2
  go_loopw [4, 9] (fun y z wr => ∃ (k : Nat) (c : Value) (mb : Option Nat), c = y ∧ k ≤ ts.length ∧ z = .int .i64 k ∧ Hid (OwnZ (w.heap.size + 1) (tskL (ts.take k)) c wr) ∧ Hid (TsI w.heap.size mb (tskL (ts.take k)) wr) ∧ Hid (∀ b, mb = some b → w.heap.size ≤ b) ∧ Hid (Below w.heap.size w wr)) (fun _ z _ => ts.length - (intOf z).toNat)
  case atStart => exact ⟨0, _, none, rfl, Nat.zero_le _, rfl, Lib.hid (OwnZ.nil _ _), Lib.hid (ts_new w _ (by rfl)), Lib.hid (fun b hb => by cases hb), Lib.hid ((Below.refl _ w).alloc (Nat.le_refl _) _)⟩
  case round =>
    obtain ⟨k, c, mb, rfl, hk, rfl, HC, HT, HM, HB⟩ := hrel
    by_cases hkt : k < ts.length
    · have k1 : (k : Int) < (ts.length : Int) := by omega
      obtain ⟨bk, off, rfl, _, hb, c0, c1, c2, c3, c4⟩ := HA.out.below HB.out k hkt
      obtain ⟨⟨x0, x1, x2, x3, x4⟩, ht⟩ : ∃ t, gw ts k = t := ⟨_, rfl⟩
      rw [ht] at c0 c1 c2 c3 c4
      simp only [] at c0 c1 c2 c3 c4
      have hba : Below wr.heap.size wr (wr.alloc (.cells #[.int .i64 x0, .int .i64 x1, .int .i64 x2, .int .i64 x3, .int .i64 x4] TW)) := (Below.refl _ wr).alloc (Nat.le_refl _) _
      have HX := Lib.hid (box5 wr x0 x1 x2 x3 x4)
      have HBA := Lib.hid (HB.out.trans (hba.mono HB.out.size))
      have hw0 : (Lit.int .i64 x0).wf = true := by have := HWF.out _ (gw_mem hkt); rw [ht] at this; exact this
      have HN : Hid (addS (tskL (ts.take k)) x0 = tskL (ts.take (k + 1))) := Lib.hid (by rw [take_snocW ts k hkt, ht, ← addS_tskL])
      have hlen : (tskL (ts.take k)).length ≤ 900 := by have := tskL_length (ts.take k); rw [List.length_take] at this; omega
      have HAD := Lib.hid (tsAdd_any w.heap.size mb _ x0 _ (HT.out.below hba) hw0 (by omega))
      have HCA : Hid (OwnZ (w.heap.size + 1) (tskL (ts.take k)) c (wr.alloc (.cells #[.int .i64 x0, .int .i64 x1, .int .i64 x2, .int .i64 x3, .int .i64 x4] TW))) := Lib.hid (World.ownsRow.alloc (show wr.ownsRow _ TZ 1 c _ _ from HC.out) _)
      have HAP := Lib.hid (ts_apart (HT.out.below hba) HCA.out)
      have hlt0 := HT.out.lt
      generalize hS : tskL (ts.take k) = S at HC HT HN HAD HCA HAP hlen
      clear ht hw0 hS
      go_wp2_with fail
      refine HAD.out.mono ?_
      rintro e w2 ⟨rfl, mb', hmb, ht2, hk2⟩
      have hne : wr.heap.size ≠ w.heap.size := by omega
      have hnm : some wr.heap.size ≠ mb := by
        rintro rfl
        obtain ⟨n, D, _, ho, _⟩ := HT.out.mapS _ rfl
        exact Nat.lt_irrefl _ ho.lt
      have HX2 := Lib.hid (HX.out.keep (hk2.2.2.2.2 wr.heap.size (by simp) hne hnm))
      have HC2 : Hid (OwnZ (w.heap.size + 1) S c w2) := Lib.hid (ownZ_block (show World.ownsRow _ _ TZ 1 c _ _ from HCA.out) (fun b hb => by
        have h1 := World.ownsRow.lt (show World.ownsRow _ _ TZ 1 c _ _ from HCA.out) b hb
        exact hk2.2.2.2.2 b h1.2 (by omega) (fun e => HAP.out b e.symm hb)))
      have HM2 : Hid (∀ b, mb' = some b → w.heap.size ≤ b) := Lib.hid (fun b hb => by
        rcases hmb with rfl | ⟨_, b', rfl, h⟩
        · exact HM.out b hb
        · cases hb
          have := HBA.out.size
          omega)
      have HB2 : Hid (Below w.heap.size w w2) := Lib.hid ⟨hk2.1.trans HBA.out.os, hk2.2.1.trans HBA.out.tape, hk2.2.2.1.trans HBA.out.output, Nat.le_trans HBA.out.size hk2.2.2.2.1, fun b hb => (hk2.2.2.2.2 b (Nat.lt_of_lt_of_le hb HBA.out.size) (by omega) (fun e => by have := HM.out b e.symm; omega)).trans (HBA.out.block b hb)⟩
      have HT2 := Lib.hid ht2
      have HLT := Lib.hid hlt0
      clear hmb ht2 hk2 c0 c1 c2 c3 c4 hba hne hnm hlt0
      by_cases hin : x0 ∈ S
      · have hd : decide (x0 ∈ S) = true := decide_eq_true hin
        have HE : Hid (addS S x0 = S) := Lib.hid (if_pos hin)
        clear hin
        go_wp2
        go_roundw
        case rel => exact ⟨k + 1, c, mb', rfl, by omega, by go_num, Lib.hid (by rw [← HN.out, HE.out]; exact HC2.out), Lib.hid (by rw [← HN.out]; exact HT2.out), HM2, HB2⟩
        case measure => simp [intOf]; omega
      · have hd : decide (x0 ∈ S) = false := decide_eq_false hin
        have HE : Hid (addS S x0 = S ++ [x0]) := Lib.hid (if_neg hin)
        obtain ⟨p0, _, _, _, _⟩ := HX2.out
        obtain ⟨W3, hW3⟩ : ∃ W, w2.alloc (.cells #[.int .i64 x0] TZ) = W := ⟨_, rfl⟩
        have hb3 : Below w2.heap.size w2 W3 := by rw [← hW3]; exact (Below.refl _ w2).alloc (Nat.le_refl _) _
        have hn3 : W3.heap[w2.heap.size]? = some (.cells #[.int .i64 x0] TZ (0, 0)) := by rw [← hW3]; exact heap_alloc_new w2 _
        have hc3 : OwnZ (w.heap.size + 1) S c W3 := by rw [← hW3]; exact World.ownsRow.alloc (show w2.ownsRow _ TZ 1 c _ _ from HC2.out) _
        have hlt2 := HT2.out.lt
        obtain ⟨v4, W4, hr4, ho4, hg4⟩ := appZ W3 (w.heap.size + 1) c S x0 w2.heap.size hc3 hn3 (by omega) (by have := hb3.size; omega)
        have HR4 := Lib.hid hr4
        have hcl := World.ownsRow.lt (show World.ownsRow _ _ TZ 1 c _ _ from hc3)
        have HC4 : Hid (OwnZ (w.heap.size + 1) (tskL (ts.take (k + 1))) v4 W4) := Lib.hid (by rw [← HN.out, HE.out]; exact ho4)
        have HT4 : Hid (TsI w.heap.size mb' (tskL (ts.take (k + 1))) W4) := Lib.hid (by
          rw [← HN.out]
          have h3 := HT2.out.below hb3
          exact h3.keep hg4 (fun e => by have := hcl _ e.symm; omega) (fun b hb e => ts_apart h3 hc3 b hb e.symm))
        have HB4 : Hid (Below w.heap.size w W4) := Lib.hid ((HB2.out.trans (hb3.mono HB2.out.size)).grown hg4 (by have := HB2.out.size; have := hb3.size; omega) (fun g hg => by have := hcl g hg; omega))
        have HW3 := Lib.hid hW3
        clear hin hW3 hb3 hn3 hc3 hlt2 hr4 ho4 hg4 hcl
        go_wp2_with (rw [HW3.out]; at_builtin; refine append_by_run _ rfl _ _ 39 rfl _ _ rfl rfl _ _ HR4.out ?_)
        go_roundw
        case rel => exact ⟨k + 1, v4, mb', rfl, by omega, by go_num, HC4, HT4, HM2, HB4⟩
        case measure => simp [intOf]; omega
    · obtain rfl : k = ts.length := by omega
      have HE : Hid (KlC wr c (tskL ts)) := Lib.hid (by have := HC.out.known; rwa [List.take_length] at this)
      go_wp2
      go_ret
      exact ⟨_, rfl, HE.out, HB.out⟩

end Go.Proofs.Ytonjempbphnimaa
