/-
  Causality: what the statement's closure learn does.
-/
import Derived.Test.YtpkmdonejmbnoaaVcCauM
import Derived.Test.YtpkmdonejmbnoaaAnyStates
namespace Go.Proofs.Ytpkmdonejmbnoaa
open Go.RowKit

theorem Lm.row {N K R Q E i : Nat} {f g : Nat → Bool} {c : List Int} {W : World} (h : Lm N K R Q E i (f, c) W) (hK : R ≠ K) (hQ : R ≠ Q) (hE : R ≠ E) (y : Nat) (z : Bool) (hz : g y = z) (hg : ∀ j, j ≠ y → g j = f j) : Lm N K R Q E i (g, c) (W.setCell ⟨R, y, none⟩ (.bool z)) where
  kbox := (Below.heap_setCell W ⟨R, y, none⟩ _ K (Ne.symm hK)).trans h.kbox
  krow := by
    have h1 := (World.ownsRow.stored h.krow y (.bool z)).1
    rw [boolV_set hz hg] at h1
    exact h1
  cbox := by
    obtain ⟨u, h1, h2⟩ := h.cbox
    exact ⟨u, (Below.heap_setCell W ⟨R, y, none⟩ _ Q (Ne.symm hQ)).trans h1, h2.keep (by simp [World.setCell]) (fun b _ hb => Below.heap_setCell W ⟨R, y, none⟩ _ b hb.2.1)⟩
  ebox := (Below.heap_setCell W ⟨R, y, none⟩ _ E (Ne.symm hE)).trans h.ebox
theorem Lm.drew {N K R Q E i : Nat} {st : (Nat → Bool) × List Int} {W : World} (h : Lm N K R Q E i st W) : Lm N K R Q E i st W.drew :=
  ⟨h.kbox, ownZ_block h.krow (fun _ _ => rfl), by obtain ⟨u, h1, h2⟩ := h.cbox; exact ⟨u, h1, h2.keep (Nat.le_refl _) (fun _ _ _ => rfl)⟩, h.ebox⟩
theorem Lm.cell {N K R Q E i : Nat} {st : (Nat → Bool) × List Int} {W : World} (h : Lm N K R Q E i st W) {m : Nat} (hm : m < i) : W.cell? ⟨R, m, none⟩ = some (.bool (st.1 m)) := by
  rw [World.ownsRow.cellAt h.krow m (by omega), boolV_get _ hm]
theorem Lm.free {N K R Q E i : Nat} {st : (Nat → Bool) × List Int} {W : World} (h : Lm N K R Q E i st W) (m : Nat) : W.frozen? ⟨R, m, none⟩ = false := World.ownsRow.frozenAt h.krow m
theorem Lm.clock {N K R Q E i : Nat} {f : Nat → Bool} {c c' : List Int} {W W5 : World} {v : Value} (h : Lm N K R Q E i (f, c) W) (hb : Below W.heap.size W W5) (hv : KlF W.heap.size W5 v c') (hRK : R < K) (hKQ : K < Q) (hQE : Q < E) : Lm N K R Q E i (f, c') ((W5.setCell ⟨Q, 0, none⟩ v).setCell ⟨E, 0, none⟩ (.int .i64 0)) := by
  obtain ⟨u, hu, _⟩ := h.cbox
  have lK := heap_lt h.kbox
  have lQ := heap_lt hu
  have lE := heap_lt h.ebox
  have keep : ∀ b, b ≠ Q → b ≠ E → ((W5.setCell ⟨Q, 0, none⟩ v).setCell ⟨E, 0, none⟩ (.int .i64 0)).heap[b]? = W5.heap[b]? := fun b h1 h2 => (Below.heap_setCell _ ⟨E, 0, none⟩ _ b h2).trans (Below.heap_setCell W5 ⟨Q, 0, none⟩ _ b h1)
  have hQ5 : W5.heap[Q]? = some (.cells #[u] 23 (0, 0)) := (hb.block Q lQ).trans hu
  have hE5 : (W5.setCell ⟨Q, 0, none⟩ v).heap[E]? = some (.cells #[.int .i64 0] TX (0, 0)) := ((Below.heap_setCell W5 ⟨Q, 0, none⟩ _ E (by show E ≠ Q; omega)).trans (hb.block E lE)).trans h.ebox
  refine ⟨(keep K (by omega) (by omega)).trans ((hb.block K lK).trans h.kbox), ?_, ⟨v, ?_, ?_⟩, ?_⟩
  · exact ownZ_block h.krow (fun b e => by
      have hbR : b = R := by simp [Value.ownBlock] at e; exact e.symm
      have := (World.ownsRow.lt h.krow b e).2
      exact (keep b (by omega) (by omega)).trans (hb.block b this))
  · rw [Below.heap_setCell _ ⟨E, 0, none⟩ _ Q (by show Q ≠ E; omega), heap_setCell_same W5 Q 0 _ _ _ hQ5]
    rfl
  · have hlR : R < W.heap.size := (World.ownsRow.lt h.krow R rfl).2
    exact (KlP.mono hv (fun b _ hn => (⟨by omega, by omega, by omega, by omega⟩ : b ≠ K ∧ b ≠ R ∧ b ≠ Q ∧ b ≠ E))).keep (by simp [World.setCell]) (fun b _ hb => keep b hb.2.2.1 hb.2.2.2)
  · rw [heap_setCell_same _ E 0 _ _ _ hE5]
    rfl
/-- What is known with the first of what the k-th event knows. -/
def partK (H : List Ev) (f : Nat → Bool) (k mm : Nat) (m : Nat) : Bool := (f m || m == k) || (decide (m < mm) && (evK H k).b m)
theorem partK_here (H : List Ev) (f : Nat → Bool) (k mm : Nat) : partK H f k (mm + 1) mm = (partK H f k mm mm || (evK H k).b mm) := by
  unfold partK
  simp
theorem partK_else (H : List Ev) (f : Nat → Bool) (k mm j : Nat) (h : j ≠ mm) : partK H f k (mm + 1) j = partK H f k mm j := by
  unfold partK
  have : decide (j < mm + 1) = decide (j < mm) := by rw [decide_eq_decide]; omega
  rw [this]
theorem partK_zero (H : List Ev) (f : Nat → Bool) (k : Nat) : partK H f k 0 = fun m => f m || m == k := by funext m; simp [partK]

set_option maxRecDepth 100000 in
set_option maxHeartbeats 8000000 in
theorem learn_any (C N K R Q E : Nat) (H : List Ev) (cv dv pv : Value) (cvs dvs : List Value) (st : (Nat → Bool) × List Int) (k : Nat) (w W : World) (hS : St C H cv dv pv cvs dvs w) (hN : w.heap.size = N) (hb : Below N w W) (hNR : N ≤ R) (hRK : R < K) (hKQ : K < Q) (hQE : Q < E)
    (hL : Lm N K R Q E H.length st W) (hk : k < H.length) (hf : H.length ≤ 20) (hp : Pr st.2 (evK H k).c) :
    Calls Try.prog 38 #[.int .i64 (k : Int), .pointer (some ⟨K, 0, none⟩), .pointer (some ⟨C + 1, 0, none⟩), .pointer (some ⟨Q, 0, none⟩), .pointer (some ⟨C, 0, none⟩), .pointer (some ⟨E, 0, none⟩)] W fun e W' => e = .returned (.tuple #[]) ∧ Below N w W' ∧ Lm N K R Q E H.length (learnK H st k) W' := by
  obtain ⟨f, c⟩ := st
  obtain ⟨gc, cc, g, gd, gp, cp, u2, g2, gc2, rfl, rfl, rfl, hcu, hdv⟩ := hS.forms hk
  have HS := Lib.hid hS
  have HST : Hid (∀ W', Below N w W' → St C H (.slice (some ⟨gc, 0, none⟩) H.length cc) (.slice (some ⟨g, 0, none⟩) H.length gd) (.slice (some ⟨gp, 0, none⟩) H.length cp) cvs dvs W') := Lib.hid (fun W' h => HS.out.below (by rw [hN]; exact h))
  have hcN : C + 1 < N := by rw [← hN]; exact heap_lt hS.dbox
  have hl0 := hL.row (g := partK H f k 0) (by omega) (by omega) (by omega) k true (by simp [partK]) (fun j hj => by simp [partK, hj])
  have hb0 : Below N w (W.setCell ⟨R, k, none⟩ (.bool true)) := hb.setCell (p := ⟨R, k, none⟩) hNR _
  have c1 : W.cell? ⟨K, 0, none⟩ = some (.slice (some ⟨R, 0, none⟩) H.length H.length) := by rw [Lib.cell_of_heap hL.kbox]; rfl
  have c2 := hL.cell hk
  have c3 := hL.free k
  have hst1 := HST.out _ hb0
  have d2 := hst1.knownAt rfl hk hdv
  have d1 : (W.setCell ⟨R, k, none⟩ (.bool true)).cell? ⟨C + 1, 0, none⟩ = some (.slice (some ⟨g, 0, none⟩) H.length gd) := by rw [Lib.cell_of_heap hst1.dbox]; rfl
  have k1 : (k : Int) < (H.length : Int) := by omega
  have HL0 := Lib.hid hl0
  have HB0 := Lib.hid hb0
  have HP := Lib.hid hp
  have HCU := Lib.hid hcu
  have HDV := Lib.hid hdv
  have HFIN : Hid (partK H f k k = (learnK H (f, c) k).1) := Lib.hid rfl
  clear hL hl0 hb hb0 hst1 hp hS hcu hdv
  go_enter Try.func38, Try.ntmps38
  go_wp2
  clear c1 c2 c3 d1 d2
  go_loopw [19] (fun x wr => ∃ mm : Nat, mm ≤ k ∧ x = .int .i64 mm ∧ Hid (Lm N K R Q E H.length (partK H f k mm, c) wr) ∧ Hid (Below N w wr)) (fun x _ => k - (intOf x).toNat)
  case atStart => exact ⟨0, Nat.zero_le _, rfl, HL0, HB0⟩
  case round =>
    obtain ⟨mm, hmk, rfl, HL, HB⟩ := hrel
    by_cases hlt : mm < k
    · have j1 : (mm : Int) < (k : Int) := by omega
      have j2 : (mm : Int) < (H.length : Int) := by omega
      have j3 : (0 : Int) ≤ (mm : Int) := by omega
      have e1 := (HST.out _ HB.out).knownRow hk HDV.out mm hlt
      obtain ⟨bz, hbz⟩ : ∃ z, (evK H k).b mm = z := ⟨_, rfl⟩
      rw [hbz] at e1
      obtain ⟨fz, hfz⟩ : ∃ z, partK H f k mm mm = z := ⟨_, rfl⟩
      have q1 : wr.cell? ⟨K, 0, none⟩ = some (.slice (some ⟨R, 0, none⟩) H.length H.length) := by rw [Lib.cell_of_heap HL.out.kbox]; rfl
      have q2 := HL.out.cell (m := mm) (by omega)
      rw [show (partK H f k mm, c).1 mm = fz from hfz] at q2
      have q3 := HL.out.free mm
      have HN' : Hid (partK H f k (mm + 1) mm = (fz || bz)) := Lib.hid (by rw [partK_here, hfz, hbz])
      clear hbz hfz
      cases fz with
      | true =>
        go_wp2
        refine wp_region_still_tail 10 (by kernel_rfl) (by kernel_rfl) ?_
        obtain ⟨we, hwe⟩ : ∃ we, wr.drew = we := ⟨_, rfl⟩
        change wpStill _ _ wr.drew (fun a' => wpList _ _ _ _ a' wr.drew) _ _
        rw [hwe]
        have p1 : we.cell? ⟨K, 0, none⟩ = some (.slice (some ⟨R, 0, none⟩) H.length H.length) := by rw [← hwe]; exact q1
        have p2 : we.cell? ⟨R, mm, none⟩ = some (.bool true) := by rw [← hwe]; exact q2
        have p3 : we.frozen? ⟨R, mm, none⟩ = false := by rw [← hwe]; exact q3
        have HLe : Hid (Lm N K R Q E H.length (partK H f k (mm + 1), c) (we.setCell ⟨R, mm, none⟩ (.bool true))) := Lib.hid ((by rw [← hwe]; exact HL.out.drew : Lm N K R Q E H.length (partK H f k mm, c) we).row (by omega) (by omega) (by omega) mm true (by rw [HN'.out]; rfl) (fun j hj => partK_else _ _ _ _ _ hj))
        have HBe : Hid (Below N w (we.setCell ⟨R, mm, none⟩ (.bool true))) := Lib.hid ((by rw [← hwe]; exact HB.out.drew : Below N w we).setCell (p := ⟨R, mm, none⟩) hNR _)
        clear hwe q1 q2 q3 e1
        simp only [List.take_succ_cons, List.take_zero, List.drop_succ_cons, List.drop_zero]
        repeat still_step
        refine wpStill_nil ?_
        go_wp2
        go_roundw
        case rel => exact ⟨mm + 1, by omega, by go_num, HLe, HBe⟩
        case measure => simp [intOf]; omega
      | false =>
        go_wp2
        refine wp_region_still_tail 10 (by kernel_rfl) (by kernel_rfl) ?_
        obtain ⟨we, hwe⟩ : ∃ we, wr.drew = we := ⟨_, rfl⟩
        change wpStill _ _ wr.drew (fun a' => wpList _ _ _ _ a' wr.drew) _ _
        rw [hwe]
        have p1 : we.cell? ⟨K, 0, none⟩ = some (.slice (some ⟨R, 0, none⟩) H.length H.length) := by rw [← hwe]; exact q1
        have p2 : we.cell? ⟨R, mm, none⟩ = some (.bool false) := by rw [← hwe]; exact q2
        have p3 : we.frozen? ⟨R, mm, none⟩ = false := by rw [← hwe]; exact q3
        have HLe : Hid (Lm N K R Q E H.length (partK H f k (mm + 1), c) (we.setCell ⟨R, mm, none⟩ (.bool bz))) := Lib.hid ((by rw [← hwe]; exact HL.out.drew : Lm N K R Q E H.length (partK H f k mm, c) we).row (by omega) (by omega) (by omega) mm bz (by rw [HN'.out]; rfl) (fun j hj => partK_else _ _ _ _ _ hj))
        have HBe : Hid (Below N w (we.setCell ⟨R, mm, none⟩ (.bool bz))) := Lib.hid ((by rw [← hwe]; exact HB.out.drew : Below N w we).setCell (p := ⟨R, mm, none⟩) hNR _)
        clear hwe q1 q2 q3 e1
        simp only [List.take_succ_cons, List.take_zero, List.drop_succ_cons, List.drop_zero]
        repeat still_step
        refine wpStill_nil ?_
        go_wp2
        go_roundw
        case rel => exact ⟨mm + 1, by omega, by go_num, HLe, HBe⟩
        case measure => simp [intOf]; omega
    · obtain rfl : mm = k := by omega
      have hst := HST.out _ HB.out.drew
      obtain ⟨u, hub, huk⟩ := HL.out.drew.cbox
      have t1 : wr.drew.cell? ⟨Q, 0, none⟩ = some u := by rw [Lib.cell_of_heap hub]; rfl
      have t2 : wr.drew.cell? ⟨C, 0, none⟩ = some (.slice (some ⟨gc, 0, none⟩) H.length cc) := by rw [Lib.cell_of_heap hst.cbox]; rfl
      have t3 := hst.clockAt rfl hk HCU.out
      have hcl := (hst.clockOf hk HCU.out)
      obtain ⟨ua, un, uc, rfl⟩ : ∃ a n c, u = .slice a n c := by obtain ⟨a, c', e, _⟩ := huk; exact ⟨a, _, c', e⟩
      obtain ⟨va, vn, vc, rfl⟩ : ∃ a n c, u2 = .slice a n c := by obtain ⟨a, c', e, _⟩ := hcl; exact ⟨a, _, c', e⟩
      have HJ : Hid (Calls Try.prog 25 #[.slice ua un uc, .slice va vn vc] wr.drew (RetF (joinL c (evK H mm).c) 0 wr.drew)) := Lib.hid (by
        obtain ⟨a, c', e1, h1, l1⟩ := huk.known
        obtain ⟨b, d', e2, h2, l2⟩ := hcl.known
        rw [e1, e2]
        have h := vJoinF a b c' d' c (evK H mm).c wr.drew h1 h2 l1 l2
        rwa [show pairE c (evK H mm).c = 0 from HP.out] at h)
      have HLd := Lib.hid HL.out.drew
      have HBd := Lib.hid HB.out.drew
      clear hst hub huk hcl
      go_wp2
      refine wp_region_held (S := fun W' => W'.cell? ⟨Q, 0, none⟩ = some (.slice ua un uc) ∧ W'.cell? ⟨C, 0, none⟩ = some (.slice (some ⟨gc, 0, none⟩) H.length cc) ∧ W'.cell? ⟨gc, mm, none⟩ = some (.slice va vn vc)) (by kernel_rfl) ?_
      change wpAnyH _ _ _ _ _ _ _ _ wr.drew
      refine wpAnyH_readV (i := 0) (v := .slice ua un uc) rfl (by kernel_rfl) (by kernel_rfl) (by kernel_rfl) (fun _ _ _ h => h) (by rfl) ?_ ⟨t1, t2, t3⟩ ?_
      · rintro w' ⟨h1, h2, h3⟩
        go_simp
      simp only [Act.put, List.setIfInBounds_toArray, List.set_cons_zero, List.set_cons_succ]
      refine wpAnyH_readV (i := 1) (v := .slice (some ⟨gc, 0, none⟩) H.length cc) rfl (by kernel_rfl) (by kernel_rfl) (by kernel_rfl) (fun _ _ _ h => h) (by rfl) ?_ ⟨t1, t2, t3⟩ ?_
      · rintro w' ⟨h1, h2, h3⟩
        go_simp
      simp only [Act.put, List.setIfInBounds_toArray, List.set_cons_zero, List.set_cons_succ]
      refine wpAnyH_readV (i := 2) (v := .int .i64 (mm : Int)) rfl (by kernel_rfl) (by kernel_rfl) (by kernel_rfl) (fun _ _ _ h => h) (by rfl) (fun _ _ => rfl) ⟨t1, t2, t3⟩ ?_
      simp only [Act.put, List.setIfInBounds_toArray, List.set_cons_zero, List.set_cons_succ]
      refine wpAnyH_readV (i := 3) (v := .pointer (some ⟨gc, mm, none⟩)) rfl (by kernel_rfl) (by kernel_rfl) (by kernel_rfl) (fun _ _ _ h => h) (by rfl) ?_ ⟨t1, t2, t3⟩ ?_
      · rintro w' ⟨h1, h2, h3⟩
        go_simp
      simp only [Act.put, List.setIfInBounds_toArray, List.set_cons_zero, List.set_cons_succ]
      refine wpAnyH_readV (i := 4) (v := .slice va vn vc) rfl (by kernel_rfl) (by kernel_rfl) (by kernel_rfl) (fun _ _ _ h => h) (by rfl) ?_ ⟨t1, t2, t3⟩ ?_
      · rintro w' ⟨h1, h2, h3⟩
        go_simp
      simp only [Act.put, List.setIfInBounds_toArray, List.set_cons_zero, List.set_cons_succ]
      refine wpAnyH_nextV (i := 5) rfl (by kernel_rfl) ?_
      go_wp2_with fail
      refine HJ.out.mono ?_
      rintro e w5 ⟨v5, rfl, hk5, b5⟩
      obtain ⟨u0, hub, _⟩ := HLd.out.cbox
      have hlQ := heap_lt hub
      have hlE := heap_lt HLd.out.ebox
      have hlC : C < wr.drew.heap.size := heap_lt (HST.out _ HBd.out).cbox
      have hlg : gc < wr.drew.heap.size := (World.ownsRow.lt (HST.out _ HBd.out).crow gc rfl).2
      have s1 : w5.cell? ⟨Q, 0, none⟩ = some (.slice ua un uc) := (b5.cell (p := ⟨Q, 0, none⟩) hlQ).trans t1
      have s2 : w5.cell? ⟨C, 0, none⟩ = some (.slice (some ⟨gc, 0, none⟩) H.length cc) := (b5.cell (p := ⟨C, 0, none⟩) hlC).trans t2
      have s3 : w5.cell? ⟨gc, mm, none⟩ = some (.slice va vn vc) := (b5.cell (p := ⟨gc, mm, none⟩) hlg).trans t3
      have hQ5 := (b5.block Q hlQ).trans hub
      have hE5 := (b5.block E hlE).trans HLd.out.ebox
      have r1 : w5.cell? ⟨E, 0, none⟩ = some (.int .i64 0) := by rw [Lib.cell_of_heap hE5]; rfl
      have r2 : w5.frozen? ⟨E, 0, none⟩ = false := Lib.frozen_of_heap hE5 0
      have r3 : w5.frozen? ⟨Q, 0, none⟩ = false := Lib.frozen_of_heap hQ5 0
      have hNw : N ≤ wr.drew.heap.size := by have := HBd.out.size; omega
      have HFL : Hid (Lm N K R Q E H.length (learnK H (f, c) mm) ((w5.drew.setCell ⟨Q, 0, none⟩ v5).setCell ⟨E, 0, none⟩ (.int .i64 0))) := Lib.hid (by
        have h := HLd.out.clock (W5 := w5.drew) b5.drew (KlP.keep hk5 (Nat.le_refl _) (fun _ _ _ => rfl)) hRK hKQ hQE
        rw [HFIN.out] at h
        exact h)
      have HFB : Hid (Below N w ((w5.drew.setCell ⟨Q, 0, none⟩ v5).setCell ⟨E, 0, none⟩ (.int .i64 0))) := Lib.hid (((HBd.out.trans (b5.mono hNw)).drew.setCell (p := ⟨Q, 0, none⟩) (by show N ≤ Q; omega) _).setCell (p := ⟨E, 0, none⟩) (by show N ≤ E; omega) _)
      obtain ⟨va5, vn5, vc5, rfl⟩ : ∃ a n c, v5 = .slice a n c := by obtain ⟨a, c', e, _⟩ := hk5; exact ⟨a, _, c', e⟩
      clear hk5 b5 hub hQ5 hE5 t1 t2 t3
      go_wp2
      refine ⟨⟨s1, s2, s3⟩, ?_⟩
      refine wpAnyH_readV (i := 6) (v := .tuple #[.slice va5 vn5 vc5, .int .i64 0]) rfl (by kernel_rfl) (by kernel_rfl) (by kernel_rfl) (fun _ _ _ h => h) (by rfl) (fun _ _ => rfl) ⟨s1, s2, s3⟩ ?_
      simp only [Act.put, List.setIfInBounds_toArray, List.set_cons_zero, List.set_cons_succ]
      refine wpAnyH_readV (i := 7) (v := .slice va5 vn5 vc5) rfl (by kernel_rfl) (by kernel_rfl) (by kernel_rfl) (fun _ _ _ h => h) (by rfl) (fun _ _ => rfl) ⟨s1, s2, s3⟩ ?_
      simp only [Act.put, List.setIfInBounds_toArray, List.set_cons_zero, List.set_cons_succ]
      refine wpAnyH_readV (i := 8) (v := .int .i64 0) rfl (by kernel_rfl) (by kernel_rfl) (by kernel_rfl) (fun _ _ _ h => h) (by rfl) (fun _ _ => rfl) ⟨s1, s2, s3⟩ ?_
      simp only [Act.put, List.setIfInBounds_toArray, List.set_cons_zero, List.set_cons_succ]
      refine wpAnyH_readV (i := 9) (v := .slice va5 vn5 vc5) rfl (by kernel_rfl) (by kernel_rfl) (by kernel_rfl) (fun _ _ _ h => h) (by rfl) (fun _ _ => rfl) ⟨s1, s2, s3⟩ ?_
      simp only [Act.put, List.setIfInBounds_toArray, List.set_cons_zero, List.set_cons_succ]
      refine wpAnyH_readV (i := 10) (v := .int .i64 0) rfl (by kernel_rfl) (by kernel_rfl) (by kernel_rfl) (fun _ _ _ h => h) (by rfl) (fun _ _ => rfl) ⟨s1, s2, s3⟩ ?_
      simp only [Act.put, List.setIfInBounds_toArray, List.set_cons_zero, List.set_cons_succ]
      refine wpAnyH_done (by kernel_rfl) ?_ _
      have r4 := s1
      clear s1 s2 s3
      go_wp2
      refine wp_region_held (S := fun W' => W'.cell? ⟨E, 0, none⟩ = some (.int .i64 0)) (by kernel_rfl) ?_
      change wpAnyH _ _ _ _ _ _ _ _ w5.drew
      obtain ⟨we, hwe⟩ : ∃ we, w5.drew = we := ⟨_, rfl⟩
      rw [hwe]
      rw [hwe] at HFL HFB
      have r1' : we.cell? ⟨E, 0, none⟩ = some (.int .i64 0) := by rw [← hwe]; exact r1
      have r2' : we.frozen? ⟨E, 0, none⟩ = false := by rw [← hwe]; exact r2
      have r3' : we.frozen? ⟨Q, 0, none⟩ = false := by rw [← hwe]; exact r3
      have r4' : we.cell? ⟨Q, 0, none⟩ = some (.slice ua un uc) := by rw [← hwe]; exact r4
      have hQE' : Q ≠ E := by omega
      have r5' : (we.setCell ⟨Q, 0, none⟩ (.slice va5 vn5 vc5)).cell? ⟨E, 0, none⟩ = some (.int .i64 0) := (World.cell?_of_block (Below.heap_setCell we ⟨Q, 0, none⟩ _ E (Ne.symm hQE'))).trans r1'
      have r6' : (we.setCell ⟨Q, 0, none⟩ (.slice va5 vn5 vc5)).frozen? ⟨E, 0, none⟩ = false := (World.frozen?_of_block (Below.heap_setCell we ⟨Q, 0, none⟩ _ E (Ne.symm hQE'))).trans r2'
      have r7' : ((we.setCell ⟨Q, 0, none⟩ (.slice va5 vn5 vc5)).setCell ⟨E, 0, none⟩ (.int .i64 0)).cell? ⟨E, 0, none⟩ = some (.int .i64 0) := by rw [Lib.cell_of_heap HFL.out.ebox]; rfl
      clear hwe r1 r2 r3 r4
      refine wpAnyH_readV (i := 0) (v := .slice va5 vn5 vc5) rfl (by kernel_rfl) (by kernel_rfl) (by kernel_rfl) (fun _ _ _ h => h) (by rfl) (fun _ _ => rfl) r1' ?_
      simp only [Act.put, List.setIfInBounds_toArray, List.set_cons_zero, List.set_cons_succ]
      refine wpAnyH_readV (i := 1) (v := .int .i64 0) rfl (by kernel_rfl) (by kernel_rfl) (by kernel_rfl) (fun _ _ _ h => h) (by rfl) ?_ r1' ?_
      · rintro w' h1
        go_simp
      simp only [Act.put, List.setIfInBounds_toArray, List.set_cons_zero, List.set_cons_succ]
      refine wpAnyH_readV (i := 2) (v := .int .i64 0) rfl (by kernel_rfl) (by kernel_rfl) (by kernel_rfl) (fun _ _ _ h => h) (by rfl) (fun _ _ => rfl) r1' ?_
      simp only [Act.put, List.setIfInBounds_toArray, List.set_cons_zero, List.set_cons_succ]
      refine wpAnyH_readV (i := 3) (v := .int .i64 0) rfl (by kernel_rfl) (by kernel_rfl) (by kernel_rfl) (fun _ _ _ h => h) (by rfl) ?_ r1' ?_
      · rintro w' h1
        go_simp
      simp only [Act.put, List.setIfInBounds_toArray, List.set_cons_zero, List.set_cons_succ]
      refine wpAnyH_nextV (i := 4) rfl (by kernel_rfl) ?_
      go_wp2
      refine ⟨r5', ?_⟩
      refine wpAnyH_nextV (i := 5) rfl (by kernel_rfl) ?_
      go_wp2
      refine ⟨r7', ?_⟩
      refine wpAnyH_done (by kernel_rfl) ?_ _
      go_wp2
      go_end0
      exact ⟨rfl, HFB.out, HFL.out⟩

end Go.Proofs.Ytpkmdonejmbnoaa
