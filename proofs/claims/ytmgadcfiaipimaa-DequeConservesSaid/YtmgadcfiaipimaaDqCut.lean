/-
  What cut returns.
-/
import Derived.Laws.CopyOwn
import Derived.Laws.NewBlocks
import Derived.Test.YtmgadcfiaipimaaDqChk
import Derived.Test.YtmgadcfiaipimaaHeldTop
namespace Go.Proofs.Ytmgadcfiaipimaa
open Go.RowKit

/-- make([]int, N). -/
theorem make_zs (N : Nat) (w : World) (hN : N ≤ 1000) : ∃ w1, (Instr.makeSlice 22 (.int .i64 (N : Int)) (.int .i64 (N : Int))).run Try.prog w = .ok (.slice (some ⟨w.heap.size, 0, none⟩) N N) w1 ∧ w1.heap[w.heap.size]? = some (.cells (intV (fnL N (fun _ => 0))).toArray TZ (0, 0)) ∧ Below w.heap.size w w1 := by
  obtain ⟨i1, ji, jz0, jz1, jz2⟩ := info_parts infoZ
  obtain ⟨w1, hrun, ho1, hg1⟩ := run_make_full (P := Try.prog) w w.heap.size 22 TZ i1 (.int .i64 0) 1 Try.underlying22 ji jz0 jz1 .i64 .i64 N (by rw [jz2]; omega) (by unfold maxLen; omega) (Nat.le_refl _)
  rw [Nat.mul_one] at ho1
  rw [show (Value.int .i64 0).cells = #[Value.int .i64 0] from rfl, made_zeros] at ho1
  refine ⟨w1, hrun, ?_, (Below.refl _ w).grown hg1 (Nat.le_refl _) (fun k e => by cases e)⟩
  rcases ho1.2 with ⟨e, _⟩ | ⟨g, cap, cur, e, _, hg, _, _, hcs, ht⟩
  · cases e
  · cases e
    rw [hg]
    have e2 : cur = (intV (fnL N (fun _ => 0))).toArray := by
      rw [← ht, List.take_of_length_le (by simp; omega)]
    rw [e2]
/-- The built-in copy by a run equation. -/
theorem copy_by_run {P : Program} (w : World) {ops : Array Oper} {rest : List Oper} {o : Oper} {a : Act} {Q : Exit → Act → World → Prop} (hgd : o.guard = none) (s x : Operand) (t : TypeId)
    (ho : o.op = .call { callee := .builtin .copy, args := #[s, x], argTypes := #[t, t] }) (vs vx : Value) (hs : a.eval s = vs) (hx : a.eval x = vx) (v' : Value) (w' : World)
    (hrun : (Builtin.copy_ #[t, t] o.type #[vs, vx]).run P w = .ok v' w') (h : wpList P ops Q rest (a.put o.dst v') w') : wpList P ops Q (o :: rest) a w := by
  refine wpList_plain hgd fun K hK => ?_
  unfold Oper.wp
  simp [execOp, ho, resolve, invoke, builtin, hs, hx, hrun, Result.andThen]
  exact hK _ _ h
/-- A row just made is filled. -/
theorem copyZ (w : World) (ty : TypeId) (g k n : Nat) (sa : Option Addr) (sLen sCap : Nat) (zs : List Int) (hg : w.heap[g]? = some (.cells (intV (fnL k (fun _ => 0))).toArray TZ (0, 0))) (hA : IntsA n w sa zs) (hk : k ≤ zs.length) (hs : k ≤ sLen) :
    ∃ w', (Builtin.copy_ #[22, 22] ty #[.slice (some ⟨g, 0, none⟩) k k, .slice sa sLen sCap]).run Try.prog w = .ok (goInt k) w' ∧ w'.heap[g]? = some (.cells (intV (zs.take k)).toArray TZ (0, 0)) ∧ w.grownBy w' (some g) := by
  have hsz : (Try.prog.info? TZ).map (·.size) = some 1 := by kernel_rfl
  have hl : (intV (zs.take k)).length = k := by rw [intV_length, List.length_take]; omega
  by_cases h0 : k = 0
  · subst h0
    refine ⟨w, run_copy_none (P := Try.prog) w _ _ ty TZ _ _ _ _ _ _ Try.underlying22 hsz (by simp), hg, rfl, rfl, rfl, Nat.le_refl _, fun _ _ _ => rfl⟩
  · obtain ⟨b, off, rfl, _⟩ := hA 0 (by omega)
    have hrun := run_copy_row (P := Try.prog) w 22 22 ty TZ g 0 k k ⟨b, off, none⟩ sLen sCap _ TZ (intV (zs.take k)) Try.underlying22 hsz hg (by rw [hl]; simp only [Nat.min_def]; split <;> omega) (fun j u hj => by
        have hlt := (List.getElem?_eq_some_iff.1 hj).1
        rw [hl] at hlt
        obtain ⟨b', off', e, _, hc⟩ := hA j (by omega)
        cases e
        rw [Addr.add_lit, hc, ← hj, intV_get _ (by rw [List.length_take]; omega), gz_take hlt]
        rfl) (by rw [hl]; simp [intV_length, fnL_length]) (intV_one _)
    rw [hl] at hrun
    refine ⟨_, hrun, ?_, ?_⟩
    · rw [setRow_heap w g _ _ _ _ hg, List.drop_eq_nil_of_le (by simp [intV_length, fnL_length])]
      simp
    · exact ⟨rfl, rfl, rfl, by simp [World.setRow], fun j hj hne => setRow_other w g j _ (fun e => hne (by rw [e]))⟩
/-- What lies in such a row. -/
theorem fz_block {W : World} {m g : Nat} {zs : List Int} (k : Nat) (h : W.heap[g]? = some (.cells (intV zs).toArray TZ (0, 0))) (hm : m ≤ g) (hk : zs.length = k) (hb : k ≤ 1000) : FzC m W (.slice (some ⟨g, 0, none⟩) k k) zs := by
  subst hk
  refine ⟨some ⟨g, 0, none⟩, zs.length, rfl, Nat.le_refl _, by omega, fun j hj => ⟨g, 0, rfl, hm, (Array.getElem?_eq_some_iff.1 h).1, ?_⟩⟩
  rw [Nat.zero_add, Lib.cell_of_heap h, List.getElem?_toArray, intV_get _ hj]

set_option maxRecDepth 100000 in
set_option maxHeartbeats 4000000 in
/-- cut. -/
theorem cut_any (v : Value) (l : List Int) (n : Nat) (w : World) (hK : KZ w v l) (hn : n ≤ l.length) (hl : l.length ≤ 1000) :
    Calls Try.prog 31 #[v, .int .i64 (n : Int)] w (RetD (l.take n) (l.drop n) w) := by
  obtain ⟨ad, cap, rfl, hc1, hc2, hA⟩ := hK
  obtain ⟨ao, c2, hAR, hc3, hc4, hrun⟩ := restZ w.heap.size n ad cap l w hA hc1 hn
  have HA := Lib.hid hA
  have HAR := Lib.hid hAR
  have q1 : (l.length : Int) - (n : Int) = ((l.length - n : Nat) : Int) := by omega
  have q2 : IntKind.i64.wrap ((l.length - n : Nat) : Int) = ((l.length - n : Nat) : Int) := IntWalk.i64_in _ (by omega)
  obtain ⟨W0, hW0⟩ : ∃ W, w.drew = W := ⟨_, rfl⟩
  have HBW : Hid (Below w.heap.size w W0) := Lib.hid (by rw [← hW0]; exact (Below.refl _ w).drew)
  clear hA hAR
  go_enter Try.func31, Try.ntmps31
  go_wp2
  refine wp_region_held (S := fun _ => True) (by kernel_rfl) ?_
  change wpAnyH _ _ _ _ _ _ _ _ w.drew
  rw [hW0]
  clear hW0
  refine wpAnyH_read (i := 0) (v := .int .i64 (n : Int)) rfl (by kernel_rfl) (by kernel_rfl) (by kernel_rfl) (fun _ _ _ h => h) (by rfl) (fun _ _ => rfl) trivial ?_
  simp only [Act.put, List.setIfInBounds_toArray, List.set_cons_zero, List.set_cons_succ]
  refine wpAnyH_read (i := 2) (v := .slice ad l.length cap) rfl (by kernel_rfl) (by kernel_rfl) (by kernel_rfl) (fun _ _ _ h => h) (by rfl) (fun _ _ => rfl) trivial ?_
  simp only [Act.put, List.setIfInBounds_toArray, List.set_cons_zero, List.set_cons_succ]
  refine wpAnyH_read (i := 3) (v := .int .i64 (l.length : Int)) rfl (by kernel_rfl) (by kernel_rfl) (by kernel_rfl) (fun _ _ _ h => h) (by rfl) ?_ trivial ?_
  · rintro w' -
    go_simp
  simp only [Act.put, List.setIfInBounds_toArray, List.set_cons_zero, List.set_cons_succ]
  refine wpAnyH_read (i := 4) (v := .int .i64 (n : Int)) rfl (by kernel_rfl) (by kernel_rfl) (by kernel_rfl) (fun _ _ _ h => h) (by rfl) (fun _ _ => rfl) trivial ?_
  simp only [Act.put, List.setIfInBounds_toArray, List.set_cons_zero, List.set_cons_succ]
  refine wpAnyH_read (i := 5) (v := .int .i64 ((l.length - n : Nat) : Int)) rfl (by kernel_rfl) (by kernel_rfl) (by kernel_rfl) (fun _ _ _ h => h) (by rfl) ?_ trivial ?_
  · rintro w' -
    go_simp
  simp only [Act.put, List.setIfInBounds_toArray, List.set_cons_zero, List.set_cons_succ]
  refine wpAnyH_all (rs := [1, 6]) (by kernel_rfl) (by simp) (fun j hj => ?_)
  rcases List.mem_cons.1 hj with rfl | hj
  · refine wpOp_of_list rfl ?_
    obtain ⟨V1, hr1, hm1, hb1⟩ := make_zs (n) W0 (by omega)
    go_wp2_with fail
    clear hr1
    have HM1 := Lib.hid hm1
    have HB1 := Lib.hid (HBW.out.trans (hb1.mono HBW.out.size))
    have HS1 := Lib.hid hb1.size
    clear hm1 hb1
    refine And.intro trivial ?_
    refine wpAnyH_all (rs := [6, 7]) (by kernel_rfl) (by simp) (fun j hj => ?_)
    rcases List.mem_cons.1 hj with rfl | hj
    · refine wpOp_of_list rfl ?_
      obtain ⟨V2, hr2, hm2, hb2⟩ := make_zs (l.length - n) V1 (by omega)
      go_wp2_with fail
      clear hr2
      have HM2 := Lib.hid hm2
      have HM12 := Lib.hid ((hb2.block _ (Array.getElem?_eq_some_iff.1 HM1.out).1).trans HM1.out)
      have HB2 := Lib.hid (HB1.out.trans (hb2.mono HB1.out.size))
      have HNE : Hid (W0.heap.size < V1.heap.size) := Lib.hid (Array.getElem?_eq_some_iff.1 HM1.out).1
      have HSZ : Hid (w.heap.size ≤ W0.heap.size) := Lib.hid HBW.out.size
      have HSZ1 : Hid (w.heap.size ≤ V1.heap.size) := Lib.hid HB1.out.size
      clear hm2 hb2
      refine And.intro trivial ?_
      refine wpAnyH_next (i := 7) rfl (by kernel_rfl) ?_
      go_wp2_with fail
      refine And.intro trivial ?_
      refine wpAnyH_next (i := 8) rfl (by kernel_rfl) ?_
      go_wp2_with fail
      refine And.intro trivial ?_
      refine wpAnyH_done (by kernel_rfl) ?_ _
      obtain ⟨gu, hgu⟩ : ∃ g, W0.heap.size = g := ⟨_, rfl⟩
      obtain ⟨gv, hgv⟩ : ∃ g, V1.heap.size = g := ⟨_, rfl⟩
      have HU := Lib.hid HM12.out
      have HV := Lib.hid HM2.out
      rw [hgu] at HU
      rw [hgv] at HV
      have HN : Hid (gu ≠ gv ∧ w.heap.size ≤ gu ∧ w.heap.size ≤ gv) := Lib.hid (by have := HNE.out; have := HSZ.out; have := HSZ1.out; omega)
      rw [hgu, hgv]
      clear hgu hgv HM1 HM12 HM2 HNE HSZ HSZ1 HS1
      obtain ⟨V3, hr3, hm3, hg3⟩ := copyZ V2 3 gu n w.heap.size ad l.length cap l HU.out (HA.out.below HB2.out) (by omega) (by omega)
      have HU3 := Lib.hid hm3
      have HV3 := Lib.hid ((hg3.block _ (Array.getElem?_eq_some_iff.1 HV.out).1 (fun e => HN.out.1 (by injection e with e; exact e.symm))).trans HV.out)
      have HB3 := Lib.hid (HB2.out.grown hg3 HB2.out.size (fun k e => by cases e; exact HN.out.2.1))
      clear hm3 hg3
      obtain ⟨V4, hr4, hm4, hg4⟩ := copyZ V3 3 gv (l.length - n) w.heap.size ao (l.length - n) c2 (l.drop n) HV3.out (HAR.out.below HB3.out) (by rw [List.length_drop]; omega) (by omega)
      have HV4 := Lib.hid hm4
      have HU4 := Lib.hid ((hg4.block _ (Array.getElem?_eq_some_iff.1 HU3.out).1 (fun e => HN.out.1 (by injection e))).trans HU3.out)
      have HB4 := Lib.hid (HB3.out.grown hg4 HB3.out.size (fun k e => by cases e; exact HN.out.2.2))
      clear hm4 hg4
      go_wp2_with (at_builtin; first | refine copy_by_run _ rfl _ _ 22 rfl _ _ rfl rfl _ _ hr3 ?_ | refine copy_by_run _ rfl _ _ 22 rfl _ _ rfl rfl _ _ hr4 ?_)
      clear hr3 hr4
      go_ret2
      exact ⟨_, _, rfl, fz_block n HU4.out HN.out.2.1 (by rw [List.length_take]; omega) (by omega), fz_block (l.length - n) HV4.out HN.out.2.2 (by rw [List.length_take, List.length_drop]; omega) (by omega) |>.cast (by rw [List.take_of_length_le (by rw [List.length_drop]; omega)]), HB4.out⟩
    · obtain rfl : j = 7 := by simpa using hj
      refine wpOp_of_list rfl ?_
      go_wp2_with fail
      refine And.intro trivial ?_
      refine wpAnyH_next (i := 6) rfl (by kernel_rfl) ?_
      obtain ⟨V2, hr2, hm2, hb2⟩ := make_zs (l.length - n) V1 (by omega)
      go_wp2_with fail
      clear hr2
      have HM2 := Lib.hid hm2
      have HM12 := Lib.hid ((hb2.block _ (Array.getElem?_eq_some_iff.1 HM1.out).1).trans HM1.out)
      have HB2 := Lib.hid (HB1.out.trans (hb2.mono HB1.out.size))
      have HNE : Hid (W0.heap.size < V1.heap.size) := Lib.hid (Array.getElem?_eq_some_iff.1 HM1.out).1
      have HSZ : Hid (w.heap.size ≤ W0.heap.size) := Lib.hid HBW.out.size
      have HSZ1 : Hid (w.heap.size ≤ V1.heap.size) := Lib.hid HB1.out.size
      clear hm2 hb2
      refine And.intro trivial ?_
      refine wpAnyH_next (i := 8) rfl (by kernel_rfl) ?_
      go_wp2_with fail
      refine And.intro trivial ?_
      refine wpAnyH_done (by kernel_rfl) ?_ _
      obtain ⟨gu, hgu⟩ : ∃ g, W0.heap.size = g := ⟨_, rfl⟩
      obtain ⟨gv, hgv⟩ : ∃ g, V1.heap.size = g := ⟨_, rfl⟩
      have HU := Lib.hid HM12.out
      have HV := Lib.hid HM2.out
      rw [hgu] at HU
      rw [hgv] at HV
      have HN : Hid (gu ≠ gv ∧ w.heap.size ≤ gu ∧ w.heap.size ≤ gv) := Lib.hid (by have := HNE.out; have := HSZ.out; have := HSZ1.out; omega)
      rw [hgu, hgv]
      clear hgu hgv HM1 HM12 HM2 HNE HSZ HSZ1 HS1
      obtain ⟨V3, hr3, hm3, hg3⟩ := copyZ V2 3 gu n w.heap.size ad l.length cap l HU.out (HA.out.below HB2.out) (by omega) (by omega)
      have HU3 := Lib.hid hm3
      have HV3 := Lib.hid ((hg3.block _ (Array.getElem?_eq_some_iff.1 HV.out).1 (fun e => HN.out.1 (by injection e with e; exact e.symm))).trans HV.out)
      have HB3 := Lib.hid (HB2.out.grown hg3 HB2.out.size (fun k e => by cases e; exact HN.out.2.1))
      clear hm3 hg3
      obtain ⟨V4, hr4, hm4, hg4⟩ := copyZ V3 3 gv (l.length - n) w.heap.size ao (l.length - n) c2 (l.drop n) HV3.out (HAR.out.below HB3.out) (by rw [List.length_drop]; omega) (by omega)
      have HV4 := Lib.hid hm4
      have HU4 := Lib.hid ((hg4.block _ (Array.getElem?_eq_some_iff.1 HU3.out).1 (fun e => HN.out.1 (by injection e))).trans HU3.out)
      have HB4 := Lib.hid (HB3.out.grown hg4 HB3.out.size (fun k e => by cases e; exact HN.out.2.2))
      clear hm4 hg4
      go_wp2_with (at_builtin; first | refine copy_by_run _ rfl _ _ 22 rfl _ _ rfl rfl _ _ hr3 ?_ | refine copy_by_run _ rfl _ _ 22 rfl _ _ rfl rfl _ _ hr4 ?_)
      clear hr3 hr4
      go_ret2
      exact ⟨_, _, rfl, fz_block n HU4.out HN.out.2.1 (by rw [List.length_take]; omega) (by omega), fz_block (l.length - n) HV4.out HN.out.2.2 (by rw [List.length_take, List.length_drop]; omega) (by omega) |>.cast (by rw [List.take_of_length_le (by rw [List.length_drop]; omega)]), HB4.out⟩
  · obtain rfl : j = 6 := by simpa using hj
    refine wpOp_of_list rfl ?_
    obtain ⟨V1, hr1, hm1, hb1⟩ := make_zs (l.length - n) W0 (by omega)
    go_wp2_with fail
    clear hr1
    have HM1 := Lib.hid hm1
    have HB1 := Lib.hid (HBW.out.trans (hb1.mono HBW.out.size))
    have HS1 := Lib.hid hb1.size
    clear hm1 hb1
    refine And.intro trivial ?_
    refine wpAnyH_next (i := 1) rfl (by kernel_rfl) ?_
    obtain ⟨V2, hr2, hm2, hb2⟩ := make_zs (n) V1 (by omega)
    go_wp2_with fail
    clear hr2
    have HM2 := Lib.hid hm2
    have HM12 := Lib.hid ((hb2.block _ (Array.getElem?_eq_some_iff.1 HM1.out).1).trans HM1.out)
    have HB2 := Lib.hid (HB1.out.trans (hb2.mono HB1.out.size))
    have HNE : Hid (W0.heap.size < V1.heap.size) := Lib.hid (Array.getElem?_eq_some_iff.1 HM1.out).1
    have HSZ : Hid (w.heap.size ≤ W0.heap.size) := Lib.hid HBW.out.size
    have HSZ1 : Hid (w.heap.size ≤ V1.heap.size) := Lib.hid HB1.out.size
    clear hm2 hb2
    refine And.intro trivial ?_
    refine wpAnyH_next (i := 7) rfl (by kernel_rfl) ?_
    go_wp2_with fail
    refine And.intro trivial ?_
    refine wpAnyH_next (i := 8) rfl (by kernel_rfl) ?_
    go_wp2_with fail
    refine And.intro trivial ?_
    refine wpAnyH_done (by kernel_rfl) ?_ _
    obtain ⟨gu, hgu⟩ : ∃ g, V1.heap.size = g := ⟨_, rfl⟩
    obtain ⟨gv, hgv⟩ : ∃ g, W0.heap.size = g := ⟨_, rfl⟩
    have HU := Lib.hid HM2.out
    have HV := Lib.hid HM12.out
    rw [hgu] at HU
    rw [hgv] at HV
    have HN : Hid (gu ≠ gv ∧ w.heap.size ≤ gu ∧ w.heap.size ≤ gv) := Lib.hid (by have := HNE.out; have := HSZ.out; have := HSZ1.out; omega)
    rw [hgu, hgv]
    clear hgu hgv HM1 HM12 HM2 HNE HSZ HSZ1 HS1
    obtain ⟨V3, hr3, hm3, hg3⟩ := copyZ V2 3 gu n w.heap.size ad l.length cap l HU.out (HA.out.below HB2.out) (by omega) (by omega)
    have HU3 := Lib.hid hm3
    have HV3 := Lib.hid ((hg3.block _ (Array.getElem?_eq_some_iff.1 HV.out).1 (fun e => HN.out.1 (by injection e with e; exact e.symm))).trans HV.out)
    have HB3 := Lib.hid (HB2.out.grown hg3 HB2.out.size (fun k e => by cases e; exact HN.out.2.1))
    clear hm3 hg3
    obtain ⟨V4, hr4, hm4, hg4⟩ := copyZ V3 3 gv (l.length - n) w.heap.size ao (l.length - n) c2 (l.drop n) HV3.out (HAR.out.below HB3.out) (by rw [List.length_drop]; omega) (by omega)
    have HV4 := Lib.hid hm4
    have HU4 := Lib.hid ((hg4.block _ (Array.getElem?_eq_some_iff.1 HU3.out).1 (fun e => HN.out.1 (by injection e))).trans HU3.out)
    have HB4 := Lib.hid (HB3.out.grown hg4 HB3.out.size (fun k e => by cases e; exact HN.out.2.2))
    clear hm4 hg4
    go_wp2_with (at_builtin; first | refine copy_by_run _ rfl _ _ 22 rfl _ _ rfl rfl _ _ hr3 ?_ | refine copy_by_run _ rfl _ _ 22 rfl _ _ rfl rfl _ _ hr4 ?_)
    clear hr3 hr4
    go_ret2
    exact ⟨_, _, rfl, fz_block n HU4.out HN.out.2.1 (by rw [List.length_take]; omega) (by omega), fz_block (l.length - n) HV4.out HN.out.2.2 (by rw [List.length_take, List.length_drop]; omega) (by omega) |>.cast (by rw [List.take_of_length_le (by rw [List.length_drop]; omega)]), HB4.out⟩

end Go.Proofs.Ytmgadcfiaipimaa
