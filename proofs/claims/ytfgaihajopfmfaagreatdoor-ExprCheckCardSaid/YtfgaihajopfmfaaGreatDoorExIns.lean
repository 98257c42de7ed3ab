/-
  The library's Insert of one binding into a row of bindings.
-/
import Derived.Lib.Overlaps
import Derived.Lib.AppendZerosOnto
import Derived.Laws.Externs
import Derived.Laws.CopyOwn
import Derived.Laws.NewBlocks
import Derived.Lib.SliceRun
import Derived.Shelf.Abstract
import Derived.Test.YtfgaihajopfmfaaGreatDoorExBd
namespace Go.Proofs.YtfgaihajopfmfaaGreatDoor
set_option linter.unusedSimpArgs false
set_option linter.unusedVariables false
open Go.RowKit Go.Shelf

theorem grown_trans' {w w' w'' : World} {row : Option Nat} (h : w.grownBy w' row) (k : w'.grownBy w'' row) : w.grownBy w'' row :=
  ⟨k.os.trans h.os, k.tape.trans h.tape, k.output.trans h.output, Nat.le_trans h.size k.size, fun j hj hne => (k.block j (Nat.lt_of_lt_of_le hj h.size) hne).trans (h.block j hj hne)⟩
theorem grown_of {w w' : World} (h : Below w.heap.size w w') (row : Option Nat) : w.grownBy w' row := ⟨h.os, h.tape, h.output, h.size, fun k hk _ => h.block k hk⟩
theorem below_of {w w' : World} (h : w.grownBy w' none) : Below w.heap.size w w' := ⟨h.os, h.tape, h.output, h.size, fun k hk => h.block k hk (by simp)⟩

/-- The built-in copy by a run equation. -/
theorem copy_by_run {P : Program} (w : World) {ops : Array Oper} {rest : List Oper} {o : Oper} {a : Act} {Q : Exit → Act → World → Prop} (hgd : o.guard = none) (s x : Operand) (t : TypeId)
    (ho : o.op = .call { callee := .builtin .copy, args := #[s, x], argTypes := #[t, t] }) (vs vx : Value) (hs : a.eval s = vs) (hx : a.eval x = vx) (v' : Value) (w' : World)
    (hrun : (Builtin.copy_ #[t, t] o.type #[vs, vx]).run P w = .ok v' w') (h : wpList P ops Q rest (a.put o.dst v') w') : wpList P ops Q (o :: rest) a w := by
  refine wpList_plain hgd fun K hK => ?_
  unfold Oper.wp
  simp [execOp, ho, resolve, invoke, builtin, hs, hx, hrun, Result.andThen]
  exact hK _ _ h
/-- The built-in append of so many zero values by a run equation. -/
theorem append_by_run0 {P : Program} (w : World) {ops : Array Oper} {rest : List Oper} {o : Oper} {a : Act} {Q : Exit → Act → World → Prop} (hgd : o.guard = none) (s x : Operand) (t u : TypeId)
    (ho : o.op = .call { callee := .builtin .append, args := #[s, x], argTypes := #[t, u] }) (vs vx : Value) (hs : a.eval s = vs) (hx : a.eval x = vx) (v' : Value) (w' : World)
    (hrun : (Builtin.append_ #[t, u] o.type #[vs, vx]).run P w = .ok v' w') (h : wpList P ops Q rest (a.put o.dst v') w') : wpList P ops Q (o :: rest) a w := by
  refine wpList_plain hgd fun K hK => ?_
  unfold Oper.wp
  simp [execOp, ho, resolve, invoke, builtin, hs, hx, hrun, Result.andThen]
  exact hK _ _ h
/-- Bindings are copied into a row. -/
theorem run_copyT (w : World) (ty : TypeId) (g o dLen dCap : Nat) (a : Addr) (sLen sCap : Nat) (cur : Array Value) (cs : List Value) (k : Nat) (hk : k = Nat.min sLen dLen) (hg : w.heap[g]? = some (.cells cur TB (0, 0))) (hl : cs.length = k * 3)
    (hsrc : ∀ j v, cs[j]? = some v → w.cell? (a.add j) = some v) (hfit : o + cs.length ≤ cur.size) (h1 : ∀ v ∈ cs, v.oneCell' = true) :
    (Builtin.copy_ #[40, 40] ty #[.slice (some ⟨g, o, none⟩) dLen dCap, .slice (some a) sLen sCap]).run Tryz.prog w = .ok (goInt k) (w.setRow g (splice cur.toList o cs).toArray) := by
  obtain ⟨i3, ki, kz0, kz1, kz2⟩ := info_parts infoB
  have hf := run_firstCells_some (P := Tryz.prog) w 3 k a sLen sCap cs hl hsrc
  have hst := run_storeCells_at Tryz.prog g o TB cs 0 cur w hg (by simpa using hfit) h1
  simp only [Nat.add_zero] at hst
  have e : splice cur.toList o cs = cur.toList.take o ++ cs ++ cur.toList.drop (o + cs.length) := by unfold splice; rw [List.append_assoc]
  rw [e]
  simp [Builtin.copy_, run_underlying Tryz.underlying40, Builtin.lenOf, sizeOf, typeInfo, ki, kz1, ← hk, hf, hst]
theorem splice_take {L cs : List Value} {o k : Nat} (h : k ≤ o) (hl : o ≤ L.length) : (splice L o cs).take k = L.take k := by
  unfold splice
  rw [List.take_append_of_le_length (by rw [List.length_take]; omega), List.take_take]
  congr 1
  omega
theorem splice_drop {L cs : List Value} {o : Nat} (hl : o ≤ L.length) : (splice L o cs).drop o = cs ++ L.drop (o + cs.length) := by
  unfold splice
  rw [List.drop_left' (by rw [List.length_take]; omega)]
theorem splice_upto {L cs : List Value} {o : Nat} (hl : o ≤ L.length) : (splice L o cs).take (o + cs.length) = L.take o ++ cs := by
  unfold splice
  rw [← List.append_assoc, List.take_left' (by rw [List.length_append, List.length_take]; omega)]
theorem encD_length (t : Bd) : (encD t).length = 3 := rfl
theorem ins_shift {C : List Value} {o : List Bd} {i : Nat} (t : Bd) (hi : i ≤ o.length) (hC : C.take (o.length * 3) = bsV o) (hl : (o.length + 1) * 3 ≤ C.length) :
    (splice (splice C ((i + 1) * 3) (bsV (o.drop i))) (i * 3) (encD t)).take ((o.length + 1) * 3) = bsV (o.take i ++ t :: o.drop i) := by
  have hd : (bsV (o.drop i)).length = (o.length - i) * 3 := by rw [bsV_length, List.length_drop]
  have h1 : (splice C ((i + 1) * 3) (bsV (o.drop i))).length = C.length := length_splice _ _ _ (by rw [hd]; omega)
  have e1 : (splice C ((i + 1) * 3) (bsV (o.drop i))).take (i * 3) = bsV (o.take i) := by
    rw [splice_take (by omega) (by omega), ← bsV_take, ← hC, List.take_take]
    congr 1
    omega
  have e2 : (splice C ((i + 1) * 3) (bsV (o.drop i))).drop (i * 3 + 3) = bsV (o.drop i) ++ C.drop ((i + 1) * 3 + (bsV (o.drop i)).length) := by
    rw [show i * 3 + 3 = (i + 1) * 3 by omega, splice_drop (by omega)]
  have e3 : splice (splice C ((i + 1) * 3) (bsV (o.drop i))) (i * 3) (encD t) = bsV (o.take i ++ t :: o.drop i) ++ C.drop ((i + 1) * 3 + (bsV (o.drop i)).length) := by
    conv => lhs; unfold splice
    rw [encD_length]
    change (splice C ((i + 1) * 3) (bsV (o.drop i))).take (i * 3) ++ (encD t ++ (splice C ((i + 1) * 3) (bsV (o.drop i))).drop (i * 3 + 3)) = _
    rw [e1, e2, bsV_append, bsV_cons]
    simp
  rw [e3, List.take_left' (by rw [bsV_length]; simp; omega)]
theorem ins_grow {C : List Value} {o : List Bd} {i : Nat} (t : Bd) (hi : i ≤ o.length) (hC : C.take (i * 3) = bsV (o.take i)) (hl : (o.length + 1) * 3 ≤ C.length) :
    (splice (splice C (i * 3) (encD t)) ((i + 1) * 3) (bsV (o.drop i))).take ((o.length + 1) * 3) = bsV (o.take i ++ t :: o.drop i) := by
  have hd : (bsV (o.drop i)).length = (o.length - i) * 3 := by rw [bsV_length, List.length_drop]
  have h1 : (splice C (i * 3) (encD t)).length = C.length := length_splice _ _ _ (by rw [encD_length]; omega)
  have e1 : (splice C (i * 3) (encD t)).take ((i + 1) * 3) = bsV (o.take i) ++ encD t := by
    have := splice_upto (L := C) (cs := encD t) (o := i * 3) (by omega)
    rw [encD_length, hC] at this
    rw [show (i + 1) * 3 = i * 3 + 3 by omega]
    exact this
  have h2 := splice_upto (L := splice C (i * 3) (encD t)) (cs := bsV (o.drop i)) (o := (i + 1) * 3) (by omega)
  rw [hd, show (i + 1) * 3 + (o.length - i) * 3 = (o.length + 1) * 3 by omega, e1] at h2
  rw [h2, bsV_append, bsV_cons]
  simp
theorem grown_setRow {w : World} {g : Nat} (cs : Array Value) : w.grownBy (w.setRow g cs) (some g) := ⟨rfl, rfl, rfl, by simp [World.setRow], fun k _ hne => setRow_other w g k cs (fun e => hne (by rw [e]))⟩

set_option maxRecDepth 100000 in
set_option maxHeartbeats 4000000 in
/-- At the end. -/
theorem ins_end (B : Nat) (ad : Option Addr) (cap : Nat) (o : List Bd) (a : ByteArray) (b c : Int) (vb : Nat) (w : World) (hl : o.length ≤ 1000) (hBw : B ≤ w.heap.size) (hO : OwnD B o (.slice ad o.length cap) w) (hv : w.heap[vb]? = some (.cells #[.string a, .int .i64 b, .int .i64 c] TB (0, 0))) :
    Calls Tryz.prog 64 #[.slice ad o.length cap, .int .i64 (o.length : Int), .slice (some ⟨vb, 0, none⟩) 1 1] w fun e w' => ∃ v', e = .returned v' ∧ OwnD B (o ++ [(a, b, c)]) v' w' ∧ w.grownBy w' (Value.slice ad o.length cap).ownBlock := by
  obtain ⟨i3, ki, kz0, kz1, kz2⟩ := info_parts infoB
  have hnew : ∀ j u, (encD (a, b, c))[j]? = some u → w.cell? ((⟨vb, 0, none⟩ : Addr).add j) = some u := by
    intro j u hj
    rw [Addr.add_lit, Lib.cell_of_heap hv]
    match j, hj with
    | 0, hj => simpa [encD] using hj
    | 1, hj => simpa [encD] using hj
    | 2, hj => simpa [encD] using hj
  have HN := Lib.hid hnew
  have HO := Lib.hid (show w.ownsRow B TB 3 (.slice ad o.length cap) o.length (bsV o) from hO)
  have hL : Hid ((o ++ [(a, b, c)]).length = o.length + 1) := Lib.hid (by simp)
  have HT : Hid (bsV o ++ encD (a, b, c) = bsV (o ++ [(a, b, c)])) := Lib.hid (bsV_snoc _ _).symm
  clear hnew hO
  go_enter Tryz.func64, Tryz.ntmps64
  go_wp2_with (at_builtin; refine wpList_append_own _ rfl _ _ 40 rfl B TB i3 (.agg #[.string .empty, .int .i64 0, .int .i64 0]) 3 32 Tryz.underlying40 ki kz0 kz1 kz2 rfl (by decide) _ _ _ rfl HO.out ⟨vb, 0, none⟩ 1 1 (encD (a, b, c)) rfl rfl HN.out (encD_one _) ?qc4 ?qc5 ?qc6 ?_)
  all_goals try (case qc4 => unfold maxLen; omega)
  all_goals try (case qc5 => omega)
  all_goals try (case qc6 => exact hBw)
  all_goals
    intro v' w1 hown hgrow hnil
    go_wp2
    go_ret
    have hg : w.grownBy w1 (Value.slice ad o.length cap).ownBlock := by cases ad <;> exact hgrow
    refine ⟨v', rfl, ?_, hg⟩
    unfold OwnD
    rw [hL.out, ← HT.out]
    exact hown

set_option maxRecDepth 100000 in
set_option maxHeartbeats 4000000 in
/-- There is room: in place. -/
theorem ins_shift_any (B g cap : Nat) (o : List Bd) (i : Nat) (a : ByteArray) (b c : Int) (vb : Nat) (w : World) (hl : o.length ≤ 1000) (hi : i < o.length) (hroom : o.length + 1 ≤ cap) (hcm : cap ≤ 9223372036854775807) (hne : vb ≠ g)
    (hO : OwnD B o (.slice (some ⟨g, 0, none⟩) o.length cap) w) (hv : w.heap[vb]? = some (.cells #[.string a, .int .i64 b, .int .i64 c] TB (0, 0))) :
    Calls Tryz.prog 64 #[.slice (some ⟨g, 0, none⟩) o.length cap, .int .i64 (i : Int), .slice (some ⟨vb, 0, none⟩) 1 1] w fun e w' => ∃ v', e = .returned v' ∧ OwnD B (o.take i ++ (a, b, c) :: o.drop i) v' w' ∧ w.grownBy w' (some g) := by
  obtain ⟨cur, hB, hg, hcs, htk⟩ : ∃ cur : Array Value, B ≤ g ∧ w.heap[g]? = some (.cells cur TB (0, 0)) ∧ cur.size = cap * 3 ∧ cur.toList.take (o.length * 3) = bsV o := by
    rcases hO.2 with ⟨e, _⟩ | ⟨g', cap', cur, e, hB, hg, _, _, hcs, ht⟩
    · cases e
    · cases e
      exact ⟨cur, hB, hg, hcs, ht⟩
  have hov : ∀ lb cb, (callFunc 112 #[.slice (some ⟨vb, 0, none⟩) 1 1, .slice (some ⟨g, (i + 1) * 3, none⟩) lb cb]).run Tryz.prog w = .ok (.value (.bool false)) w := fun lb cb => by
    rw [run_callFunc_extern Tryz.func112 (by kernel_rfl) (by kernel_rfl) (by kernel_rfl) (e := Extern.SlicesOverlaps.overlaps #[40, 40] #[4]) (by kernel_rfl),
      Lib.run_overlaps_apart w 40 4 TB Tryz.underlying40 3 Tryz.sizeOf46 ⟨vb, 0, none⟩ ⟨g, (i + 1) * 3, none⟩ 1 1 lb cb hne TB TB 3 cur.size (by simp [World.shape?, hv]) (by simp [World.shape?, hg]) (by omega) (by simp [World.frozen?, hv]) (by simp [World.frozen?, hv])]
    rfl
  have hd : (bsV (o.drop i)).length = (o.length - i) * 3 := by rw [bsV_length, List.length_drop]
  have hcell : ∀ j u, (bsV (o.drop i))[j]? = some u → w.cell? ⟨g, i * 3 + j, none⟩ = some u := by
    intro j u hj
    have hjl : j < (bsV (o.drop i)).length := (List.getElem?_eq_some_iff.1 hj).1
    rw [← bsV_drop, List.getElem?_drop, ← htk, List.getElem?_take] at hj
    rw [Lib.cell_of_heap hg]
    split at hj
    · simpa using hj
    · cases hj
  obtain ⟨C1, hC1⟩ : ∃ C1, (splice cur.toList ((i + 1) * 3) (bsV (o.drop i))).toArray = C1 := ⟨_, rfl⟩
  have hC1l : C1.size = cap * 3 := by rw [← hC1, List.size_toArray, length_splice _ _ _ (by rw [hd]; simp; omega)]; simpa using hcs
  obtain ⟨W1, hW1⟩ : ∃ W1, w.drew.setRow g C1 = W1 := ⟨_, rfl⟩
  have hcp1 : ∀ ty dc sc, (Builtin.copy_ #[40, 40] ty #[.slice (some ⟨g, (i + 1) * 3, none⟩) (o.length - i) dc, .slice (some ⟨g, i * 3, none⟩) (o.length + 1 - i) sc]).run Tryz.prog w.drew = .ok (goInt ((o.length - i : Nat) : Int)) W1 := fun ty dc sc => by
    rw [← hW1, ← hC1]
    exact run_copyT w.drew ty g ((i + 1) * 3) (o.length - i) dc ⟨g, i * 3, none⟩ (o.length + 1 - i) sc cur (bsV (o.drop i)) (o.length - i) (by simp only [Nat.min_def]; split <;> omega) hg hd (fun j u hj => by rw [Addr.add_lit]; exact hcell j u hj) (by rw [hd]; omega) (bsV_one _)
  have hg1 : W1.heap[g]? = some (.cells C1 TB (0, 0)) := by rw [← hW1]; exact setRow_heap w.drew g _ _ TB _ hg
  have hv1 : W1.heap[vb]? = some (.cells #[.string a, .int .i64 b, .int .i64 c] TB (0, 0)) := by rw [← hW1, setRow_other w.drew g vb _ hne]; exact hv
  have hgr1 : w.grownBy W1 (some g) := by rw [← hW1]; exact ⟨rfl, rfl, rfl, by simp [World.setRow], fun k _ hne => setRow_other w.drew g k C1 (fun e => hne (by rw [e]))⟩
  obtain ⟨C2, hC2⟩ : ∃ C2, (splice C1.toList (i * 3) (encD (a, b, c))).toArray = C2 := ⟨_, rfl⟩
  have hC2l : C2.size = cap * 3 := by rw [← hC2, List.size_toArray, length_splice _ _ _ (by rw [encD_length]; simp; omega)]; simpa using hC1l
  obtain ⟨W2, hW2⟩ : ∃ W2, W1.setRow g C2 = W2 := ⟨_, rfl⟩
  have hcp2 : ∀ ty dc, (Builtin.copy_ #[40, 40] ty #[.slice (some ⟨g, i * 3, none⟩) (o.length + 1 - i) dc, .slice (some ⟨vb, 0, none⟩) 1 1]).run Tryz.prog W1 = .ok (goInt 1) W2 := fun ty dc => by
    rw [← hW2, ← hC2]
    refine run_copyT W1 ty g (i * 3) (o.length + 1 - i) dc ⟨vb, 0, none⟩ 1 1 C1 (encD (a, b, c)) 1 (by simp only [Nat.min_def]; split <;> omega) hg1 rfl (fun j u hj => ?_) (by rw [encD_length]; omega) (encD_one _)
    rw [Addr.add_lit, Lib.cell_of_heap hv1]
    match j, hj with
    | 0, hj => simpa [encD] using hj
    | 1, hj => simpa [encD] using hj
    | 2, hj => simpa [encD] using hj
  have hO2 : OwnD B (o.take i ++ (a, b, c) :: o.drop i) (.slice (some ⟨g, 0, none⟩) (o.length + 1) cap) W2 := by
    have hln : (o.take i ++ (a, b, c) :: o.drop i).length = o.length + 1 := by simp; omega
    unfold OwnD
    rw [hln]
    refine ⟨by rw [bsV_length, hln], .inr ⟨g, cap, C2, rfl, hB, ?_, hroom, by unfold maxLen; omega, hC2l, ?_⟩⟩
    · rw [← hW2]; exact setRow_heap W1 g _ _ TB _ hg1
    · rw [← hC2, ← hC1]
      exact ins_shift (a, b, c) (by omega) htk (by simp; omega)
  have hgr2 : w.grownBy W2 (some g) := by rw [← hW2]; exact grown_trans' hgr1 (grown_setRow C2)
  have HO2 := Lib.hid hO2
  have HG2 := Lib.hid hgr2
  have hz2 : ¬ ((i : Int) = (o.length : Int)) := by omega
  have hw1 : IntKind.i64.wrap ((i : Int) + 1) = (i : Int) + 1 := by rw [IntKind.wrap_i64]; omega
  have hb1 : (0 : Int) ≤ (i : Int) + 1 := by omega
  have hin : i ≤ o.length := by omega
  have htn : ((i : Int) + 1).toNat = i + 1 := by omega
  have hb2 : ¬ (cap = i + 1) := by omega
  have hb3 : (i : Int) ≤ (o.length : Int) + 1 := by omega
  have hb4 : ¬ (cap = i) := by omega
  clear hO hv hg hcs htk hd hcell hC1 hC1l hW1 hg1 hv1 hgr1 hC2 hC2l hW2 hO2 hgr2
  go_enter Tryz.func64, Tryz.ntmps64
  go_wp2_with (simp only [hov])
  refine wp_region_still_tail 8 (by kernel_rfl) (by kernel_rfl) ?_
  obtain ⟨w2, hw2⟩ : ∃ W, w.drew = W := ⟨_, rfl⟩
  change wpStill _ _ w.drew (fun a' => wpList _ _ _ _ a' w.drew) _ _
  rw [hw2] at hcp1 ⊢
  clear hov hw2
  simp only [List.take_succ_cons, List.take_zero, List.drop_succ_cons, List.drop_zero]
  repeat still_step
  refine wpStill_nil ?_
  go_wp2_with (at_builtin; refine copy_by_run _ rfl _ _ 40 rfl _ _ rfl rfl _ _ (hcp1 _ _ _) ?_)
  go_ret
  exact ⟨_, rfl, HO2.out, HG2.out⟩

set_option maxRecDepth 100000 in
set_option maxHeartbeats 4000000 in
/-- There is no room: a new row. -/
theorem ins_grow_any (B g cap : Nat) (o : List Bd) (i : Nat) (a : ByteArray) (b c : Int) (vb : Nat) (w : World) (hl : o.length ≤ 1000) (hi : i < o.length) (hcap : cap = o.length) (hBw : B ≤ w.heap.size)
    (hO : OwnD B o (.slice (some ⟨g, 0, none⟩) o.length cap) w) (hv : w.heap[vb]? = some (.cells #[.string a, .int .i64 b, .int .i64 c] TB (0, 0))) :
    Calls Tryz.prog 64 #[.slice (some ⟨g, 0, none⟩) o.length cap, .int .i64 (i : Int), .slice (some ⟨vb, 0, none⟩) 1 1] w fun e w' => ∃ v', e = .returned v' ∧ OwnD B (o.take i ++ (a, b, c) :: o.drop i) v' w' ∧ w.grownBy w' none := by
  obtain ⟨i3, ki, kz0, kz1, kz2⟩ := info_parts infoB
  obtain ⟨cur, hg, htk⟩ : ∃ cur : Array Value, w.heap[g]? = some (.cells cur TB (0, 0)) ∧ cur.toList.take (o.length * 3) = bsV o := by
    rcases hO.2 with ⟨e, _⟩ | ⟨g', cap', cur, e, hB, hg, _, _, hcs, ht⟩
    · cases e
    · cases e
      exact ⟨cur, hg, ht⟩
  have hgw : g < w.heap.size := (Array.getElem?_eq_some_iff.1 hg).1
  have hvw : vb < w.heap.size := (Array.getElem?_eq_some_iff.1 hv).1
  have hd : (bsV (o.drop i)).length = (o.length - i) * 3 := by rw [bsV_length, List.length_drop]
  have ht : (bsV (o.take i)).length = i * 3 := by rw [bsV_length, List.length_take]; omega
  have hcell0 : ∀ j u, (bsV o)[j]? = some u → w.cell? ⟨g, j, none⟩ = some u := by
    intro j u hj
    rw [← htk, List.getElem?_take] at hj
    rw [Lib.cell_of_heap hg]
    split at hj
    · simpa using hj
    · cases hj
  have hold : (Builtin.firstCells i3.size i (.slice (some ⟨g, 0, none⟩) i cap)).run Tryz.prog w.drew = .ok (bsV (o.take i)).toArray w.drew := by
    rw [kz1]
    refine run_firstCells_some w.drew 3 i ⟨g, 0, none⟩ i cap (bsV (o.take i)) ht (fun j u hj => ?_)
    rw [Addr.add_lit, Nat.zero_add]
    rw [← bsV_take, List.getElem?_take] at hj
    split at hj
    · exact hcell0 j u hj
    · cases hj
  obtain ⟨G, hG⟩ : ∃ G, grownCap w (o.length + 1) cap TB = G := ⟨_, rfl⟩
  have hG1 : o.length + 1 ≤ G := by rw [← hG]; exact grownCap_ge w _ _ _
  have hG2 : G ≤ 9223372036854775807 := by
    have := grownCap_le_maxLen w (o.length + 1) cap TB (by unfold maxLen; omega)
    rw [hG] at this
    unfold maxLen at this
    omega
  obtain ⟨R, hR⟩ : ∃ R, ((bsV (o.take i)).toArray ++ Builtin.zeroCells (Value.agg #[.string .empty, .int .i64 0, .int .i64 0]).cells (o.length + 1 - i) ++ Builtin.zeroCells (Value.agg #[.string .empty, .int .i64 0, .int .i64 0]).cells (G - (o.length + 1))) = R := ⟨_, rfl⟩
  have hRl : R.size = G * 3 := by
    rw [← hR, Array.size_append, Array.size_append, size_zeroCells, size_zeroCells, List.size_toArray, ht]
    simp [Value.cells]
    omega
  have hRt : R.toList.take (i * 3) = bsV (o.take i) := by
    rw [← hR, Array.append_assoc, Array.toList_append, List.take_left' (by simpa using ht)]
  have hfit : Builtin.nextslicecap (o.length + 1) cap * i3.bytes ≤ 281474976710656 := by rw [kz2]; exact growslice_fits (by omega) (by omega)
  obtain ⟨W1, hW1⟩ : ∃ W1, w.drew.alloc (.cells R TB) = W1 := ⟨_, rfl⟩
  have hrz : ∀ ty, (Builtin.append_ #[40, 3] ty #[.slice (some ⟨g, 0, none⟩) i cap, .int .i64 ((o.length : Int) + 1 - (i : Int))]).run Tryz.prog w = .ok (.slice (some ⟨w.heap.size, 0, none⟩) (o.length + 1) G) W1 := fun ty => by
    have h := Lib.run_append_grow_zeros w 40 3 ty TB i3 _ .i64 .i64 Tryz.underlying40 Tryz.underlying3 ki kz0 (some ⟨g, 0, none⟩) i cap (bsV (o.take i)) hold (o.length + 1 - i) (by omega) (by rw [kz1]; omega) (by omega) (by omega) (by rw [kz2]; omega) (by rw [show i + (o.length + 1 - i) = o.length + 1 by omega]; exact hfit)
    rw [show i + (o.length + 1 - i) = o.length + 1 by omega, hG, hR, hW1] at h
    rw [show (o.length : Int) + 1 - (i : Int) = ((o.length + 1 - i : Nat) : Int) by omega]
    exact h
  have hg1 : W1.heap[w.heap.size]? = some (.cells R TB (0, 0)) := by rw [← hW1]; exact World.alloc_heap_new w.drew _
  have hb1 : w.grownBy W1 none := by rw [← hW1]; exact ⟨rfl, rfl, rfl, by simp, fun k hk _ => heap_alloc_old w.drew _ hk⟩
  have hcv : ∀ (W : World), W.heap[vb]? = w.heap[vb]? → ∀ j u, (encD (a, b, c))[j]? = some u → W.cell? ((⟨vb, 0, none⟩ : Addr).add j) = some u := by
    intro W hW j u hj
    rw [Addr.add_lit, Lib.cell_of_heap (hW.trans hv)]
    match j, hj with
    | 0, hj => simpa [encD] using hj
    | 1, hj => simpa [encD] using hj
    | 2, hj => simpa [encD] using hj
  obtain ⟨C1, hC1⟩ : ∃ C1, (splice R.toList (i * 3) (encD (a, b, c))).toArray = C1 := ⟨_, rfl⟩
  have hC1l : C1.size = G * 3 := by rw [← hC1, List.size_toArray, length_splice _ _ _ (by rw [encD_length]; simp; omega)]; simpa using hRl
  obtain ⟨W2, hW2⟩ : ∃ W2, W1.setRow w.heap.size C1 = W2 := ⟨_, rfl⟩
  have hcp1 : ∀ ty dc, (Builtin.copy_ #[40, 40] ty #[.slice (some ⟨w.heap.size, i * 3, none⟩) (o.length + 1 - i) dc, .slice (some ⟨vb, 0, none⟩) 1 1]).run Tryz.prog W1 = .ok (goInt 1) W2 := fun ty dc => by
    rw [← hW2, ← hC1]
    exact run_copyT W1 ty w.heap.size (i * 3) (o.length + 1 - i) dc ⟨vb, 0, none⟩ 1 1 R (encD (a, b, c)) 1 (by simp only [Nat.min_def]; split <;> omega) hg1 rfl (hcv W1 (hb1.block vb hvw (by simp))) (by rw [encD_length]; omega) (encD_one _)
  have hg2 : W2.heap[w.heap.size]? = some (.cells C1 TB (0, 0)) := by rw [← hW2]; exact setRow_heap W1 _ _ _ TB _ hg1
  have hb2 : w.grownBy W2 none := by
    rw [← hW2]
    exact ⟨hb1.os, hb1.tape, hb1.output, by have := hb1.size; simpa [World.setRow] using this, fun k hk hne => (setRow_other W1 _ k C1 (by omega)).trans (hb1.block k hk hne)⟩
  obtain ⟨C2, hC2⟩ : ∃ C2, (splice C1.toList ((i + 1) * 3) (bsV (o.drop i))).toArray = C2 := ⟨_, rfl⟩
  have hC2l : C2.size = G * 3 := by rw [← hC2, List.size_toArray, length_splice _ _ _ (by rw [hd]; simp; omega)]; simpa using hC1l
  obtain ⟨W3, hW3⟩ : ∃ W3, W2.drew.setRow w.heap.size C2 = W3 := ⟨_, rfl⟩
  have hcp2 : ∀ ty dc sc, (Builtin.copy_ #[40, 40] ty #[.slice (some ⟨w.heap.size, (i + 1) * 3, none⟩) (o.length - i) dc, .slice (some ⟨g, i * 3, none⟩) (o.length - i) sc]).run Tryz.prog W2.drew = .ok (goInt ((o.length - i : Nat) : Int)) W3 := fun ty dc sc => by
    rw [← hW3, ← hC2]
    refine run_copyT W2.drew ty w.heap.size ((i + 1) * 3) (o.length - i) dc ⟨g, i * 3, none⟩ (o.length - i) sc C1 (bsV (o.drop i)) (o.length - i) (by simp only [Nat.min_def]; split <;> omega) hg2 hd (fun j u hj => ?_) (by rw [hd]; omega) (bsV_one _)
    rw [Addr.add_lit]
    rw [← bsV_drop, List.getElem?_drop] at hj
    exact (World.cell?_of_block (a := ⟨g, i * 3 + j, none⟩) (hb2.block g hgw (by simp))).trans (hcell0 _ u hj)
  have hO3 : OwnD B (o.take i ++ (a, b, c) :: o.drop i) (.slice (some ⟨w.heap.size, 0, none⟩) (o.length + 1) G) W3 := by
    have hln : (o.take i ++ (a, b, c) :: o.drop i).length = o.length + 1 := by simp; omega
    unfold OwnD
    rw [hln]
    refine ⟨by rw [bsV_length, hln], .inr ⟨w.heap.size, G, C2, rfl, hBw, ?_, hG1, by unfold maxLen; omega, hC2l, ?_⟩⟩
    · rw [← hW3]; exact setRow_heap W2.drew _ _ _ TB _ hg2
    · rw [← hC2, ← hC1]
      exact ins_grow (a, b, c) (by omega) hRt (by simp; omega)
  have hb3 : w.grownBy W3 none := by
    rw [← hW3]
    exact ⟨hb2.os, hb2.tape, hb2.output, by have := hb2.size; simpa [World.setRow] using this, fun k hk hne => (setRow_other W2.drew _ k C2 (by omega)).trans (hb2.block k hk hne)⟩
  have HO3 := Lib.hid hO3
  have HG3 := Lib.hid hb3
  have hz2 : ¬ ((i : Int) = (o.length : Int)) := by omega
  have hw1 : IntKind.i64.wrap ((i : Int) + 1) = (i : Int) + 1 := by rw [IntKind.wrap_i64]; omega
  have hb1' : (0 : Int) ≤ (i : Int) + 1 := by omega
  have hin : i ≤ o.length := by omega
  have htn : ((i : Int) + 1).toNat = i + 1 := by omega
  have hgt : (cap : Int) < (o.length : Int) + 1 := by omega
  have hb3' : (i : Int) ≤ (o.length : Int) := by omega
  have hb4 : ¬ (cap = i) := by omega
  have hb5 : ¬ (G = i) := by omega
  have hb6 : ¬ (G = i + 1) := by omega
  have hb7 : i ≤ cap := by omega
  have HCAP := Lib.hid hcap
  clear hcap hO hv hg htk hgw hvw hd ht hcell0 hold hG hR hRl hRt hfit hW1 hg1 hb1 hcv hC1 hC1l hW2 hg2 hb2 hC2 hC2l hW3 hO3 hb3
  go_enter Tryz.func64, Tryz.ntmps64
  go_wp2_with (at_builtin; refine append_by_run0 _ rfl _ _ 40 3 rfl _ _ rfl rfl _ _ (hrz _) ?_)
  refine wp_region_still_tail 8 (by kernel_rfl) (by kernel_rfl) ?_
  obtain ⟨w2, hw2⟩ : ∃ W, W2.drew = W := ⟨_, rfl⟩
  change wpStill _ _ W2.drew (fun a' => wpList _ _ _ _ a' W2.drew) _ _
  rw [hw2] at hcp2 ⊢
  clear hw2
  simp only [List.take_succ_cons, List.take_zero, List.drop_succ_cons, List.drop_zero]
  repeat still_step
  refine wpStill_nil ?_
  go_wp2_with (at_builtin; refine copy_by_run _ rfl _ _ 40 rfl _ _ rfl rfl _ _ (hcp2 _ _ _) ?_)
  go_ret
  exact ⟨_, rfl, HO3.out, HG3.out⟩

/-- Insert. -/
theorem bInsert_any (B : Nat) (v : Value) (o : List Bd) (i : Nat) (a : ByteArray) (b c : Int) (vb : Nat) (w : World) (hl : o.length ≤ 1000) (hi : i ≤ o.length) (hBw : B ≤ w.heap.size) (hO : OwnD B o v w) (hne : v.ownBlock ≠ some vb)
    (hv : w.heap[vb]? = some (.cells #[.string a, .int .i64 b, .int .i64 c] TB (0, 0))) :
    Calls Tryz.prog 64 #[v, .int .i64 (i : Int), .slice (some ⟨vb, 0, none⟩) 1 1] w fun e w' => ∃ v', e = .returned v' ∧ OwnD B (o.take i ++ (a, b, c) :: o.drop i) v' w' ∧ w.grownBy w' v.ownBlock := by
  obtain ⟨ad, cap, rfl, hc1, hc2⟩ := ownZ_slice (show w.ownsRow B TB 3 v o.length (bsV o) from hO)
  by_cases he : i = o.length
  · subst he
    rw [List.take_length, List.drop_length]
    exact ins_end B ad cap o a b c vb w hl hBw hO hv
  · obtain ⟨g, cap', e, hB⟩ := ownZ_some (show w.ownsRow B TB 3 (.slice ad o.length cap) o.length (bsV o) from hO) (by omega)
    injection e with e1 e2 e3
    subst e1
    by_cases hr : o.length + 1 ≤ cap
    · exact ins_shift_any B g cap o i a b c vb w hl (by omega) hr hc2 (fun e => hne (by rw [e]; rfl)) hO hv
    · refine (ins_grow_any B g cap o i a b c vb w hl (by omega) (by omega) hBw hO hv).mono ?_
      rintro e w' ⟨v', h1, h2, h3⟩
      exact ⟨v', h1, h2, h3.os, h3.tape, h3.output, h3.size, fun k hk _ => h3.block k hk (by simp)⟩

end Go.Proofs.YtfgaihajopfmfaaGreatDoor
