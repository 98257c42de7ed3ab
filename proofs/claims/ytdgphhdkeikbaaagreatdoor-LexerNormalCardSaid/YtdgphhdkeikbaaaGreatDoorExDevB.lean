/-
  Maps with integer keys that the program itself fills. The small functions behind the program's operators. The closures behind the program's operators. What the function of an operator returns for its arguments. The table of the program's operators: its entries. The program's operators: the table.
-/
import Derived.Test.YtdgphhdkeikbaaaGreatDoorExTiny
import Derived.Laws.EntriesVeiled
import Derived.Maps.OwnOps
import Derived.Maps.OwnSet
import Derived.Laws.ResultCell
import Derived.Laws.CopyOwn
import Derived.Laws.Rows
import Derived.Laws.Tables
import Derived.RangeFuncRecord
import Derived.Test.YtdgphhdkeikbaaaGreatDoorExBase
import Derived.Test.YtdgphhdkeikbaaaGreatDoorExRefA
/-! ### ExMap: Maps with integer keys that the program itself fills. -/
namespace Go.Proofs.YtdgphhdkeikbaaaGreatDoor
set_option linter.unusedSimpArgs false
set_option linter.unusedVariables false
open Go.RowKit

/-- A product is out of range exactly if one factor is more than the greatest number divided by the other one. -/
theorem mul_big {a b : Int} (ha : a ≠ 0) (hb : 0 ≤ (b.natAbs : Int)) : (1099511627776 / (a.natAbs : Int) < (b.natAbs : Int)) ↔ (a * b < -1099511627776 ∨ 1099511627776 < a * b) := by
  have hp : 0 < a.natAbs := Int.natAbs_pos.2 ha
  have h1 : (a * b).natAbs = a.natAbs * b.natAbs := Int.natAbs_mul a b
  have h2 : (1099511627776 / (a.natAbs : Int) < (b.natAbs : Int)) ↔ 1099511627776 / a.natAbs < b.natAbs := by
    rw [show (1099511627776 : Int) = ((1099511627776 : Nat) : Int) by rfl, ← Int.natCast_ediv]
    omega
  rw [h2, Nat.div_lt_iff_lt_mul hp]
  have h3 : b.natAbs * a.natAbs = (a * b).natAbs := by rw [h1, Nat.mul_comm]
  rw [h3]
  omega
theorem mul_fit {a b : Int} (ha : -1099511627776 ≤ a ∧ a ≤ 1099511627776) (h : ¬ (a * b < -1099511627776 ∨ 1099511627776 < a * b)) : IntKind.i64.wrap (a * b) = a * b := IntWalk.i64_in _ (by omega)

abbrev TM : TypeId := 53
abbrev TOp : TypeId := 70
def entF : Nat → List (Int × Value) → List MapEntry
  | _, [] => []
  | n, p :: r => { key := .int .i64 p.1, val := p.2, born := n } :: entF (n + 1) r
def mapO (l : List (Int × Value)) : Obj := .map (entF 0 l).toArray l.length
theorem entF_app (a b : List (Int × Value)) : ∀ n, entF n (a ++ b) = entF n a ++ entF (n + a.length) b := by
  induction a with
  | nil => intro n; rfl
  | cons x r ih =>
    intro n
    simp only [List.cons_append, entF, ih, List.length_cons]
    rw [show n + 1 + r.length = n + (r.length + 1) by omega]
theorem mapO_snoc (l : List (Int × Value)) (k : Int) (v : Value) : mapO (l ++ [(k, v)]) = .map ((entF 0 l).toArray.push { key := .int .i64 k, val := v, born := l.length }) (l.length + 1) := by
  unfold mapO
  rw [entF_app, Nat.zero_add]
  simp [entF]
def lkM (l : List (Int × Value)) (k : Int) : Option Value := (l.find? fun p => p.1 == k).map (·.2)
theorem findNow_ent (l : List (Int × Value)) (k : Int) : ∀ n m, ∃ r, Instr.findNow (.int .i64) (.int .i64 k) (entF n l) m = some r ∧ r.map (·.2) = lkM l k := by
  induction l with
  | nil => intro n m; exact ⟨none, rfl, rfl⟩
  | cons p r ih =>
    intro n m
    simp only [entF, Instr.findNow, Instr.sameNow, if_true]
    by_cases h : k = p.1
    · refine ⟨some (m, p.2), by simp [h], ?_⟩
      simp [lkM, h]
    · obtain ⟨q, h1, h2⟩ := ih (n + 1) (m + 1)
      have hk : (k == p.1) = false := by simpa using h
      refine ⟨q, by rw [hk]; exact h1, ?_⟩
      rw [h2]
      have : (p.1 == k) = false := by simp; exact fun e => h e.symm
      simp [lkM, this]
theorem zeroOp (w : World) : (zeroValue TOp).run Tryz.prog w = .ok (.agg #[.string ⟨#[]⟩, .int .i64 0, .int .i64 0, .int .i64 0, .nilFunc]) w := by kernel_rfl
def setB (w : World) (b : Nat) (o : Obj) : World := { w with heap := w.heap.setIfInBounds b o }
theorem setB_same {w : World} {b : Nat} {o o' : Obj} (h : w.heap[b]? = some o') : (setB w b o).heap[b]? = some o := by
  have := (Array.getElem?_eq_some_iff.1 h).1
  simp [setB, this]
theorem setB_other {w : World} {b k : Nat} {o : Obj} (h : k ≠ b) : (setB w b o).heap[k]? = w.heap[k]? := by
  simp [setB, Array.getElem?_setIfInBounds_ne (Ne.symm h)]
theorem setB_grown (w : World) (b : Nat) (o : Obj) : w.grownBy (setB w b o) (some b) := ⟨rfl, rfl, rfl, by simp [setB], fun k _ hk => setB_other (fun e => hk (by rw [e]))⟩
theorem run_checkInt (w : World) (c : Bool) (k : Int) : (Instr.checkKey c 10000 3 (.int .i64 k)).run Tryz.prog w = .ok () w := by
  exact MapKept.run_checkKey Tryz.underlying3 (by trivial) c 9999
theorem run_findInt (w : World) (k : Int) (es : List MapEntry) (r : Option (Nat × Value)) (h : Instr.findNow (.int .i64) (.int .i64 k) es 0 = some r) : (Instr.findKey 3 (.int .i64 k) es).run Tryz.prog w = .ok r w := by
  exact MapKept.run_findKey Tryz.underlying3 h
theorem run_insertM {w : World} {b : Nat} {l : List (Int × Value)} (k : Int) (v : Value) (hb : w.heap[b]? = some (mapO l)) (hk : lkM l k = none) :
    (Instr.mapUpdate TM (.map (some b)) (.int .i64 k) v).run Tryz.prog w = .ok () (setB w b (mapO (l ++ [(k, v)]))) := by
  obtain ⟨r, h1, h2⟩ := findNow_ent l k 0 0
  rw [hk] at h2
  have hr : r = none := by cases r with
    | none => rfl
    | some x => cases h2
  subst hr
  rw [mapO_snoc]
  unfold mapO at hb
  have hf := run_findInt w k _ none h1
  simp [Instr.mapUpdate, run_underlying Tryz.underlying53, MapKept.run_getObj_map hb, run_checkInt, hf, MapKept.run_setObj_map _ hb, Result.andThen, setB]
theorem run_lookM {w : World} {b : Nat} {l : List (Int × Value)} (k : Int) (c : Bool) (hb : w.heap[b]? = some (mapO l)) :
    (Instr.lookup TM (.map (some b)) (.int .i64 k) c).run Tryz.prog w = .ok (if c = true then .tuple #[(lkM l k).getD (.agg #[.string ⟨#[]⟩, .int .i64 0, .int .i64 0, .int .i64 0, .nilFunc]), .bool (lkM l k).isSome] else (lkM l k).getD (.agg #[.string ⟨#[]⟩, .int .i64 0, .int .i64 0, .int .i64 0, .nilFunc])) w := by
  obtain ⟨r, h1, h2⟩ := findNow_ent l k 0 0
  have hf := run_findInt w k _ r h1
  unfold mapO at hb
  rw [← h2]
  have hz := zeroOp w
  cases r with
  | none => cases c <;> simp [Instr.lookup, run_underlying Tryz.underlying53, MapKept.run_getObj_map hb, run_checkInt, hf, hz, Result.andThen]
  | some x => cases c <;> simp [Instr.lookup, run_underlying Tryz.underlying53, MapKept.run_getObj_map hb, run_checkInt, hf, Result.andThen]

end Go.Proofs.YtdgphhdkeikbaaaGreatDoor

/-! ### ExOps: The small functions behind the program's operators. -/
namespace Go.Proofs.YtdgphhdkeikbaaaGreatDoor
set_option linter.unusedSimpArgs false
set_option linter.unusedVariables false
open Go.RowKit

theorem magnitude_same (x : Int) (w : World) (h : -4611686018427387904 ≤ x ∧ x ≤ 4611686018427387904) : Calls Tryz.prog 91 #[.int .i64 x] w fun r w' => r = .returned (.int .i64 (x.natAbs : Int)) ∧ w' = w := by
  obtain ⟨h1, h2⟩ := h
  have hw : IntKind.i64.wrap (-x) = -x := IntWalk.i64_in _ (by omega)
  by_cases hn : x < 0
  · rw [show (x.natAbs : Int) = -x by omega]
    have hc : ¬ (-x) < x := by omega
    have hd : x < -x := by omega
    go_enter Tryz.func91, Tryz.ntmps91
    go_wp2
    go_ret
    exact ⟨by first | rfl | (simp; done) | (simp; omega), rfl⟩
  · rw [show (x.natAbs : Int) = x by omega]
    have hd : ¬ x < -x := by omega
    go_enter Tryz.func91, Tryz.ntmps91
    go_wp2
    go_ret
    exact ⟨by first | rfl | (simp; done) | (simp; omega), rfl⟩
theorem bounded_same (x : Int) (w : World) (h : -4611686018427387904 ≤ x ∧ x ≤ 4611686018427387904) : Calls Tryz.prog 53 #[.int .i64 x] w fun r w' => r = .returned (.tuple #[.int .i64 (bdV x).1, .int .i64 (bdV x).2]) ∧ w' = w := by
  have H := Lib.hid (magnitude_same x w h)
  by_cases hb : x < -1099511627776 ∨ 1099511627776 < x
  · have e1 : bdV x = (0, 14) := by unfold bdV; rw [if_pos hb]
    have hc : 1099511627776 < (x.natAbs : Int) := by omega
    rw [e1]
    clear e1 hb
    go_enter Tryz.func53, Tryz.ntmps53
    go_wp2_with fail
    refine H.out.mono ?_
    rintro x4 w4 ⟨rfl, hw⟩
    have hw := hw.symm
    subst hw
    go_wp2
    go_ret2
    exact ⟨by first | rfl | (simp; done) | (simp; omega), rfl⟩
  · have e1 : bdV x = (x, 0) := by unfold bdV; rw [if_neg hb]
    have hc : ¬ 1099511627776 < (x.natAbs : Int) := by omega
    rw [e1]
    clear e1 hb
    go_enter Tryz.func53, Tryz.ntmps53
    go_wp2_with fail
    refine H.out.mono ?_
    rintro x4 w4 ⟨rfl, hw⟩
    have hw := hw.symm
    subst hw
    go_wp2
    go_ret2
    exact ⟨by first | rfl | (simp; done) | (simp; omega), rfl⟩


set_option maxHeartbeats 4000000 in
theorem product_same (a b : Int) (w : World) (ha : -1099511627776 ≤ a ∧ a ≤ 1099511627776) (hb : -1099511627776 ≤ b ∧ b ≤ 1099511627776) :
    Calls Tryz.prog 55 #[.int .i64 a, .int .i64 b] w fun x w' => x = .returned (.tuple #[.int .i64 (bdV (a * b)).1, .int .i64 (bdV (a * b)).2]) ∧ w' = w := by
  have HA := Lib.hid (magnitude_same a w (by omega))
  have HB := Lib.hid (magnitude_same b w (by omega))
  by_cases h0 : a = 0
  · subst h0
    have e1 : bdV (0 * b) = (0, 0) := by rw [Int.zero_mul]; rfl
    rw [e1]
    go_enter Tryz.func55, Tryz.ntmps55
    go_wp2_with fail
    go_ret2
    exact ⟨by first | rfl | simp, rfl⟩
  · obtain ⟨q, hqd⟩ : ∃ q, q = 1099511627776 / (a.natAbs : Int) := ⟨_, rfl⟩
    have hpos : 0 < (a.natAbs : Int) := by omega
    obtain ⟨m, hmd⟩ : ∃ m, m = (a.natAbs : Int) := ⟨_, rfl⟩
    obtain ⟨n, hnd⟩ : ∃ n, n = (b.natAbs : Int) := ⟨_, rfl⟩
    have hq0 : ¬ m = 0 := by omega
    have hdiv : Int.tdiv 1099511627776 m = q := by rw [hqd, hmd]; exact Int.tdiv_eq_ediv_of_nonneg (by decide)
    have hle : q ≤ 1099511627776 := by rw [hqd]; exact Int.ediv_le_self _ (by decide)
    have hge : 0 ≤ q := by rw [hqd]; exact Int.ediv_nonneg (by decide) (by omega)
    have hww : wrap64 q = q := IntWalk.wrap64_in q (by omega)
    have hm := mul_big (b := b) h0 (by omega)
    rw [← hqd, ← hnd] at hm
    rw [← hmd] at HA
    rw [← hnd] at HB
    have hne : (a == 0) = false := by simp [h0]
    have hne2 : (a != 0) = true := by simp [h0]
    by_cases hbig : a * b < -1099511627776 ∨ 1099511627776 < a * b
    · have e1 : bdV (a * b) = (0, 14) := by unfold bdV; rw [if_pos hbig]
      have hc := hm.2 hbig
      rw [e1]
      clear hm hbig e1 hqd hmd hnd
      go_enter Tryz.func55, Tryz.ntmps55
      go_wp2_with fail
      refine HB.out.mono ?_
      rintro x4 w4 ⟨rfl, hw⟩
      have hw := hw.symm
      subst hw
      go_wp2_with fail
      refine HA.out.mono ?_
      rintro x4 w4 ⟨rfl, hw⟩
      have hw := hw.symm
      subst hw
      go_wp2_with fail
      go_ret2
      exact ⟨by first | rfl | simp, rfl⟩
    · have hmf := mul_fit (b := b) ha hbig
      have e1 : bdV (a * b) = (a * b, 0) := by unfold bdV; rw [if_neg hbig]
      have hc : ¬ q < n := fun h => hbig (hm.1 h)
      rw [e1]
      clear hm hbig e1 hqd hmd hnd
      go_enter Tryz.func55, Tryz.ntmps55
      go_wp2_with fail
      refine HB.out.mono ?_
      rintro x4 w4 ⟨rfl, hw⟩
      have hw := hw.symm
      subst hw
      go_wp2_with fail
      refine HA.out.mono ?_
      rintro x4 w4 ⟨rfl, hw⟩
      have hw := hw.symm
      subst hw
      go_wp2_with fail
      go_ret2
      exact ⟨by first | rfl | simp [*], rfl⟩

end Go.Proofs.YtdgphhdkeikbaaaGreatDoor

/-! ### ExFns: The closures behind the program's operators. -/
namespace Go.Proofs.YtdgphhdkeikbaaaGreatDoor
set_option linter.unusedSimpArgs false
set_option linter.unusedVariables false
open Go.RowKit

theorem cell_one {w : World} {h : Nat} {v : Value} {t : TypeId} {fr : Nat × Nat} (hh : w.heap[h]? = some (.cells #[v] t fr)) : w.cell? ⟨h, 0, none⟩ = some v := by simp [World.cell?, hh]

theorem plus_same (a b : Int) (w : World) (ha : -1099511627776 ≤ a ∧ a ≤ 1099511627776) (hb : -1099511627776 ≤ b ∧ b ≤ 1099511627776) :
    Calls Tryz.prog 52 #[.int .i64 a, .int .i64 b] w fun x w' => x = .returned (.tuple #[.int .i64 (bdV (a + b)).1, .int .i64 (bdV (a + b)).2]) ∧ w' = w := by
  have hw : IntKind.i64.wrap (a + b) = a + b := IntWalk.i64_in _ (by omega)
  have H := Lib.hid (bounded_same (a + b) w (by omega))
  obtain ⟨r, hr⟩ : ∃ r, bdV (a + b) = r := ⟨_, rfl⟩
  rw [hr] at H ⊢
  obtain ⟨r1, r2⟩ := r
  simp only [] at H ⊢
  clear hr
  go_enter Tryz.func52, Tryz.ntmps52
  go_wp2_with fail
  refine H.out.mono ?_
  rintro x4 w4 ⟨rfl, hw⟩
  have hw := hw.symm
  subst hw
  go_wp2
  go_ret2
  exact ⟨rfl, rfl⟩

theorem minus_same (a b : Int) (w : World) (ha : -1099511627776 ≤ a ∧ a ≤ 1099511627776) (hb : -1099511627776 ≤ b ∧ b ≤ 1099511627776) :
    Calls Tryz.prog 54 #[.int .i64 a, .int .i64 b] w fun x w' => x = .returned (.tuple #[.int .i64 (bdV (a - b)).1, .int .i64 (bdV (a - b)).2]) ∧ w' = w := by
  have hw : IntKind.i64.wrap (a - b) = a - b := IntWalk.i64_in _ (by omega)
  have H := Lib.hid (bounded_same (a - b) w (by omega))
  obtain ⟨r, hr⟩ : ∃ r, bdV (a - b) = r := ⟨_, rfl⟩
  rw [hr] at H ⊢
  obtain ⟨r1, r2⟩ := r
  simp only [] at H ⊢
  clear hr
  go_enter Tryz.func54, Tryz.ntmps54
  go_wp2_with fail
  refine H.out.mono ?_
  rintro x4 w4 ⟨rfl, hw⟩
  have hw := hw.symm
  subst hw
  go_wp2
  go_ret2
  exact ⟨rfl, rfl⟩

theorem quo_in {a b : Int} (ha : -1099511627776 ≤ a ∧ a ≤ 1099511627776) (h0 : ¬ b = 0) : -1099511627776 ≤ a.tdiv b ∧ a.tdiv b ≤ 1099511627776 := by
  have h1 : (a.tdiv b).natAbs ≤ a.natAbs := by rw [Int.natAbs_tdiv]; exact Nat.div_le_self _ _
  omega
theorem rem_in {a b : Int} (ha : -1099511627776 ≤ a ∧ a ≤ 1099511627776) (h0 : ¬ b = 0) : -1099511627776 ≤ a.tmod b ∧ a.tmod b ≤ 1099511627776 := by
  have h1 : (a.tmod b).natAbs ≤ a.natAbs := by rw [Int.natAbs_tmod]; exact Nat.mod_le _ _
  omega
theorem quo_same (a b : Int) (w : World) (ha : -1099511627776 ≤ a ∧ a ≤ 1099511627776) (hb : -1099511627776 ≤ b ∧ b ≤ 1099511627776) (h0 : ¬ b = 0) :
    Calls Tryz.prog 57 #[.int .i64 a, .int .i64 b] w fun x w' => x = .returned (.int .i64 (a.tdiv b)) ∧ w' = w := by
  obtain ⟨c1, c2⟩ := quo_in ha h0
  have hww : wrap64 (a.tdiv b) = a.tdiv b := IntWalk.wrap64_in _ (by omega)
  have hw : IntKind.i64.wrap (a.tdiv b) = a.tdiv b := IntWalk.i64_in _ (by omega)
  go_enter Tryz.func57, Tryz.ntmps57
  go_wp2
  go_ret
  exact ⟨by first | rfl | simp [*], rfl⟩

theorem rem_same (a b : Int) (w : World) (ha : -1099511627776 ≤ a ∧ a ≤ 1099511627776) (hb : -1099511627776 ≤ b ∧ b ≤ 1099511627776) (h0 : ¬ b = 0) :
    Calls Tryz.prog 58 #[.int .i64 a, .int .i64 b] w fun x w' => x = .returned (.int .i64 (a.tmod b)) ∧ w' = w := by
  obtain ⟨c1, c2⟩ := rem_in ha h0
  have hww : wrap64 (a.tmod b) = a.tmod b := IntWalk.wrap64_in _ (by omega)
  have hw : IntKind.i64.wrap (a.tmod b) = a.tmod b := IntWalk.i64_in _ (by omega)
  go_enter Tryz.func58, Tryz.ntmps58
  go_wp2
  go_ret
  exact ⟨by first | rfl | simp [*], rfl⟩

theorem dquo_same (a b : Int) (w : World) (h : Nat) (ha : -1099511627776 ≤ a ∧ a ≤ 1099511627776) (hb : -1099511627776 ≤ b ∧ b ≤ 1099511627776) (hh : w.heap[h]? = some (.cells #[.func (.func 57) #[] #[]] 76 (0, 0))) :
    Calls Tryz.prog 92 #[.int .i64 a, .int .i64 b, .pointer (some ⟨h, 0, none⟩)] w fun x w' => x = .returned (.tuple #[.int .i64 (if b = 0 then ((0 : Int), (24 : Int)) else (a.tdiv b, 0)).1, .int .i64 (if b = 0 then ((0 : Int), (24 : Int)) else (a.tdiv b, 0)).2]) ∧ w' = w := by
  have hc : w.cell? ⟨h, 0, none⟩ = some (.func (.func 57) #[] #[]) := cell_one hh
  by_cases h0 : b = 0
  · subst h0
    clear hh
    go_enter Tryz.func92, Tryz.ntmps92
    go_wp2
    go_ret2
    exact ⟨rfl, rfl⟩
  · have H := Lib.hid (fun W => quo_same a b W ha hb h0)
    obtain ⟨q1, q2⟩ := ine h0
    rw [if_neg h0]
    clear hh h0
    go_enter Tryz.func92, Tryz.ntmps92
    go_wp2_with fail
    refine (H.out _).mono ?_
    rintro x4 w4 ⟨rfl, hw⟩
    have hw := hw.symm
    subst hw
    go_wp2
    go_ret2
    exact ⟨rfl, rfl⟩

theorem drem_same (a b : Int) (w : World) (h : Nat) (ha : -1099511627776 ≤ a ∧ a ≤ 1099511627776) (hb : -1099511627776 ≤ b ∧ b ≤ 1099511627776) (hh : w.heap[h]? = some (.cells #[.func (.func 58) #[] #[]] 76 (0, 0))) :
    Calls Tryz.prog 92 #[.int .i64 a, .int .i64 b, .pointer (some ⟨h, 0, none⟩)] w fun x w' => x = .returned (.tuple #[.int .i64 (if b = 0 then ((0 : Int), (24 : Int)) else (a.tmod b, 0)).1, .int .i64 (if b = 0 then ((0 : Int), (24 : Int)) else (a.tmod b, 0)).2]) ∧ w' = w := by
  have hc : w.cell? ⟨h, 0, none⟩ = some (.func (.func 58) #[] #[]) := cell_one hh
  by_cases h0 : b = 0
  · subst h0
    clear hh
    go_enter Tryz.func92, Tryz.ntmps92
    go_wp2
    go_ret2
    exact ⟨rfl, rfl⟩
  · have H := Lib.hid (fun W => rem_same a b W ha hb h0)
    obtain ⟨q1, q2⟩ := ine h0
    rw [if_neg h0]
    clear hh h0
    go_enter Tryz.func92, Tryz.ntmps92
    go_wp2_with fail
    refine (H.out _).mono ?_
    rintro x4 w4 ⟨rfl, hw⟩
    have hw := hw.symm
    subst hw
    go_wp2
    go_ret2
    exact ⟨rfl, rfl⟩

end Go.Proofs.YtdgphhdkeikbaaaGreatDoor

/-! ### ExApp: What the function of an operator returns for its arguments. -/
namespace Go.Proofs.YtdgphhdkeikbaaaGreatDoor
set_option linter.unusedSimpArgs false
set_option linter.unusedVariables false
open Go.RowKit

theorem un1_app (a : Int) (w : World) (p : Nat) (cap : Nat) (ha : -1099511627776 ≤ a ∧ a ≤ 1099511627776) (h0 : w.cell? ⟨p, 0, none⟩ = some (.int .i64 a)) :
    Calls Tryz.prog 49 #[.slice (some ⟨p, 0, none⟩) 1 cap] w fun x w' => x = .returned (.tuple #[.int .i64 (-a), .int .i64 0]) ∧ w' = w := by
  have hw : IntKind.i64.wrap (-a) = -a := IntWalk.i64_in _ (by omega)
  clear ha
  go_enter Tryz.func49, Tryz.ntmps49
  go_wp2
  go_ret2
  exact ⟨rfl, rfl⟩

theorem un2_app (a : Int) (w : World) (p : Nat) (cap : Nat) (ha : -1099511627776 ≤ a ∧ a ≤ 1099511627776) (h0 : w.cell? ⟨p, 0, none⟩ = some (.int .i64 a)) :
    Calls Tryz.prog 50 #[.slice (some ⟨p, 0, none⟩) 1 cap] w fun x w' => x = .returned (.tuple #[.int .i64 (1 - a), .int .i64 0]) ∧ w' = w := by
  have hw : IntKind.i64.wrap (1 - a) = 1 - a := IntWalk.i64_in _ (by omega)
  clear ha
  go_enter Tryz.func50, Tryz.ntmps50
  go_wp2
  go_ret2
  exact ⟨rfl, rfl⟩

theorem ar3_app (a b : Int) (w : World) (p : Nat) (cap g : Nat) (ha : -1099511627776 ≤ a ∧ a ≤ 1099511627776) (hb : -1099511627776 ≤ b ∧ b ≤ 1099511627776) (h0 : w.cell? ⟨p, 0, none⟩ = some (.int .i64 a)) (h1 : w.cell? ⟨p, 1, none⟩ = some (.int .i64 b))
    (hg : w.heap[g]? = some (.cells #[.func (.func 52) #[] #[]] 74 (0, 0))) :
    Calls Tryz.prog 90 #[.slice (some ⟨p, 0, none⟩) 2 cap, .pointer (some ⟨g, 0, none⟩)] w fun x w' => x = .returned (.tuple #[.int .i64 (opW 3 a b).1, .int .i64 (opW 3 a b).2]) ∧ ∃ n, w' = w.drewN n := by
  have H := Lib.hid (fun n => plus_same a b (w.drewN n) ha hb)
  have e0 : opW 3 a b = bdV (a + b) := rfl
  rw [← e0] at H
  clear e0
  obtain ⟨r, hr⟩ : ∃ r, opW 3 a b = r := ⟨_, rfl⟩
  rw [hr] at H ⊢
  obtain ⟨r1, r2⟩ := r
  simp only [] at H ⊢
  have hc := cell_one hg
  clear hr hg ha hb
  go_enter Tryz.func90, Tryz.ntmps90
  go_wp2_with fail
  go_quiet ((go_at_call 52; exact Calls.quiet_of_same (H.out _)))
  go_wp2
  go_ret2
  exact ⟨rfl, _, rfl⟩

theorem ar4_app (a b : Int) (w : World) (p : Nat) (cap g : Nat) (ha : -1099511627776 ≤ a ∧ a ≤ 1099511627776) (hb : -1099511627776 ≤ b ∧ b ≤ 1099511627776) (h0 : w.cell? ⟨p, 0, none⟩ = some (.int .i64 a)) (h1 : w.cell? ⟨p, 1, none⟩ = some (.int .i64 b))
    (hg : w.heap[g]? = some (.cells #[.func (.func 54) #[] #[]] 74 (0, 0))) :
    Calls Tryz.prog 90 #[.slice (some ⟨p, 0, none⟩) 2 cap, .pointer (some ⟨g, 0, none⟩)] w fun x w' => x = .returned (.tuple #[.int .i64 (opW 4 a b).1, .int .i64 (opW 4 a b).2]) ∧ ∃ n, w' = w.drewN n := by
  have H := Lib.hid (fun n => minus_same a b (w.drewN n) ha hb)
  have e0 : opW 4 a b = bdV (a - b) := rfl
  rw [← e0] at H
  clear e0
  obtain ⟨r, hr⟩ : ∃ r, opW 4 a b = r := ⟨_, rfl⟩
  rw [hr] at H ⊢
  obtain ⟨r1, r2⟩ := r
  simp only [] at H ⊢
  have hc := cell_one hg
  clear hr hg ha hb
  go_enter Tryz.func90, Tryz.ntmps90
  go_wp2_with fail
  go_quiet ((go_at_call 54; exact Calls.quiet_of_same (H.out _)))
  go_wp2
  go_ret2
  exact ⟨rfl, _, rfl⟩

theorem ar5_app (a b : Int) (w : World) (p : Nat) (cap g : Nat) (ha : -1099511627776 ≤ a ∧ a ≤ 1099511627776) (hb : -1099511627776 ≤ b ∧ b ≤ 1099511627776) (h0 : w.cell? ⟨p, 0, none⟩ = some (.int .i64 a)) (h1 : w.cell? ⟨p, 1, none⟩ = some (.int .i64 b))
    (hg : w.heap[g]? = some (.cells #[.func (.func 55) #[] #[]] 74 (0, 0))) :
    Calls Tryz.prog 90 #[.slice (some ⟨p, 0, none⟩) 2 cap, .pointer (some ⟨g, 0, none⟩)] w fun x w' => x = .returned (.tuple #[.int .i64 (opW 5 a b).1, .int .i64 (opW 5 a b).2]) ∧ ∃ n, w' = w.drewN n := by
  have H := Lib.hid (fun n => product_same a b (w.drewN n) ha hb)
  have e0 : opW 5 a b = bdV (a * b) := rfl
  rw [← e0] at H
  clear e0
  obtain ⟨r, hr⟩ : ∃ r, opW 5 a b = r := ⟨_, rfl⟩
  rw [hr] at H ⊢
  obtain ⟨r1, r2⟩ := r
  simp only [] at H ⊢
  have hc := cell_one hg
  clear hr hg ha hb
  go_enter Tryz.func90, Tryz.ntmps90
  go_wp2_with fail
  go_quiet ((go_at_call 55; exact Calls.quiet_of_same (H.out _)))
  go_wp2
  go_ret2
  exact ⟨rfl, _, rfl⟩

theorem ar6_app (a b : Int) (w : World) (p : Nat) (cap g : Nat) (h : Nat) (hh : w.heap[h]? = some (.cells #[.func (.func 57) #[] #[]] 76 (0, 0))) (ha : -1099511627776 ≤ a ∧ a ≤ 1099511627776) (hb : -1099511627776 ≤ b ∧ b ≤ 1099511627776) (h0 : w.cell? ⟨p, 0, none⟩ = some (.int .i64 a)) (h1 : w.cell? ⟨p, 1, none⟩ = some (.int .i64 b))
    (hg : w.heap[g]? = some (.cells #[.func (.func 92) #[] #[.pointer (some ⟨h, 0, none⟩)]] 74 (0, 0))) :
    Calls Tryz.prog 90 #[.slice (some ⟨p, 0, none⟩) 2 cap, .pointer (some ⟨g, 0, none⟩)] w fun x w' => x = .returned (.tuple #[.int .i64 (opW 6 a b).1, .int .i64 (opW 6 a b).2]) ∧ ∃ n, w' = w.drewN n := by
  have H := Lib.hid (fun n => dquo_same a b (w.drewN n) h ha hb hh)
  have e0 : opW 6 a b = if b = 0 then ((0 : Int), (24 : Int)) else (a.tdiv b, 0) := rfl
  rw [← e0] at H
  clear e0
  obtain ⟨r, hr⟩ : ∃ r, opW 6 a b = r := ⟨_, rfl⟩
  rw [hr] at H ⊢
  obtain ⟨r1, r2⟩ := r
  simp only [] at H ⊢
  have hc := cell_one hg
  clear hr hg hh ha hb
  go_enter Tryz.func90, Tryz.ntmps90
  go_wp2_with fail
  go_quiet ((go_at_call 92; exact Calls.quiet_of_same (H.out _)))
  go_wp2
  go_ret2
  exact ⟨rfl, _, rfl⟩

theorem ar7_app (a b : Int) (w : World) (p : Nat) (cap g : Nat) (h : Nat) (hh : w.heap[h]? = some (.cells #[.func (.func 58) #[] #[]] 76 (0, 0))) (ha : -1099511627776 ≤ a ∧ a ≤ 1099511627776) (hb : -1099511627776 ≤ b ∧ b ≤ 1099511627776) (h0 : w.cell? ⟨p, 0, none⟩ = some (.int .i64 a)) (h1 : w.cell? ⟨p, 1, none⟩ = some (.int .i64 b))
    (hg : w.heap[g]? = some (.cells #[.func (.func 92) #[] #[.pointer (some ⟨h, 0, none⟩)]] 74 (0, 0))) :
    Calls Tryz.prog 90 #[.slice (some ⟨p, 0, none⟩) 2 cap, .pointer (some ⟨g, 0, none⟩)] w fun x w' => x = .returned (.tuple #[.int .i64 (opW 7 a b).1, .int .i64 (opW 7 a b).2]) ∧ ∃ n, w' = w.drewN n := by
  have H := Lib.hid (fun n => drem_same a b (w.drewN n) h ha hb hh)
  have e0 : opW 7 a b = if b = 0 then ((0 : Int), (24 : Int)) else (a.tmod b, 0) := rfl
  rw [← e0] at H
  clear e0
  obtain ⟨r, hr⟩ : ∃ r, opW 7 a b = r := ⟨_, rfl⟩
  rw [hr] at H ⊢
  obtain ⟨r1, r2⟩ := r
  simp only [] at H ⊢
  have hc := cell_one hg
  clear hr hg hh ha hb
  go_enter Tryz.func90, Tryz.ntmps90
  go_wp2_with fail
  go_quiet ((go_at_call 92; exact Calls.quiet_of_same (H.out _)))
  go_wp2
  go_ret2
  exact ⟨rfl, _, rfl⟩

theorem tf8_same (a b : Int) (w : World) : Calls Tryz.prog 60 #[.int .i64 a, .int .i64 b] w fun x w' => x = .returned (.bool (decide (a = b))) ∧ w' = w := by
  go_enter Tryz.func60, Tryz.ntmps60
  go_wp2
  go_ret
  exact ⟨by first | rfl | (simp; done) | (congr 2; simp; done) | (simp [bne]; done) | (simp; omega), rfl⟩

theorem tr8_app (a b : Int) (w : World) (p : Nat) (cap g : Nat) (h0 : w.cell? ⟨p, 0, none⟩ = some (.int .i64 a)) (h1 : w.cell? ⟨p, 1, none⟩ = some (.int .i64 b))
    (hg : w.heap[g]? = some (.cells #[.func (.func 60) #[] #[]] 78 (0, 0))) :
    Calls Tryz.prog 93 #[.slice (some ⟨p, 0, none⟩) 2 cap, .pointer (some ⟨g, 0, none⟩)] w fun x w' => x = .returned (.tuple #[.int .i64 (opW 8 a b).1, .int .i64 (opW 8 a b).2]) ∧ ∃ n, w' = w.drewN n := by
  have H := Lib.hid (fun n => tf8_same a b (w.drewN n))
  have e0 : opW 8 a b = (b2i (decide (a = b)), 0) := rfl
  rw [e0]
  clear e0
  obtain ⟨r, hr⟩ : ∃ r, decide (a = b) = r := ⟨_, rfl⟩
  rw [hr] at H ⊢
  have hc := cell_one hg
  clear hr hg
  cases r
  · go_enter Tryz.func93, Tryz.ntmps93
    go_wp2_with fail
    go_quiet ((go_at_call 60; exact Calls.quiet_of_same (H.out _)))
    go_wp2
    go_ret2
    exact ⟨rfl, _, rfl⟩
  · go_enter Tryz.func93, Tryz.ntmps93
    go_wp2_with fail
    go_quiet ((go_at_call 60; exact Calls.quiet_of_same (H.out _)))
    go_wp2
    go_ret2
    exact ⟨rfl, _, rfl⟩

theorem tf9_same (a b : Int) (w : World) : Calls Tryz.prog 61 #[.int .i64 a, .int .i64 b] w fun x w' => x = .returned (.bool (decide (a ≠ b))) ∧ w' = w := by
  by_cases h : a = b
  · have e : decide (a ≠ b) = false := by simp [h]
    obtain ⟨q1, q2⟩ := ieq h
    rw [e]
    go_enter Tryz.func61, Tryz.ntmps61
    go_wp2
    go_ret
    exact ⟨by first | rfl | (simp [*]; done), rfl⟩
  · have e : decide (a ≠ b) = true := by simp [h]
    obtain ⟨q1, q2⟩ := ine h
    rw [e]
    go_enter Tryz.func61, Tryz.ntmps61
    go_wp2
    go_ret
    exact ⟨by first | rfl | (simp [*]; done), rfl⟩

theorem tr9_app (a b : Int) (w : World) (p : Nat) (cap g : Nat) (h0 : w.cell? ⟨p, 0, none⟩ = some (.int .i64 a)) (h1 : w.cell? ⟨p, 1, none⟩ = some (.int .i64 b))
    (hg : w.heap[g]? = some (.cells #[.func (.func 61) #[] #[]] 78 (0, 0))) :
    Calls Tryz.prog 93 #[.slice (some ⟨p, 0, none⟩) 2 cap, .pointer (some ⟨g, 0, none⟩)] w fun x w' => x = .returned (.tuple #[.int .i64 (opW 9 a b).1, .int .i64 (opW 9 a b).2]) ∧ ∃ n, w' = w.drewN n := by
  have H := Lib.hid (fun n => tf9_same a b (w.drewN n))
  have e0 : opW 9 a b = (b2i (decide (a ≠ b)), 0) := rfl
  rw [e0]
  clear e0
  obtain ⟨r, hr⟩ : ∃ r, decide (a ≠ b) = r := ⟨_, rfl⟩
  rw [hr] at H ⊢
  have hc := cell_one hg
  clear hr hg
  cases r
  · go_enter Tryz.func93, Tryz.ntmps93
    go_wp2_with fail
    go_quiet ((go_at_call 61; exact Calls.quiet_of_same (H.out _)))
    go_wp2
    go_ret2
    exact ⟨rfl, _, rfl⟩
  · go_enter Tryz.func93, Tryz.ntmps93
    go_wp2_with fail
    go_quiet ((go_at_call 61; exact Calls.quiet_of_same (H.out _)))
    go_wp2
    go_ret2
    exact ⟨rfl, _, rfl⟩

theorem tf10_same (a b : Int) (w : World) : Calls Tryz.prog 62 #[.int .i64 a, .int .i64 b] w fun x w' => x = .returned (.bool (decide (a < b))) ∧ w' = w := by
  go_enter Tryz.func62, Tryz.ntmps62
  go_wp2
  go_ret
  exact ⟨by first | rfl | (simp; done) | (congr 2; simp; done) | (simp [bne]; done) | (simp; omega), rfl⟩

theorem tr10_app (a b : Int) (w : World) (p : Nat) (cap g : Nat) (h0 : w.cell? ⟨p, 0, none⟩ = some (.int .i64 a)) (h1 : w.cell? ⟨p, 1, none⟩ = some (.int .i64 b))
    (hg : w.heap[g]? = some (.cells #[.func (.func 62) #[] #[]] 78 (0, 0))) :
    Calls Tryz.prog 93 #[.slice (some ⟨p, 0, none⟩) 2 cap, .pointer (some ⟨g, 0, none⟩)] w fun x w' => x = .returned (.tuple #[.int .i64 (opW 10 a b).1, .int .i64 (opW 10 a b).2]) ∧ ∃ n, w' = w.drewN n := by
  have H := Lib.hid (fun n => tf10_same a b (w.drewN n))
  have e0 : opW 10 a b = (b2i (decide (a < b)), 0) := rfl
  rw [e0]
  clear e0
  obtain ⟨r, hr⟩ : ∃ r, decide (a < b) = r := ⟨_, rfl⟩
  rw [hr] at H ⊢
  have hc := cell_one hg
  clear hr hg
  cases r
  · go_enter Tryz.func93, Tryz.ntmps93
    go_wp2_with fail
    go_quiet ((go_at_call 62; exact Calls.quiet_of_same (H.out _)))
    go_wp2
    go_ret2
    exact ⟨rfl, _, rfl⟩
  · go_enter Tryz.func93, Tryz.ntmps93
    go_wp2_with fail
    go_quiet ((go_at_call 62; exact Calls.quiet_of_same (H.out _)))
    go_wp2
    go_ret2
    exact ⟨rfl, _, rfl⟩

theorem tf11_same (a b : Int) (w : World) : Calls Tryz.prog 63 #[.int .i64 a, .int .i64 b] w fun x w' => x = .returned (.bool (decide (a ≤ b))) ∧ w' = w := by
  go_enter Tryz.func63, Tryz.ntmps63
  go_wp2
  go_ret
  exact ⟨by first | rfl | (simp; done) | (congr 2; simp; done) | (simp [bne]; done) | (simp; omega), rfl⟩

theorem tr11_app (a b : Int) (w : World) (p : Nat) (cap g : Nat) (h0 : w.cell? ⟨p, 0, none⟩ = some (.int .i64 a)) (h1 : w.cell? ⟨p, 1, none⟩ = some (.int .i64 b))
    (hg : w.heap[g]? = some (.cells #[.func (.func 63) #[] #[]] 78 (0, 0))) :
    Calls Tryz.prog 93 #[.slice (some ⟨p, 0, none⟩) 2 cap, .pointer (some ⟨g, 0, none⟩)] w fun x w' => x = .returned (.tuple #[.int .i64 (opW 11 a b).1, .int .i64 (opW 11 a b).2]) ∧ ∃ n, w' = w.drewN n := by
  have H := Lib.hid (fun n => tf11_same a b (w.drewN n))
  have e0 : opW 11 a b = (b2i (decide (a ≤ b)), 0) := rfl
  rw [e0]
  clear e0
  obtain ⟨r, hr⟩ : ∃ r, decide (a ≤ b) = r := ⟨_, rfl⟩
  rw [hr] at H ⊢
  have hc := cell_one hg
  clear hr hg
  cases r
  · go_enter Tryz.func93, Tryz.ntmps93
    go_wp2_with fail
    go_quiet ((go_at_call 63; exact Calls.quiet_of_same (H.out _)))
    go_wp2
    go_ret2
    exact ⟨rfl, _, rfl⟩
  · go_enter Tryz.func93, Tryz.ntmps93
    go_wp2_with fail
    go_quiet ((go_at_call 63; exact Calls.quiet_of_same (H.out _)))
    go_wp2
    go_ret2
    exact ⟨rfl, _, rfl⟩

theorem tf12_same (a b : Int) (w : World) : Calls Tryz.prog 64 #[.int .i64 a, .int .i64 b] w fun x w' => x = .returned (.bool (decide (b < a))) ∧ w' = w := by
  go_enter Tryz.func64, Tryz.ntmps64
  go_wp2
  go_ret
  exact ⟨by first | rfl | (simp; done) | (congr 2; simp; done) | (simp [bne]; done) | (simp; omega), rfl⟩

theorem tr12_app (a b : Int) (w : World) (p : Nat) (cap g : Nat) (h0 : w.cell? ⟨p, 0, none⟩ = some (.int .i64 a)) (h1 : w.cell? ⟨p, 1, none⟩ = some (.int .i64 b))
    (hg : w.heap[g]? = some (.cells #[.func (.func 64) #[] #[]] 78 (0, 0))) :
    Calls Tryz.prog 93 #[.slice (some ⟨p, 0, none⟩) 2 cap, .pointer (some ⟨g, 0, none⟩)] w fun x w' => x = .returned (.tuple #[.int .i64 (opW 12 a b).1, .int .i64 (opW 12 a b).2]) ∧ ∃ n, w' = w.drewN n := by
  have H := Lib.hid (fun n => tf12_same a b (w.drewN n))
  have e0 : opW 12 a b = (b2i (decide (b < a)), 0) := rfl
  rw [e0]
  clear e0
  obtain ⟨r, hr⟩ : ∃ r, decide (b < a) = r := ⟨_, rfl⟩
  rw [hr] at H ⊢
  have hc := cell_one hg
  clear hr hg
  cases r
  · go_enter Tryz.func93, Tryz.ntmps93
    go_wp2_with fail
    go_quiet ((go_at_call 64; exact Calls.quiet_of_same (H.out _)))
    go_wp2
    go_ret2
    exact ⟨rfl, _, rfl⟩
  · go_enter Tryz.func93, Tryz.ntmps93
    go_wp2_with fail
    go_quiet ((go_at_call 64; exact Calls.quiet_of_same (H.out _)))
    go_wp2
    go_ret2
    exact ⟨rfl, _, rfl⟩

theorem tf13_same (a b : Int) (w : World) : Calls Tryz.prog 65 #[.int .i64 a, .int .i64 b] w fun x w' => x = .returned (.bool (decide (b ≤ a))) ∧ w' = w := by
  go_enter Tryz.func65, Tryz.ntmps65
  go_wp2
  go_ret
  exact ⟨by first | rfl | (simp; done) | (congr 2; simp; done) | (simp [bne]; done) | (simp; omega), rfl⟩

theorem tr13_app (a b : Int) (w : World) (p : Nat) (cap g : Nat) (h0 : w.cell? ⟨p, 0, none⟩ = some (.int .i64 a)) (h1 : w.cell? ⟨p, 1, none⟩ = some (.int .i64 b))
    (hg : w.heap[g]? = some (.cells #[.func (.func 65) #[] #[]] 78 (0, 0))) :
    Calls Tryz.prog 93 #[.slice (some ⟨p, 0, none⟩) 2 cap, .pointer (some ⟨g, 0, none⟩)] w fun x w' => x = .returned (.tuple #[.int .i64 (opW 13 a b).1, .int .i64 (opW 13 a b).2]) ∧ ∃ n, w' = w.drewN n := by
  have H := Lib.hid (fun n => tf13_same a b (w.drewN n))
  have e0 : opW 13 a b = (b2i (decide (b ≤ a)), 0) := rfl
  rw [e0]
  clear e0
  obtain ⟨r, hr⟩ : ∃ r, decide (b ≤ a) = r := ⟨_, rfl⟩
  rw [hr] at H ⊢
  have hc := cell_one hg
  clear hr hg
  cases r
  · go_enter Tryz.func93, Tryz.ntmps93
    go_wp2_with fail
    go_quiet ((go_at_call 65; exact Calls.quiet_of_same (H.out _)))
    go_wp2
    go_ret2
    exact ⟨rfl, _, rfl⟩
  · go_enter Tryz.func93, Tryz.ntmps93
    go_wp2_with fail
    go_quiet ((go_at_call 65; exact Calls.quiet_of_same (H.out _)))
    go_wp2
    go_ret2
    exact ⟨rfl, _, rfl⟩

theorem tf14_same (a b : Int) (w : World) : Calls Tryz.prog 66 #[.int .i64 a, .int .i64 b] w fun x w' => x = .returned (.bool (decide (a = 1 ∧ b = 1))) ∧ w' = w := by
  by_cases h1 : a = 1
  · by_cases h2 : b = 1
    · subst h1 h2
      go_enter Tryz.func66, Tryz.ntmps66
      go_wp2
      go_ret
      exact ⟨by first | rfl | simp, rfl⟩
    · subst h1
      obtain ⟨q1, q2⟩ := ine h2
      have hd : (decide ((1 : Int) = 1 ∧ b = 1)) = false := by simp [h2]
      rw [hd]
      go_enter Tryz.func66, Tryz.ntmps66
      go_wp2
      go_ret
      exact ⟨by first | rfl | simp, rfl⟩
  · obtain ⟨p1, p2⟩ := ine h1
    by_cases h2 : b = 1
    · subst h2
      have hd : (decide (a = 1 ∧ (1 : Int) = 1)) = false := by simp [h1]
      rw [hd]
      go_enter Tryz.func66, Tryz.ntmps66
      go_wp2
      go_ret
      exact ⟨by first | rfl | simp, rfl⟩
    · obtain ⟨q1, q2⟩ := ine h2
      have hd : (decide (a = 1 ∧ b = 1)) = false := by simp [h1, h2]
      rw [hd]
      go_enter Tryz.func66, Tryz.ntmps66
      go_wp2
      go_ret
      exact ⟨by first | rfl | simp, rfl⟩

theorem tr14_app (a b : Int) (w : World) (p : Nat) (cap g : Nat) (h0 : w.cell? ⟨p, 0, none⟩ = some (.int .i64 a)) (h1 : w.cell? ⟨p, 1, none⟩ = some (.int .i64 b))
    (hg : w.heap[g]? = some (.cells #[.func (.func 66) #[] #[]] 78 (0, 0))) :
    Calls Tryz.prog 93 #[.slice (some ⟨p, 0, none⟩) 2 cap, .pointer (some ⟨g, 0, none⟩)] w fun x w' => x = .returned (.tuple #[.int .i64 (opW 14 a b).1, .int .i64 (opW 14 a b).2]) ∧ ∃ n, w' = w.drewN n := by
  have H := Lib.hid (fun n => tf14_same a b (w.drewN n))
  have e0 : opW 14 a b = (b2i (decide (a = 1 ∧ b = 1)), 0) := rfl
  rw [e0]
  clear e0
  obtain ⟨r, hr⟩ : ∃ r, decide (a = 1 ∧ b = 1) = r := ⟨_, rfl⟩
  rw [hr] at H ⊢
  have hc := cell_one hg
  clear hr hg
  cases r
  · go_enter Tryz.func93, Tryz.ntmps93
    go_wp2_with fail
    go_quiet ((go_at_call 66; exact Calls.quiet_of_same (H.out _)))
    go_wp2
    go_ret2
    exact ⟨rfl, _, rfl⟩
  · go_enter Tryz.func93, Tryz.ntmps93
    go_wp2_with fail
    go_quiet ((go_at_call 66; exact Calls.quiet_of_same (H.out _)))
    go_wp2
    go_ret2
    exact ⟨rfl, _, rfl⟩

theorem tf15_same (a b : Int) (w : World) : Calls Tryz.prog 67 #[.int .i64 a, .int .i64 b] w fun x w' => x = .returned (.bool (decide (a = 1 ∨ b = 1))) ∧ w' = w := by
  by_cases h1 : a = 1
  · by_cases h2 : b = 1
    · subst h1 h2
      go_enter Tryz.func67, Tryz.ntmps67
      go_wp2
      go_ret
      exact ⟨by first | rfl | simp, rfl⟩
    · subst h1
      obtain ⟨q1, q2⟩ := ine h2
      have hd : (decide ((1 : Int) = 1 ∨ b = 1)) = true := by simp [h2]
      rw [hd]
      go_enter Tryz.func67, Tryz.ntmps67
      go_wp2
      go_ret
      exact ⟨by first | rfl | simp, rfl⟩
  · obtain ⟨p1, p2⟩ := ine h1
    by_cases h2 : b = 1
    · subst h2
      have hd : (decide (a = 1 ∨ (1 : Int) = 1)) = true := by simp [h1]
      rw [hd]
      go_enter Tryz.func67, Tryz.ntmps67
      go_wp2
      go_ret
      exact ⟨by first | rfl | simp, rfl⟩
    · obtain ⟨q1, q2⟩ := ine h2
      have hd : (decide (a = 1 ∨ b = 1)) = false := by simp [h1, h2]
      rw [hd]
      go_enter Tryz.func67, Tryz.ntmps67
      go_wp2
      go_ret
      exact ⟨by first | rfl | simp, rfl⟩

theorem tr15_app (a b : Int) (w : World) (p : Nat) (cap g : Nat) (h0 : w.cell? ⟨p, 0, none⟩ = some (.int .i64 a)) (h1 : w.cell? ⟨p, 1, none⟩ = some (.int .i64 b))
    (hg : w.heap[g]? = some (.cells #[.func (.func 67) #[] #[]] 78 (0, 0))) :
    Calls Tryz.prog 93 #[.slice (some ⟨p, 0, none⟩) 2 cap, .pointer (some ⟨g, 0, none⟩)] w fun x w' => x = .returned (.tuple #[.int .i64 (opW 15 a b).1, .int .i64 (opW 15 a b).2]) ∧ ∃ n, w' = w.drewN n := by
  have H := Lib.hid (fun n => tf15_same a b (w.drewN n))
  have e0 : opW 15 a b = (b2i (decide (a = 1 ∨ b = 1)), 0) := rfl
  rw [e0]
  clear e0
  obtain ⟨r, hr⟩ : ∃ r, decide (a = 1 ∨ b = 1) = r := ⟨_, rfl⟩
  rw [hr] at H ⊢
  have hc := cell_one hg
  clear hr hg
  cases r
  · go_enter Tryz.func93, Tryz.ntmps93
    go_wp2_with fail
    go_quiet ((go_at_call 67; exact Calls.quiet_of_same (H.out _)))
    go_wp2
    go_ret2
    exact ⟨rfl, _, rfl⟩
  · go_enter Tryz.func93, Tryz.ntmps93
    go_wp2_with fail
    go_quiet ((go_at_call 67; exact Calls.quiet_of_same (H.out _)))
    go_wp2
    go_ret2
    exact ⟨rfl, _, rfl⟩

end Go.Proofs.YtdgphhdkeikbaaaGreatDoor

/-! ### ExTabA: The table of the program's operators: its entries. -/
namespace Go.Proofs.YtdgphhdkeikbaaaGreatDoor
set_option linter.unusedSimpArgs false
set_option linter.unusedVariables false
open Go.RowKit

abbrev TFA : TypeId := 74
abbrev TFD : TypeId := 76
abbrev TFB : TypeId := 78
theorem arith_any (s : ByteArray) (p : Int) (f : Fn) (fa fb : Array Value) (w : World) : Calls Tryz.prog 51 #[.string s, .int .i64 p, .func f fa fb] w fun x w' => x = .returned (.agg #[.string s, .int .i64 p, .int .i64 1, .int .i64 1, .func (.func 90) #[] #[.pointer (some ⟨w.heap.size, 0, none⟩)]]) ∧ w'.heap[w.heap.size]? = some (.cells #[.func f fa fb] TFA (0, 0)) ∧ Below w.heap.size w w' := by
  have H := Lib.hid (fun o p => twoBlocks w o p)
  go_enter Tryz.func51, Tryz.ntmps51
  go_wp2
  exact bodyPost_ret (results_cell_row (P := Tryz.prog) Tryz.results51 _ _ (w.heap.size + 1) TOp _ (0, 0) _ rfl (H.out _ _).2.1 Tryz.underlying70 rfl (by kernel_rfl)) rfl ⟨rfl, (H.out _ _).1, (H.out _ _).2.2⟩
theorem truth_any (s : ByteArray) (p t : Int) (f : Fn) (fa fb : Array Value) (w : World) : Calls Tryz.prog 59 #[.string s, .int .i64 p, .int .i64 t, .func f fa fb] w fun x w' => x = .returned (.agg #[.string s, .int .i64 p, .int .i64 t, .int .i64 2, .func (.func 93) #[] #[.pointer (some ⟨w.heap.size, 0, none⟩)]]) ∧ w'.heap[w.heap.size]? = some (.cells #[.func f fa fb] TFB (0, 0)) ∧ Below w.heap.size w w' := by
  have H := Lib.hid (fun o p => twoBlocks w o p)
  go_enter Tryz.func59, Tryz.ntmps59
  go_wp2
  exact bodyPost_ret (results_cell_row (P := Tryz.prog) Tryz.results59 _ _ (w.heap.size + 1) TOp _ (0, 0) _ rfl (H.out _ _).2.1 Tryz.underlying70 rfl (by kernel_rfl)) rfl ⟨rfl, (H.out _ _).1, (H.out _ _).2.2⟩
theorem divided_any (f : Fn) (fa fb : Array Value) (w : World) : Calls Tryz.prog 56 #[.func f fa fb] w fun x w' => x = .returned (.func (.func 92) #[] #[.pointer (some ⟨w.heap.size, 0, none⟩)]) ∧ w' = w.alloc (.cells #[.func f fa fb] TFD (0, 0)) := by
  go_enter Tryz.func56, Tryz.ntmps56
  go_wp2
  go_ret
  exact ⟨rfl, rfl⟩
theorem mk_map (w : World) : (Instr.makeMap TM none).run Tryz.prog w = .ok (.map (some w.heap.size)) (w.alloc (mapO [])) := by kernel_rfl

/-- What an operator is written as, and how tightly it binds. -/
def sgB (k : Int) : ByteArray := if k = 1 then ⟨#[45]⟩ else if k = 2 then ⟨#[33]⟩ else if k = 3 then ⟨#[43]⟩ else if k = 4 then ⟨#[45]⟩ else if k = 5 then ⟨#[42]⟩ else if k = 6 then ⟨#[47]⟩ else if k = 7 then ⟨#[37]⟩
  else if k = 8 then ⟨#[61, 61]⟩ else if k = 9 then ⟨#[33, 61]⟩ else if k = 10 then ⟨#[60]⟩ else if k = 11 then ⟨#[60, 61]⟩ else if k = 12 then ⟨#[62]⟩ else if k = 13 then ⟨#[62, 61]⟩ else if k = 14 then ⟨#[38, 38]⟩ else ⟨#[124, 124]⟩
def pcO (k : Int) : Int := if k ≤ 2 then 6 else if k ≤ 4 then 4 else if k ≤ 7 then 5 else if k ≤ 13 then 3 else if k = 14 then 2 else 1
/-- A variable that a closure has captured, in a block above b. -/
def Bxd (b : Nat) (W : World) (g : Nat) (v : Value) (t : TypeId) : Prop := b < g ∧ W.heap[g]? = some (.cells #[v] t (0, 0))
def arF (g : Nat) : Value := .func (.func 90) #[] #[.pointer (some ⟨g, 0, none⟩)]
def trF (g : Nat) : Value := .func (.func 93) #[] #[.pointer (some ⟨g, 0, none⟩)]
def dvF (h : Nat) : Value := .func (.func 92) #[] #[.pointer (some ⟨h, 0, none⟩)]
/-- The function of an operator. -/
inductive AppF (b : Nat) (W : World) : Int → Value → Prop
  | neg : AppF b W 1 (.func (.func 49) #[] #[])
  | not : AppF b W 2 (.func (.func 50) #[] #[])
  | plus (g) : Bxd b W g (.func (.func 52) #[] #[]) TFA → AppF b W 3 (arF g)
  | minus (g) : Bxd b W g (.func (.func 54) #[] #[]) TFA → AppF b W 4 (arF g)
  | times (g) : Bxd b W g (.func (.func 55) #[] #[]) TFA → AppF b W 5 (arF g)
  | quo (g h) : Bxd b W g (dvF h) TFA → Bxd b W h (.func (.func 57) #[] #[]) TFD → AppF b W 6 (arF g)
  | rem (g h) : Bxd b W g (dvF h) TFA → Bxd b W h (.func (.func 58) #[] #[]) TFD → AppF b W 7 (arF g)
  | eq (g) : Bxd b W g (.func (.func 60) #[] #[]) TFB → AppF b W 8 (trF g)
  | ne (g) : Bxd b W g (.func (.func 61) #[] #[]) TFB → AppF b W 9 (trF g)
  | lt (g) : Bxd b W g (.func (.func 62) #[] #[]) TFB → AppF b W 10 (trF g)
  | le (g) : Bxd b W g (.func (.func 63) #[] #[]) TFB → AppF b W 11 (trF g)
  | gt (g) : Bxd b W g (.func (.func 64) #[] #[]) TFB → AppF b W 12 (trF g)
  | ge (g) : Bxd b W g (.func (.func 65) #[] #[]) TFB → AppF b W 13 (trF g)
  | and (g) : Bxd b W g (.func (.func 66) #[] #[]) TFB → AppF b W 14 (trF g)
  | or (g) : Bxd b W g (.func (.func 67) #[] #[]) TFB → AppF b W 15 (trF g)
theorem Bxd.keep {b : Nat} {W W' : World} {g : Nat} {v : Value} {t : TypeId} (h : Bxd b W g v t) (hk : ∀ k, b < k → k < W.heap.size → W'.heap[k]? = W.heap[k]?) : Bxd b W' g v t := ⟨h.1, (hk g h.1 (Array.getElem?_eq_some_iff.1 h.2).1).trans h.2⟩
theorem AppF.keep {b : Nat} {W W' : World} {k : Int} {v : Value} (h : AppF b W k v) (hk : ∀ k, b < k → k < W.heap.size → W'.heap[k]? = W.heap[k]?) : AppF b W' k v := by
  cases h with
  | neg => exact .neg
  | not => exact .not
  | plus g h => exact .plus g (h.keep hk)
  | minus g h => exact .minus g (h.keep hk)
  | times g h => exact .times g (h.keep hk)
  | quo g h p q => exact .quo g h (p.keep hk) (q.keep hk)
  | rem g h p q => exact .rem g h (p.keep hk) (q.keep hk)
  | eq g h => exact .eq g (h.keep hk)
  | ne g h => exact .ne g (h.keep hk)
  | lt g h => exact .lt g (h.keep hk)
  | le g h => exact .le g (h.keep hk)
  | gt g h => exact .gt g (h.keep hk)
  | ge g h => exact .ge g (h.keep hk)
  | and g h => exact .and g (h.keep hk)
  | or g h => exact .or g (h.keep hk)
def opA (k : Int) (f : Value) : Value := .agg #[.string (sgB k), .int .i64 (pcO k), .int .i64 (tkO k), .int .i64 (gvO k), f]
/-- The table holds operators at b. -/
structure TabL (b : Nat) (W : World) (l : List (Int × Value)) : Prop where
  m : W.heap[b]? = some (mapO l)
  ok : ∀ p ∈ l, ∃ f, p.2 = opA p.1 f ∧ AppF b W p.1 f
theorem TabL.lt {b : Nat} {W : World} {l : List (Int × Value)} (h : TabL b W l) : b < W.heap.size := (Array.getElem?_eq_some_iff.1 h.m).1
theorem TabL.below {b : Nat} {W W' : World} {l : List (Int × Value)} (h : TabL b W l) (hb : Below W.heap.size W W') : TabL b W' l :=
  ⟨(hb.block _ h.lt).trans h.m, fun p hp => by obtain ⟨f, h1, h2⟩ := h.ok p hp; exact ⟨f, h1, h2.keep (fun k _ hk => hb.block k hk)⟩⟩
theorem TabL.ins {b : Nat} {W : World} {l : List (Int × Value)} {k : Int} {f : Value} (h : TabL b W l) (ha : AppF b W k f) : TabL b (setB W b (mapO (l ++ [(k, opA k f)]))) (l ++ [(k, opA k f)]) := by
  refine ⟨setB_same h.m, fun p hp => ?_⟩
  have hk : ∀ q, b < q → q < W.heap.size → (setB W b (mapO (l ++ [(k, opA k f)]))).heap[q]? = W.heap[q]? := fun q h1 _ => setB_other (by omega)
  rcases List.mem_append.1 hp with hp | hp
  · obtain ⟨f, h1, h2⟩ := h.ok p hp
    exact ⟨f, h1, h2.keep hk⟩
  · have : p = (k, opA k f) := by simpa using hp
    subst this
    exact ⟨f, rfl, ha.keep hk⟩
theorem below_setB {n b : Nat} {w W : World} {o : Obj} (h : Below n w W) (hb : n ≤ b) : Below n w (setB W b o) :=
  ⟨h.os, h.tape, h.output, by have := h.size; simpa [setB] using this, fun k hk => (setB_other (by omega)).trans (h.block k hk)⟩
theorem lkM_none {l : List (Int × Value)} {k : Int} (h : (l.map (·.1)).contains k = false) : lkM l k = none := by
  unfold lkM
  have : l.find? (fun p => p.1 == k) = none := by
    rw [List.find?_eq_none]
    intro p hp he
    have h2 : (l.map (·.1)).contains k = true := by
      rw [List.contains_iff_mem]
      exact List.mem_map.2 ⟨p, hp, by simpa using he⟩
    rw [h] at h2
    cases h2
  rw [this]
  rfl
theorem TabL.run {b : Nat} {W : World} {l : List (Int × Value)} {ks : List Int} {k : Int} {f : Value} (h : TabL b W l) (hk : l.map (·.1) = ks) (hn : ks.contains k = false) :
    (Instr.mapUpdate TM (.map (some b)) (.int .i64 k) (opA k f)).run Tryz.prog W = .ok () (setB W b (mapO (l ++ [(k, opA k f)]))) := run_insertM k _ h.m (lkM_none (by rw [hk]; exact hn))

end Go.Proofs.YtdgphhdkeikbaaaGreatDoor

/-! ### ExTab: The program's operators: the table. -/
namespace Go.Proofs.YtdgphhdkeikbaaaGreatDoor
set_option linter.unusedSimpArgs false
set_option linter.unusedVariables false
open Go.RowKit

theorem TabL.step {b n : Nat} {w W : World} {l : List (Int × Value)} {ks : List Int} {k : Int} {f : Value} (T : TabL b W l) (hb : Below n w W) (hn : n ≤ b) (hk : l.map (·.1) = ks) (hc : ks.contains k = false) (ha : AppF b W k f) :
    ∃ W' l', (Instr.mapUpdate TM (.map (some b)) (.int .i64 k) (opA k f)).run Tryz.prog W = .ok () W' ∧ TabL b W' l' ∧ Below n w W' ∧ l'.map (·.1) = ks ++ [k] :=
  ⟨_, _, T.run hk hc, T.ins ha, below_setB hb hn, by rw [List.map_append, hk]; rfl⟩
set_option maxRecDepth 100000 in
set_option maxHeartbeats 8000000 in
theorem operators_any (w : World) : Calls Tryz.prog 28 #[] w fun x w' => x = .returned (.map (some w.heap.size)) ∧ (∃ l, TabL w.heap.size w' l ∧ l.map (·.1) = [1, 2, 3, 4, 5, 6, 7, 8, 9, 10, 11, 12, 13, 14, 15]) ∧ Below w.heap.size w w' := by
  obtain ⟨W0, hW⟩ : ∃ W, w.alloc (mapO []) = W := ⟨_, rfl⟩
  have hm := mk_map w
  rw [hW] at hm
  have T0 : Hid (TabL w.heap.size W0 []) := Lib.hid (by rw [← hW]; exact ⟨World.alloc_heap_new w _, fun p hp => by cases hp⟩)
  have B0 : Hid (Below w.heap.size w W0) := Lib.hid (by rw [← hW]; exact (Below.refl _ w).alloc (Nat.le_refl _) _)
  clear hW
  go_enter Tryz.func28, Tryz.ntmps28
  go_wp2_with fail
  clear hm
  obtain ⟨W1, l1, r1, t1, b1, k1⟩ := T0.out.step B0.out (Nat.le_refl _) rfl (by rfl) (.neg)
  have r1 : (Instr.mapUpdate TM (.map (some w.heap.size)) (.int .i64 1) (.agg #[.string ⟨#[45]⟩, .int .i64 6, .int .i64 1, .int .i64 1, .func (.func 49) #[] #[]])).run Tryz.prog W0 = .ok () W1 := r1
  have T1 := Lib.hid t1
  have B1 := Lib.hid b1
  have K1 := Lib.hid k1
  clear t1 b1 k1
  clear T0 B0
  try rw [r1]
  go_wp2_with fail
  try clear r1
  obtain ⟨W2, l2, r2, t2, b2, k2⟩ := T1.out.step B1.out (Nat.le_refl _) K1.out (by rfl) (.not)
  have r2 : (Instr.mapUpdate TM (.map (some w.heap.size)) (.int .i64 2) (.agg #[.string ⟨#[33]⟩, .int .i64 6, .int .i64 2, .int .i64 2, .func (.func 50) #[] #[]])).run Tryz.prog W1 = .ok () W2 := r2
  have T2 := Lib.hid t2
  have B2 := Lib.hid b2
  have K2 := Lib.hid k2
  clear t2 b2 k2
  clear T1 B1
  try rw [r2]
  go_wp2_with fail
  try clear r2
  refine (arith_any _ _ _ _ _ W2).mono ?_
  rintro _ V3 ⟨rfl, cV3, bV3⟩
  have Y3 := Lib.hid (show Bxd w.heap.size V3 W2.heap.size _ TFA from ⟨T2.out.lt, cV3⟩)
  have TV3 := Lib.hid (T2.out.below bV3)
  have BV3 := Lib.hid (B2.out.trans (bV3.mono B2.out.size))
  clear bV3 cV3 T2 B2
  go_wp2_with fail
  obtain ⟨W3, l3, r3, t3, b3, k3⟩ := TV3.out.step BV3.out (Nat.le_refl _) K2.out (by rfl) (.plus W2.heap.size Y3.out)
  have r3 : (Instr.mapUpdate TM (.map (some w.heap.size)) (.int .i64 3) (.agg #[.string ⟨#[43]⟩, .int .i64 4, .int .i64 1, .int .i64 1, .func (.func 90) #[] #[.pointer (some ⟨W2.heap.size, 0, none⟩)]])).run Tryz.prog V3 = .ok () W3 := r3
  have T3 := Lib.hid t3
  have B3 := Lib.hid b3
  have K3 := Lib.hid k3
  clear t3 b3 k3
  clear TV3 BV3
  try rw [r3]
  go_wp2_with fail
  try clear r3
  refine (arith_any _ _ _ _ _ W3).mono ?_
  rintro _ V4 ⟨rfl, cV4, bV4⟩
  have Y4 := Lib.hid (show Bxd w.heap.size V4 W3.heap.size _ TFA from ⟨T3.out.lt, cV4⟩)
  have TV4 := Lib.hid (T3.out.below bV4)
  have BV4 := Lib.hid (B3.out.trans (bV4.mono B3.out.size))
  clear bV4 cV4 T3 B3
  go_wp2_with fail
  obtain ⟨W4, l4, r4, t4, b4, k4⟩ := TV4.out.step BV4.out (Nat.le_refl _) K3.out (by rfl) (.minus W3.heap.size Y4.out)
  have r4 : (Instr.mapUpdate TM (.map (some w.heap.size)) (.int .i64 4) (.agg #[.string ⟨#[45]⟩, .int .i64 4, .int .i64 1, .int .i64 1, .func (.func 90) #[] #[.pointer (some ⟨W3.heap.size, 0, none⟩)]])).run Tryz.prog V4 = .ok () W4 := r4
  have T4 := Lib.hid t4
  have B4 := Lib.hid b4
  have K4 := Lib.hid k4
  clear t4 b4 k4
  clear TV4 BV4
  try rw [r4]
  go_wp2_with fail
  try clear r4
  refine (arith_any _ _ _ _ _ W4).mono ?_
  rintro _ V5 ⟨rfl, cV5, bV5⟩
  have Y5 := Lib.hid (show Bxd w.heap.size V5 W4.heap.size _ TFA from ⟨T4.out.lt, cV5⟩)
  have TV5 := Lib.hid (T4.out.below bV5)
  have BV5 := Lib.hid (B4.out.trans (bV5.mono B4.out.size))
  clear bV5 cV5 T4 B4
  go_wp2_with fail
  obtain ⟨W5, l5, r5, t5, b5, k5⟩ := TV5.out.step BV5.out (Nat.le_refl _) K4.out (by rfl) (.times W4.heap.size Y5.out)
  have r5 : (Instr.mapUpdate TM (.map (some w.heap.size)) (.int .i64 5) (.agg #[.string ⟨#[42]⟩, .int .i64 5, .int .i64 1, .int .i64 1, .func (.func 90) #[] #[.pointer (some ⟨W4.heap.size, 0, none⟩)]])).run Tryz.prog V5 = .ok () W5 := r5
  have T5 := Lib.hid t5
  have B5 := Lib.hid b5
  have K5 := Lib.hid k5
  clear t5 b5 k5
  clear TV5 BV5
  try rw [r5]
  go_wp2_with fail
  try clear r5
  refine (divided_any _ _ _ W5).mono ?_
  rintro _ U6 ⟨rfl, eU6⟩
  have cU6 : U6.heap[W5.heap.size]? = some (.cells #[.func (.func 57) #[] #[]] TFD (0, 0)) := by rw [eU6]; exact World.alloc_heap_new W5 _
  have bU6 : Below W5.heap.size W5 U6 := by rw [eU6]; exact (Below.refl _ _).alloc (Nat.le_refl _) _
  have X6 := Lib.hid (show Bxd w.heap.size U6 W5.heap.size _ TFD from ⟨T5.out.lt, cU6⟩)
  have TU6 := Lib.hid (T5.out.below bU6)
  have BU6 := Lib.hid (B5.out.trans (bU6.mono B5.out.size))
  clear bU6 cU6 eU6 T5 B5
  go_wp2_with fail
  refine (arith_any _ _ _ _ _ U6).mono ?_
  rintro _ V6 ⟨rfl, cV6, bV6⟩
  have Y6 := Lib.hid (show Bxd w.heap.size V6 U6.heap.size _ TFA from ⟨TU6.out.lt, cV6⟩)
  have X6 := Lib.hid (X6.out.keep (fun k _ hk => bV6.block k hk))
  have TV6 := Lib.hid (TU6.out.below bV6)
  have BV6 := Lib.hid (BU6.out.trans (bV6.mono BU6.out.size))
  clear bV6 cV6 TU6 BU6
  go_wp2_with fail
  obtain ⟨W6, l6, r6, t6, b6, k6⟩ := TV6.out.step BV6.out (Nat.le_refl _) K5.out (by rfl) (.quo U6.heap.size W5.heap.size Y6.out X6.out)
  have r6 : (Instr.mapUpdate TM (.map (some w.heap.size)) (.int .i64 6) (.agg #[.string ⟨#[47]⟩, .int .i64 5, .int .i64 1, .int .i64 1, .func (.func 90) #[] #[.pointer (some ⟨U6.heap.size, 0, none⟩)]])).run Tryz.prog V6 = .ok () W6 := r6
  have T6 := Lib.hid t6
  have B6 := Lib.hid b6
  have K6 := Lib.hid k6
  clear t6 b6 k6
  clear TV6 BV6
  try rw [r6]
  go_wp2_with fail
  try clear r6
  refine (divided_any _ _ _ W6).mono ?_
  rintro _ U7 ⟨rfl, eU7⟩
  have cU7 : U7.heap[W6.heap.size]? = some (.cells #[.func (.func 58) #[] #[]] TFD (0, 0)) := by rw [eU7]; exact World.alloc_heap_new W6 _
  have bU7 : Below W6.heap.size W6 U7 := by rw [eU7]; exact (Below.refl _ _).alloc (Nat.le_refl _) _
  have X7 := Lib.hid (show Bxd w.heap.size U7 W6.heap.size _ TFD from ⟨T6.out.lt, cU7⟩)
  have TU7 := Lib.hid (T6.out.below bU7)
  have BU7 := Lib.hid (B6.out.trans (bU7.mono B6.out.size))
  clear bU7 cU7 eU7 T6 B6
  go_wp2_with fail
  refine (arith_any _ _ _ _ _ U7).mono ?_
  rintro _ V7 ⟨rfl, cV7, bV7⟩
  have Y7 := Lib.hid (show Bxd w.heap.size V7 U7.heap.size _ TFA from ⟨TU7.out.lt, cV7⟩)
  have X7 := Lib.hid (X7.out.keep (fun k _ hk => bV7.block k hk))
  have TV7 := Lib.hid (TU7.out.below bV7)
  have BV7 := Lib.hid (BU7.out.trans (bV7.mono BU7.out.size))
  clear bV7 cV7 TU7 BU7
  go_wp2_with fail
  obtain ⟨W7, l7, r7, t7, b7, k7⟩ := TV7.out.step BV7.out (Nat.le_refl _) K6.out (by rfl) (.rem U7.heap.size W6.heap.size Y7.out X7.out)
  have r7 : (Instr.mapUpdate TM (.map (some w.heap.size)) (.int .i64 7) (.agg #[.string ⟨#[37]⟩, .int .i64 5, .int .i64 1, .int .i64 1, .func (.func 90) #[] #[.pointer (some ⟨U7.heap.size, 0, none⟩)]])).run Tryz.prog V7 = .ok () W7 := r7
  have T7 := Lib.hid t7
  have B7 := Lib.hid b7
  have K7 := Lib.hid k7
  clear t7 b7 k7
  clear TV7 BV7
  try rw [r7]
  go_wp2_with fail
  try clear r7
  refine (truth_any _ _ _ _ _ _ W7).mono ?_
  rintro _ V8 ⟨rfl, cV8, bV8⟩
  have Y8 := Lib.hid (show Bxd w.heap.size V8 W7.heap.size _ TFB from ⟨T7.out.lt, cV8⟩)
  have TV8 := Lib.hid (T7.out.below bV8)
  have BV8 := Lib.hid (B7.out.trans (bV8.mono B7.out.size))
  clear bV8 cV8 T7 B7
  go_wp2_with fail
  obtain ⟨W8, l8, r8, t8, b8, k8⟩ := TV8.out.step BV8.out (Nat.le_refl _) K7.out (by rfl) (.eq W7.heap.size Y8.out)
  have r8 : (Instr.mapUpdate TM (.map (some w.heap.size)) (.int .i64 8) (.agg #[.string ⟨#[61, 61]⟩, .int .i64 3, .int .i64 0, .int .i64 2, .func (.func 93) #[] #[.pointer (some ⟨W7.heap.size, 0, none⟩)]])).run Tryz.prog V8 = .ok () W8 := r8
  have T8 := Lib.hid t8
  have B8 := Lib.hid b8
  have K8 := Lib.hid k8
  clear t8 b8 k8
  clear TV8 BV8
  try rw [r8]
  go_wp2_with fail
  try clear r8
  refine (truth_any _ _ _ _ _ _ W8).mono ?_
  rintro _ V9 ⟨rfl, cV9, bV9⟩
  have Y9 := Lib.hid (show Bxd w.heap.size V9 W8.heap.size _ TFB from ⟨T8.out.lt, cV9⟩)
  have TV9 := Lib.hid (T8.out.below bV9)
  have BV9 := Lib.hid (B8.out.trans (bV9.mono B8.out.size))
  clear bV9 cV9 T8 B8
  go_wp2_with fail
  obtain ⟨W9, l9, r9, t9, b9, k9⟩ := TV9.out.step BV9.out (Nat.le_refl _) K8.out (by rfl) (.ne W8.heap.size Y9.out)
  have r9 : (Instr.mapUpdate TM (.map (some w.heap.size)) (.int .i64 9) (.agg #[.string ⟨#[33, 61]⟩, .int .i64 3, .int .i64 0, .int .i64 2, .func (.func 93) #[] #[.pointer (some ⟨W8.heap.size, 0, none⟩)]])).run Tryz.prog V9 = .ok () W9 := r9
  have T9 := Lib.hid t9
  have B9 := Lib.hid b9
  have K9 := Lib.hid k9
  clear t9 b9 k9
  clear TV9 BV9
  try rw [r9]
  go_wp2_with fail
  try clear r9
  refine (truth_any _ _ _ _ _ _ W9).mono ?_
  rintro _ V10 ⟨rfl, cV10, bV10⟩
  have Y10 := Lib.hid (show Bxd w.heap.size V10 W9.heap.size _ TFB from ⟨T9.out.lt, cV10⟩)
  have TV10 := Lib.hid (T9.out.below bV10)
  have BV10 := Lib.hid (B9.out.trans (bV10.mono B9.out.size))
  clear bV10 cV10 T9 B9
  go_wp2_with fail
  obtain ⟨W10, l10, r10, t10, b10, k10⟩ := TV10.out.step BV10.out (Nat.le_refl _) K9.out (by rfl) (.lt W9.heap.size Y10.out)
  have r10 : (Instr.mapUpdate TM (.map (some w.heap.size)) (.int .i64 10) (.agg #[.string ⟨#[60]⟩, .int .i64 3, .int .i64 1, .int .i64 2, .func (.func 93) #[] #[.pointer (some ⟨W9.heap.size, 0, none⟩)]])).run Tryz.prog V10 = .ok () W10 := r10
  have T10 := Lib.hid t10
  have B10 := Lib.hid b10
  have K10 := Lib.hid k10
  clear t10 b10 k10
  clear TV10 BV10
  try rw [r10]
  go_wp2_with fail
  try clear r10
  refine (truth_any _ _ _ _ _ _ W10).mono ?_
  rintro _ V11 ⟨rfl, cV11, bV11⟩
  have Y11 := Lib.hid (show Bxd w.heap.size V11 W10.heap.size _ TFB from ⟨T10.out.lt, cV11⟩)
  have TV11 := Lib.hid (T10.out.below bV11)
  have BV11 := Lib.hid (B10.out.trans (bV11.mono B10.out.size))
  clear bV11 cV11 T10 B10
  go_wp2_with fail
  obtain ⟨W11, l11, r11, t11, b11, k11⟩ := TV11.out.step BV11.out (Nat.le_refl _) K10.out (by rfl) (.le W10.heap.size Y11.out)
  have r11 : (Instr.mapUpdate TM (.map (some w.heap.size)) (.int .i64 11) (.agg #[.string ⟨#[60, 61]⟩, .int .i64 3, .int .i64 1, .int .i64 2, .func (.func 93) #[] #[.pointer (some ⟨W10.heap.size, 0, none⟩)]])).run Tryz.prog V11 = .ok () W11 := r11
  have T11 := Lib.hid t11
  have B11 := Lib.hid b11
  have K11 := Lib.hid k11
  clear t11 b11 k11
  clear TV11 BV11
  try rw [r11]
  go_wp2_with fail
  try clear r11
  refine (truth_any _ _ _ _ _ _ W11).mono ?_
  rintro _ V12 ⟨rfl, cV12, bV12⟩
  have Y12 := Lib.hid (show Bxd w.heap.size V12 W11.heap.size _ TFB from ⟨T11.out.lt, cV12⟩)
  have TV12 := Lib.hid (T11.out.below bV12)
  have BV12 := Lib.hid (B11.out.trans (bV12.mono B11.out.size))
  clear bV12 cV12 T11 B11
  go_wp2_with fail
  obtain ⟨W12, l12, r12, t12, b12, k12⟩ := TV12.out.step BV12.out (Nat.le_refl _) K11.out (by rfl) (.gt W11.heap.size Y12.out)
  have r12 : (Instr.mapUpdate TM (.map (some w.heap.size)) (.int .i64 12) (.agg #[.string ⟨#[62]⟩, .int .i64 3, .int .i64 1, .int .i64 2, .func (.func 93) #[] #[.pointer (some ⟨W11.heap.size, 0, none⟩)]])).run Tryz.prog V12 = .ok () W12 := r12
  have T12 := Lib.hid t12
  have B12 := Lib.hid b12
  have K12 := Lib.hid k12
  clear t12 b12 k12
  clear TV12 BV12
  try rw [r12]
  go_wp2_with fail
  try clear r12
  refine (truth_any _ _ _ _ _ _ W12).mono ?_
  rintro _ V13 ⟨rfl, cV13, bV13⟩
  have Y13 := Lib.hid (show Bxd w.heap.size V13 W12.heap.size _ TFB from ⟨T12.out.lt, cV13⟩)
  have TV13 := Lib.hid (T12.out.below bV13)
  have BV13 := Lib.hid (B12.out.trans (bV13.mono B12.out.size))
  clear bV13 cV13 T12 B12
  go_wp2_with fail
  obtain ⟨W13, l13, r13, t13, b13, k13⟩ := TV13.out.step BV13.out (Nat.le_refl _) K12.out (by rfl) (.ge W12.heap.size Y13.out)
  have r13 : (Instr.mapUpdate TM (.map (some w.heap.size)) (.int .i64 13) (.agg #[.string ⟨#[62, 61]⟩, .int .i64 3, .int .i64 1, .int .i64 2, .func (.func 93) #[] #[.pointer (some ⟨W12.heap.size, 0, none⟩)]])).run Tryz.prog V13 = .ok () W13 := r13
  have T13 := Lib.hid t13
  have B13 := Lib.hid b13
  have K13 := Lib.hid k13
  clear t13 b13 k13
  clear TV13 BV13
  try rw [r13]
  go_wp2_with fail
  try clear r13
  refine (truth_any _ _ _ _ _ _ W13).mono ?_
  rintro _ V14 ⟨rfl, cV14, bV14⟩
  have Y14 := Lib.hid (show Bxd w.heap.size V14 W13.heap.size _ TFB from ⟨T13.out.lt, cV14⟩)
  have TV14 := Lib.hid (T13.out.below bV14)
  have BV14 := Lib.hid (B13.out.trans (bV14.mono B13.out.size))
  clear bV14 cV14 T13 B13
  go_wp2_with fail
  obtain ⟨W14, l14, r14, t14, b14, k14⟩ := TV14.out.step BV14.out (Nat.le_refl _) K13.out (by rfl) (.and W13.heap.size Y14.out)
  have r14 : (Instr.mapUpdate TM (.map (some w.heap.size)) (.int .i64 14) (.agg #[.string ⟨#[38, 38]⟩, .int .i64 2, .int .i64 2, .int .i64 2, .func (.func 93) #[] #[.pointer (some ⟨W13.heap.size, 0, none⟩)]])).run Tryz.prog V14 = .ok () W14 := r14
  have T14 := Lib.hid t14
  have B14 := Lib.hid b14
  have K14 := Lib.hid k14
  clear t14 b14 k14
  clear TV14 BV14
  try rw [r14]
  go_wp2_with fail
  try clear r14
  refine (truth_any _ _ _ _ _ _ W14).mono ?_
  rintro _ V15 ⟨rfl, cV15, bV15⟩
  have Y15 := Lib.hid (show Bxd w.heap.size V15 W14.heap.size _ TFB from ⟨T14.out.lt, cV15⟩)
  have TV15 := Lib.hid (T14.out.below bV15)
  have BV15 := Lib.hid (B14.out.trans (bV15.mono B14.out.size))
  clear bV15 cV15 T14 B14
  go_wp2_with fail
  obtain ⟨W15, l15, r15, t15, b15, k15⟩ := TV15.out.step BV15.out (Nat.le_refl _) K14.out (by rfl) (.or W14.heap.size Y15.out)
  have r15 : (Instr.mapUpdate TM (.map (some w.heap.size)) (.int .i64 15) (.agg #[.string ⟨#[124, 124]⟩, .int .i64 1, .int .i64 2, .int .i64 2, .func (.func 93) #[] #[.pointer (some ⟨W14.heap.size, 0, none⟩)]])).run Tryz.prog V15 = .ok () W15 := r15
  have T15 := Lib.hid t15
  have B15 := Lib.hid b15
  have K15 := Lib.hid k15
  clear t15 b15 k15
  clear TV15 BV15
  try rw [r15]
  go_wp2
  go_ret
  exact ⟨rfl, ⟨_, T15.out, K15.out⟩, B15.out⟩

end Go.Proofs.YtdgphhdkeikbaaaGreatDoor
