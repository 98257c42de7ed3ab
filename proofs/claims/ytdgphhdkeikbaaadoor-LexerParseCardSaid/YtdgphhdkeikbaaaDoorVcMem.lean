/-
  Clocks: which are valid, which are before which; rows of integers of the call's own; what is known of a result.
-/
import Derived.Test.YtdgphhdkeikbaaaDoorIntsA
import Derived.WalkKit
import Derived.WalkSpells
import Derived.WalkLawsBesides
import Derived.BigCall
import Derived.Lib.Hide
import Derived.Lib.Builder
import Derived.Lib.SliceRun
import Derived.Deep.QuietTactic
import Derived.BigQuiet
import Derived.IntWalk
import Derived.Deep.LoopGhost
import Derived.StillTailTactics
namespace Go.Proofs.YtdgphhdkeikbaaaDoor
open Go.RowKit

/-- The built-in append by a run equation. -/
theorem append_by_run {P : Program} (w : World) {ops : Array Oper} {rest : List Oper} {o : Oper} {a : Act} {Q : Exit → Act → World → Prop} (hgd : o.guard = none) (s x : Operand) (t : TypeId)
    (ho : o.op = .call { callee := .builtin .append, args := #[s, x], argTypes := #[t, t] }) (vs vx : Value) (hs : a.eval s = vs) (hx : a.eval x = vx) (v' : Value) (w' : World)
    (hrun : (Builtin.append_ #[t, t] o.type #[vs, vx]).run P w = .ok v' w') (h : wpList P ops Q rest (a.put o.dst v') w') : wpList P ops Q (o :: rest) a w := by
  refine wpList_plain hgd fun K hK => ?_
  unfold Oper.wp
  simp [execOp, ho, resolve, invoke, builtin, hs, hx, hrun, Result.andThen]
  exact hK _ _ h

abbrev TZ : TypeId := 3
theorem infoZ : (Tryd.prog.info? TZ).map (fun i => (i.zero, i.size, i.bytes)) = some (some (.int .i64 0), 1, 8) := by kernel_rfl
def gz (zs : List Int) (i : Nat) : Int := zs[i]?.getD 0
def allP (p : Nat → Bool) (k : Nat) : Bool := (List.range k).all p
theorem allP_succ (p : Nat → Bool) (k : Nat) : allP p (k + 1) = (allP p k && p k) := by simp [allP, List.range_succ]
theorem allP_iff {p : Nat → Bool} {k : Nat} : allP p k = true ↔ ∀ i, i < k → p i = true := by simp [allP]
theorem allP_no {p : Nat → Bool} {i k : Nat} (h : i < k) (hp : p i = false) : allP p k = false := by
  cases e : allP p k with
  | false => rfl
  | true => rw [allP_iff.1 e i h] at hp; cases hp
theorem allP_congr {p q : Nat → Bool} {k : Nat} (h : ∀ i, i < k → p i = q i) : allP p k = allP q k := by
  rw [Bool.eq_iff_iff, allP_iff, allP_iff]
  exact ⟨fun h1 i hi => by rw [← h i hi]; exact h1 i hi, fun h1 i hi => by rw [h i hi]; exact h1 i hi⟩
def okZ (n : Int) : Bool := decide (0 ≤ n) && decide (n ≤ 1099511627776)
theorem okZ_iff {n : Int} : okZ n = true ↔ 0 ≤ n ∧ n ≤ 1099511627776 := by simp [okZ]
def vcAll (zs : List Int) : Bool := allP (fun i => okZ (gz zs i)) zs.length
/-- What Check returns. -/
def vcE (zs : List Int) : Int := if 32 < zs.length then 4 else if vcAll zs = true then 0 else 2
theorem vcE_iff {zs : List Int} : vcE zs = 0 ↔ zs.length ≤ 32 ∧ ∀ i, i < zs.length → 0 ≤ gz zs i ∧ gz zs i ≤ 1099511627776 := by
  unfold vcE
  by_cases h : 32 < zs.length
  · rw [if_pos h]
    exact ⟨fun e => (by cases e), fun e => (by omega)⟩
  · rw [if_neg h]
    by_cases h2 : vcAll zs = true
    · rw [if_pos h2]
      exact ⟨fun _ => ⟨by omega, fun i hi => okZ_iff.1 (allP_iff.1 h2 i hi)⟩, fun _ => rfl⟩
    · rw [if_neg h2]
      refine ⟨fun e => (by cases e), fun e => absurd (allP_iff.2 (fun i hi => ?_)) h2⟩
      exact okZ_iff.2 (e.2 i hi)
def inB (n : Nat) (i : Int) : Bool := decide (0 ≤ i) && decide (i < (n : Int))
theorem inB_iff {n : Nat} {i : Int} : inB n i = true ↔ 0 ≤ i ∧ i < (n : Int) := by simp [inB]
def covB (zs : List Int) (i n : Int) : Bool := inB zs.length i && decide (n ≤ gz zs i.toNat)
def leB (cs ds : List Int) : Bool := allP (fun i => decide (gz cs i ≤ gz ds i)) cs.length
theorem leB_iff {cs ds : List Int} : leB cs ds = true ↔ ∀ i, i < cs.length → gz cs i ≤ gz ds i := by simp [leB, allP_iff]
def pairE (xs ys : List Int) : Int := if vcE xs ≠ 0 ∨ vcE ys ≠ 0 then 1 else if xs.length ≠ ys.length then 10 else 0
theorem pairE_ok {xs ys : List Int} (h : pairE xs ys = 0) : vcE xs = 0 ∧ vcE ys = 0 ∧ xs.length = ys.length := by
  unfold pairE at h
  by_cases h1 : vcE xs ≠ 0 ∨ vcE ys ≠ 0
  · rw [if_pos h1] at h; cases h
  · rw [if_neg h1] at h
    by_cases h2 : xs.length ≠ ys.length
    · rw [if_pos h2] at h; cases h
    · exact ⟨by simpa using fun e => h1 (.inl e), by simpa using fun e => h1 (.inr e), by simpa using h2⟩
theorem pairE_of {xs ys : List Int} (h1 : vcE xs = 0) (h2 : vcE ys = 0) (h3 : xs.length = ys.length) : pairE xs ys = 0 := by
  unfold pairE
  rw [if_neg (by simp [h1, h2]), if_neg (by simp [h3])]
def cmpK (xs ys : List Int) : Int := if pairE xs ys ≠ 0 then 3 else if leB xs ys = true ∧ leB ys xs = true then 0 else if leB xs ys = true then 1 else if leB ys xs = true then 2 else 3
def fnL (n : Nat) (f : Nat → Int) : List Int := (List.range n).map f
theorem fnL_length (n : Nat) (f : Nat → Int) : (fnL n f).length = n := by simp [fnL]
theorem gz_fnL {n : Nat} {f : Nat → Int} {i : Nat} (h : i < n) : gz (fnL n f) i = f i := by simp [gz, fnL, h]
theorem gz_ext {xs ys : List Int} (h : xs.length = ys.length) (hh : ∀ i, i < xs.length → gz xs i = gz ys i) : xs = ys := list_ext_take xs ys h hh
theorem fnL_gz (zs : List Int) : fnL zs.length (gz zs) = zs := gz_ext (fnL_length _ _) (fun i hi => by rw [fnL_length] at hi; exact gz_fnL hi)
def joinL (xs ys : List Int) : List Int := if pairE xs ys = 0 then fnL xs.length (fun i => max (gz xs i) (gz ys i)) else []
def meetL (xs ys : List Int) : List Int := if pairE xs ys = 0 then fnL xs.length (fun i => min (gz xs i) (gz ys i)) else []
def newE (n : Int) : Int := if n < 0 ∨ 32 < n then 2 else 0
def newL (n : Int) : List Int := if n < 0 ∨ 32 < n then [] else fnL n.toNat (fun _ => 0)
def tickE (zs : List Int) (i : Int) : Int := if vcE zs ≠ 0 then 1 else if inB zs.length i = false then 2 else if gz zs i.toNat = 1099511627776 then 14 else 0
def tickL (zs : List Int) (i : Int) : List Int := if tickE zs i = 0 then zs.set i.toNat (gz zs i.toNat + 1) else []

/-! ### Memory -/

def intV (zs : List Int) : List Value := zs.map (Value.int .i64)
theorem intV_length (zs : List Int) : (intV zs).length = zs.length := by simp [intV]
theorem intV_get (zs : List Int) {j : Nat} (h : j < zs.length) : (intV zs)[j]? = some (.int .i64 (gz zs j)) := by simp [intV, gz, h]
theorem intV_set (zs : List Int) (j : Nat) (z : Int) : (intV zs).set j (.int .i64 z) = intV (zs.set j z) := by simp [intV, List.map_set]
theorem intV_one (zs : List Int) : ∀ u ∈ intV zs, u.oneCell' = true := by
  intro u hu
  obtain ⟨x, _, rfl⟩ := List.mem_map.1 hu
  rfl
theorem made_zeros (n : Nat) : (madeCells #[Value.int .i64 0] n).toList = intV (fnL n (fun _ => 0)) := by
  apply List.ext_getElem?
  intro j
  by_cases hj : j < n
  · rw [intV_get _ (by rw [fnL_length]; exact hj), gz_fnL hj]
    simp [madeCells, hj, Nat.mod_one]
  · rw [List.getElem?_eq_none (by simp [madeCells]; omega), List.getElem?_eq_none (by rw [intV_length, fnL_length]; omega)]
theorem fnL_set {n : Nat} {f g : Nat → Int} {j : Nat} {z : Int} (hz : g j = z) (hg : ∀ i, i ≠ j → g i = f i) : (fnL n f).set j z = fnL n g := by
  apply gz_ext
  · simp [fnL]
  · intro i hi
    have hi' : i < n := by simpa [fnL] using hi
    by_cases e : i = j
    · subst e
      rw [gz_fnL hi', hz]
      simp [gz, fnL, hi']
    · rw [gz_fnL hi', hg i e, ← gz_fnL (f := f) hi']
      simp [gz, List.getElem?_set_ne (Ne.symm e)]
theorem gz_set {zs : List Int} {j : Nat} {z : Int} (hj : j < zs.length) (i : Nat) : gz (zs.set j z) i = if i = j then z else gz zs i := by
  unfold gz
  by_cases e : i = j
  · subst e
    rw [if_pos rfl, List.getElem?_set_self hj]
    rfl
  · rw [if_neg e, List.getElem?_set_ne (Ne.symm e)]

/-- A row of integers of the call's own. -/
def OwnZ (B : Nat) (zs : List Int) (v : Value) (w : World) : Prop := w.ownsRow B TZ 1 v zs.length (intV zs)
theorem OwnZ.nil (B : Nat) (w : World) : OwnZ B [] (.slice none 0 0) w := World.ownsRow_nil _ _ _ _
theorem ownZ_some {w : World} {B : Nat} {e : TypeId} {s : Nat} {v : Value} {n : Nat} {xs : List Value} (h : w.ownsRow B e s v n xs) (hv : 0 < n) : ∃ g cap, v = .slice (some ⟨g, 0, none⟩) n cap ∧ B ≤ g := by
  rcases h.2 with ⟨_, e⟩ | ⟨g, cap, cur, e, hb, _⟩
  · omega
  · exact ⟨g, cap, e, hb⟩
theorem ownZ_slice {w : World} {B s : Nat} {T : TypeId} {v : Value} {n : Nat} {xs : List Value} (h : w.ownsRow B T s v n xs) : ∃ a c, v = .slice a n c ∧ n ≤ c ∧ c ≤ 9223372036854775807 := by
  rcases h.2 with ⟨rfl, e⟩ | ⟨g, cap, cur, rfl, _, _, h1, h2, _⟩
  · exact ⟨none, 0, by rw [e], by omega, by omega⟩
  · unfold maxLen at h2
    exact ⟨_, cap, rfl, h1, by omega⟩
theorem ownZ_block {w w' : World} {B s n : Nat} {T : TypeId} {v : Value} {xs : List Value} (h : w.ownsRow B T s v n xs) (hk : ∀ b, v.ownBlock = some b → w'.heap[b]? = w.heap[b]?) : w'.ownsRow B T s v n xs := by
  obtain ⟨h1, h2⟩ := h
  refine ⟨h1, ?_⟩
  rcases h2 with e | ⟨g', cap, cur, e, hB, hgg, r⟩
  · exact .inl e
  · subst e
    exact .inr ⟨_, _, cur, rfl, hB, (hk g' rfl).trans hgg, r⟩
theorem ownZ_base {w : World} {B C s : Nat} {T : TypeId} {v : Value} {n : Nat} {xs : List Value} (hBC : C ≤ B) (h : w.ownsRow B T s v n xs) : w.ownsRow C T s v n xs := by
  refine ⟨h.1, ?_⟩
  rcases h.2 with h | ⟨g, cap, cur, a, b, r⟩
  · exact .inl h
  · exact .inr ⟨g, cap, cur, a, by omega, r⟩

/-- A slice value that leads to these integers. -/
def KlC (w : World) (v : Value) (zs : List Int) : Prop := ∃ a c, v = .slice a zs.length c ∧ IntsA w.heap.size w a zs ∧ zs.length ≤ 9223372036854775807
theorem KlC.below {w w' : World} {v : Value} {l : List Int} (h : KlC w v l) (hb : Below w.heap.size w w') : KlC w' v l := by
  obtain ⟨a, c, e, hi, hl⟩ := h
  exact ⟨a, c, e, (hi.below hb).mono hb.size, hl⟩
theorem KlC.nil (w : World) (a : Option Addr) (c : Nat) : KlC w (.slice a 0 c) [] := ⟨a, c, rfl, fun j hj => by simp at hj, by simp⟩
theorem OwnZ.known {B : Nat} {zs : List Int} {v : Value} {w : World} (h : OwnZ B zs v w) : KlC w v zs := by
  have h : w.ownsRow B TZ 1 v zs.length (intV zs) := h
  obtain ⟨a, c, rfl, h1, h2⟩ := ownZ_slice h
  refine ⟨a, c, rfl, fun j hj => ?_, by omega⟩
  obtain ⟨g, cap, e, _⟩ := ownZ_some h (by omega)
  injection e with e1 e2 e3
  subst e1
  refine ⟨g, 0, rfl, (World.ownsRow.lt h g rfl).2, ?_⟩
  rw [Nat.zero_add, World.ownsRow.cellAt h j (by omega), intV_get zs hj]
  rfl
/-- A call that returns integers and an error. -/
def RetK (zs : List Int) (x : Int) (w : World) (e : Ending) (w' : World) : Prop := ∃ v, e = .returned (.tuple #[v, .int .i64 x]) ∧ KlC w' v zs ∧ Below w.heap.size w w'

end Go.Proofs.YtdgphhdkeikbaaaDoor
