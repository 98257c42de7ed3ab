/-
  Rows in memory as layer 4 uses them: edges, numbers, marks, and a relation's rows. No program in it but the types.
-/
import Derived.Test.YtbfeiegjhcjbnaaIntsA
import Derived.Test.YtbfeiegjhcjbnaaPoPlain
import Derived.WalkKit
import Derived.WalkSpells
import Derived.WalkLawsBesides
import Derived.BigCall
import Derived.Lib.Hide
import Derived.Lib.Builder
import Derived.Deep.QuietTactic
import Derived.BigQuiet
import Derived.IntWalk
import Derived.Deep.LoopGhost
namespace Go.Proofs.Ytbfeiegjhcjbnaa
open Go.RowKit

/-- The slice with this address holds the edges es, in a block below n₀. -/
def EdgesA (n₀ : Nat) (W : World) (ad : Option Addr) (es : List (Int × Int)) : Prop :=
  ∀ j, j < es.length → ∃ b off, ad = some ⟨b, off, none⟩ ∧ b < n₀ ∧ W.cell? ⟨b, off + j * 2, none⟩ = some (.int .i64 (es[j]?.getD (0, 0)).1) ∧ W.cell? ⟨b, off + j * 2 + 1, none⟩ = some (.int .i64 (es[j]?.getD (0, 0)).2)
theorem EdgesA.below {n₀ : Nat} {A B : World} (h : Below n₀ A B) {ad : Option Addr} {es : List (Int × Int)} (hE : EdgesA n₀ A ad es) : EdgesA n₀ B ad es := fun j hj => by
  obtain ⟨b, off, e, hb, h1, h2⟩ := hE j hj
  exact ⟨b, off, e, hb, (h.cell (p := ⟨b, off + j * 2, none⟩) hb).trans h1, (h.cell (p := ⟨b, off + j * 2 + 1, none⟩) hb).trans h2⟩
theorem EdgesA.mono {n m : Nat} {A : World} (hnm : n ≤ m) {ad : Option Addr} {es : List (Int × Int)} (hE : EdgesA n A ad es) : EdgesA m A ad es := fun j hj => by
  obtain ⟨b, off, e, hb, h⟩ := hE j hj
  exact ⟨b, off, e, by omega, h⟩
theorem EdgesA.some_ {n : Nat} {A : World} {ad : Option Addr} {es : List (Int × Int)} (hE : EdgesA n A ad es) (h : 0 < es.length) : ∃ b off, ad = some ⟨b, off, none⟩ ∧ b < n ∧ ∀ j, j < es.length → A.cell? ⟨b, off + j * 2, none⟩ = some (.int .i64 (es[j]?.getD (0, 0)).1) ∧ A.cell? ⟨b, off + j * 2 + 1, none⟩ = some (.int .i64 (es[j]?.getD (0, 0)).2) := by
  obtain ⟨b, off, e, hb, _⟩ := hE 0 h
  refine ⟨b, off, e, hb, fun j hj => ?_⟩
  obtain ⟨b', off', e', hb', h'⟩ := hE j hj
  rw [e] at e'
  cases e'
  exact h'
theorem take_snocE (es : List (Int × Int)) (k : Nat) (h : k < es.length) : es.take (k + 1) = es.take k ++ [es[k]?.getD (0, 0)] := by
  rw [List.take_succ_eq_append_getElem h]; simp [h]
/-- All ends of edges are nodes. -/
def OkE (N : Nat) (es : List (Int × Int)) : Prop := ∀ e ∈ es, 0 ≤ e.1 ∧ e.1 < N ∧ 0 ≤ e.2 ∧ e.2 < N
def gN (es : List (Int × Int)) : List (Nat × Nat) := es.map fun e => (e.1.toNat, e.2.toNat)
theorem gN_length (es : List (Int × Int)) : (gN es).length = es.length := by simp [gN]
theorem OkE.at_ {N : Nat} {es : List (Int × Int)} (h : OkE N es) {k : Nat} (hk : k < es.length) : ∃ u v : Nat, es[k]?.getD (0, 0) = ((u : Int), (v : Int)) ∧ u < N ∧ v < N ∧ (gN es)[k]? = some (u, v) := by
  have hm : es[k] ∈ es := List.getElem_mem hk
  obtain ⟨h1, h2, h3, h4⟩ := h _ hm
  refine ⟨es[k].1.toNat, es[k].2.toNat, ?_, by omega, by omega, ?_⟩
  · rw [List.getElem?_eq_getElem hk]
    simp only [Option.getD_some]
    apply Prod.ext <;> simp only [] <;> omega
  · simp [gN, hk]
theorem gN_lt {N : Nat} {es : List (Int × Int)} (hok : OkE N es) : ∀ e, e ∈ gN es → e.1 < N ∧ e.2 < N := by
  intro e he
  obtain ⟨x, hx, rfl⟩ := List.mem_map.1 he
  have := hok x hx
  dsimp only
  omega

/-! ### Check's first part -/

def badE (n : Int) (e : Int × Int) : Prop := e.1 < 0 ∨ n ≤ e.1 ∨ e.2 < 0 ∨ n ≤ e.2
def lowE (p e : Int × Int) : Prop := e.1 < p.1 ∨ (e.1 = p.1 ∧ e.2 ≤ p.2)
instance (n : Int) (e : Int × Int) : Decidable (badE n e) := by unfold badE; infer_instance
instance (p e : Int × Int) : Decidable (lowE p e) := by unfold lowE; infer_instance
def lowO : Option (Int × Int) → Int × Int → Prop
  | none, _ => False
  | some p, e => lowE p e
instance (p : Option (Int × Int)) (e : Int × Int) : Decidable (lowO p e) := by cases p <;> unfold lowO <;> infer_instance
def chkL (n : Int) : Option (Int × Int) → List (Int × Int) → Int
  | _, [] => 0
  | p, e :: r => if badE n e then 2 else if lowO p e then 9 else chkL n (some e) r
/-- The first error of size, ends and order. -/
def chkE (n : Int) (es : List (Int × Int)) : Int := if n < 0 ∨ 200 < n then 2 else if 2000 < es.length then 4 else chkL n none es
def prevE (es : List (Int × Int)) (k : Nat) : Option (Int × Int) := if k = 0 then none else some (es[k - 1]?.getD (0, 0))
theorem drop_consE (es : List (Int × Int)) (k : Nat) (h : k < es.length) : es.drop k = es[k]?.getD (0, 0) :: es.drop (k + 1) := by
  rw [List.drop_eq_getElem_cons h]; simp [h]
theorem chk_bad {n : Int} {es : List (Int × Int)} {k : Nat} {e : Int × Int} (h : k < es.length) (he : es[k]?.getD (0, 0) = e) (hb : badE n e) (hi : chkL n none es = chkL n (prevE es k) (es.drop k)) : chkL n none es = 2 := by
  rw [hi, drop_consE es k h, he, chkL, if_pos hb]
theorem chk_low {n : Int} {es : List (Int × Int)} {k : Nat} {e p : Int × Int} (h : k < es.length) (he : es[k]?.getD (0, 0) = e) (hb : ¬ badE n e) (h0 : k ≠ 0) (hp : es[k - 1]?.getD (0, 0) = p) (hlo : lowE p e) (hi : chkL n none es = chkL n (prevE es k) (es.drop k)) : chkL n none es = 9 := by
  have e1 : prevE es k = some p := by unfold prevE; rw [if_neg h0, hp]
  rw [hi, drop_consE es k h, he, chkL, if_neg hb, e1, if_pos (show lowO (some p) e from hlo)]
theorem chk_next {n : Int} {es : List (Int × Int)} {k : Nat} {e : Int × Int} (h : k < es.length) (he : es[k]?.getD (0, 0) = e) (hb : ¬ badE n e) (hlo : k ≠ 0 → ¬ lowE (es[k - 1]?.getD (0, 0)) e) (hi : chkL n none es = chkL n (prevE es k) (es.drop k)) : chkL n none es = chkL n (prevE es (k + 1)) (es.drop (k + 1)) := by
  have e1 : prevE es (k + 1) = some e := by unfold prevE; rw [if_neg (by omega), Nat.add_sub_cancel, he]
  have e2 : ¬ lowO (prevE es k) e := by
    unfold prevE
    by_cases h0 : k = 0
    · rw [if_pos h0]; exact fun h => h
    · rw [if_neg h0]; exact hlo h0
  rw [hi, drop_consE es k h, he, chkL, if_neg hb, if_neg e2, e1]
theorem chkL_ok {n : Int} {p : Option (Int × Int)} {es : List (Int × Int)} (h : chkL n p es = 0) : ∀ e ∈ es, ¬ badE n e := by
  induction es generalizing p with
  | nil => simp
  | cons e r ih =>
    rw [chkL] at h
    by_cases hb : badE n e
    · rw [if_pos hb] at h; cases h
    · rw [if_neg hb] at h
      by_cases hlo : lowO p e
      · rw [if_pos hlo] at h; cases h
      · rw [if_neg hlo] at h
        intro x hx
        rcases List.mem_cons.1 hx with rfl | hx
        · exact hb
        · exact ih h x hx
theorem chk_ok {n : Int} {es : List (Int × Int)} (h : chkE n es = 0) : ∃ N : Nat, n = (N : Int) ∧ N ≤ 200 ∧ es.length ≤ 2000 ∧ OkE N es := by
  unfold chkE at h
  by_cases h1 : n < 0 ∨ 200 < n
  · rw [if_pos h1] at h; cases h
  · rw [if_neg h1] at h
    by_cases h2 : 2000 < es.length
    · rw [if_pos h2] at h; cases h
    · rw [if_neg h2] at h
      refine ⟨n.toNat, by omega, by omega, by omega, fun e he => ?_⟩
      have := chkL_ok h e he
      unfold badE at this
      omega
def ltI (a b : Int × Int) : Prop := a.1 < b.1 ∨ (a.1 = b.1 ∧ a.2 < b.2)
theorem chkL_srt {n : Int} {p : Option (Int × Int)} {es : List (Int × Int)} (h : chkL n p es = 0) : (∀ p0, p = some p0 → ∀ e ∈ es, ltI p0 e) ∧ es.Pairwise ltI := by
  induction es generalizing p with
  | nil => exact ⟨fun _ _ e he => by simp at he, List.Pairwise.nil⟩
  | cons e r ih =>
    unfold chkL at h
    by_cases h1 : badE n e
    · rw [if_pos h1] at h; cases h
    · rw [if_neg h1] at h
      by_cases h2 : lowO p e
      · rw [if_pos h2] at h; cases h
      · rw [if_neg h2] at h
        obtain ⟨h3, h4⟩ := ih h
        have h3 := h3 e rfl
        refine ⟨?_, List.pairwise_cons.2 ⟨h3, h4⟩⟩
        rintro p0 rfl x hx
        have hlt : ltI p0 e := by
          have h2 : ¬ lowE p0 e := h2
          unfold lowE at h2
          unfold ltI
          omega
        rcases List.mem_cons.1 hx with rfl | hx
        · exact hlt
        · have := h3 x hx
          unfold ltI at *
          omega
theorem chk_srt {n : Int} {es : List (Int × Int)} (h : chkE n es = 0) : (gN es).Pairwise ltP := by
  obtain ⟨N, rfl, _, _, hok⟩ := chk_ok h
  unfold chkE at h
  by_cases h1 : (N : Int) < 0 ∨ 200 < (N : Int)
  · rw [if_pos h1] at h; cases h
  · rw [if_neg h1] at h
    by_cases h2 : 2000 < es.length
    · rw [if_pos h2] at h; cases h
    · rw [if_neg h2] at h
      have h3 := (chkL_srt h).2
      unfold gN
      rw [List.pairwise_map]
      refine h3.imp_of_mem (fun {a b} ha hb hl => ?_)
      have ka := hok a ha
      have kb := hok b hb
      unfold ltI at hl
      unfold ltP
      simp only []
      omega
/-- What Check returns. -/
def poE (n : Int) (es : List (Int × Int)) : Int := if chkE n es = 0 then (if loopK (relG (gN es)) n.toNat then 21 else if trsB n.toNat (relG (gN es)) then 0 else 10) else chkE n es
theorem poE_ok {n : Int} {es : List (Int × Int)} (h : poE n es = 0) : chkE n es = 0 ∧ loopK (relG (gN es)) n.toNat = false ∧ trsB n.toNat (relG (gN es)) = true := by
  unfold poE at h
  by_cases hc : chkE n es = 0
  · rw [if_pos hc] at h
    cases hl : loopK (relG (gN es)) n.toNat with
    | true => rw [hl] at h; simp at h
    | false =>
      rw [hl] at h
      cases ht : trsB n.toNat (relG (gN es)) with
      | true => exact ⟨hc, rfl, rfl⟩
      | false => rw [ht] at h; simp at h
  · rw [if_neg hc] at h
    exact absurd h hc

/-! ### Rows of the call's own -/

abbrev TBool : TypeId := 4
abbrev TI : TypeId := 3
abbrev TE : TypeId := 42
abbrev TR : TypeId := 58
theorem infoBool : (Try.prog.info? TBool).map (fun i => (i.zero, i.size, i.bytes)) = some (some (.bool false), 1, 1) := by kernel_rfl
theorem infoI : (Try.prog.info? TI).map (fun i => (i.zero, i.size, i.bytes)) = some (some (.int .i64 0), 1, 8) := by kernel_rfl
theorem infoE : (Try.prog.info? TE).map (fun i => (i.zero, i.size, i.bytes)) = some (some (.agg #[.int .i64 0, .int .i64 0]), 2, 16) := by kernel_rfl
theorem infoR : (Try.prog.info? TR).map (fun i => (i.zero, i.size, i.bytes)) = some (some (.slice none 0 0), 1, 24) := by kernel_rfl
def natV (l : List Nat) : List Value := l.map fun (x : Nat) => Value.int .i64 ((x : Nat) : Int)
theorem natV_length (l : List Nat) : (natV l).length = l.length := by simp [natV]
def edV (l : List (Nat × Nat)) : List Value := l.flatMap fun e => [.int .i64 (e.1 : Int), .int .i64 (e.2 : Int)]
theorem edV_snoc (l : List (Nat × Nat)) (i k : Nat) : edV (l ++ [(i, k)]) = edV l ++ [.int .i64 (i : Int), .int .i64 (k : Int)] := by simp [edV]
theorem newCell (w : World) (u : Value) (T : TypeId) : ∀ (j : Nat) (x : Value), [u][j]? = some x → (w.alloc (.cells #[u] T)).cell? ((⟨w.heap.size, 0, none⟩ : Addr).add j) = some x := by
  intro j x hj
  match j, hj with
  | 0, hj => simp at hj; subst hj; simp [Addr.add]
theorem newCell2 (w : World) (u v : Value) (T : TypeId) : ∀ (j : Nat) (x : Value), [u, v][j]? = some x → (w.alloc (.cells #[u, v] T)).cell? ((⟨w.heap.size, 0, none⟩ : Addr).add j) = some x := by
  intro j x hj
  match j, hj with
  | 0, hj => simp at hj; subst hj; simp [Addr.add]
  | 1, hj => simp at hj; subst hj; simp [Addr.add]
theorem one_one (z : Int) : ∀ u ∈ [Value.int .i64 z], u.oneCell' = true := by
  intro u hu
  simp at hu
  subst hu
  rfl
theorem two_one (a b : Int) : ∀ u ∈ [Value.int .i64 a, Value.int .i64 b], u.oneCell' = true := by
  intro u hu
  simp at hu
  rcases hu with rfl | rfl <;> rfl
theorem one_slice (a : Option Addr) (n c : Nat) : ∀ u ∈ [Value.slice a n c], u.oneCell' = true := by
  intro u hu
  simp at hu
  subst hu
  rfl
theorem ownsRow_some {w : World} {B : Nat} {e : TypeId} {s : Nat} {v : Value} {n : Nat} {xs : List Value} (h : w.ownsRow B e s v n xs) (hv : v ≠ .slice none 0 0) : ∃ g cap, v = .slice (some ⟨g, 0, none⟩) n cap := by
  rcases h.2 with ⟨e, _⟩ | ⟨g, cap, cur, e, _⟩
  · exact absurd e hv
  · exact ⟨g, cap, e⟩
theorem ownsRow_base {w : World} {B C s : Nat} {T : TypeId} {v : Value} {n : Nat} {xs : List Value} (hBC : C ≤ B) (h : w.ownsRow B T s v n xs) : w.ownsRow C T s v n xs := by
  refine ⟨h.1, ?_⟩
  rcases h.2 with h | ⟨g, cap, cur, a, b, r⟩
  · exact .inl h
  · exact .inr ⟨g, cap, cur, a, by omega, r⟩
theorem own_typeS {B n g cap s : Nat} {T : TypeId} {xs : List Value} {w : World} (h : w.ownsRow B T s (.slice (some ⟨g, 0, none⟩) n cap) n xs) : ∃ c, w.heap[g]? = some (.cells c T (0, 0)) := by
  rcases h.2 with ⟨e, _⟩ | ⟨g', cap', cur, e, _, hg, _⟩
  · cases e
  · cases e
    exact ⟨_, hg⟩
theorem own_sliceS {w : World} {B s : Nat} {T : TypeId} {v : Value} {n : Nat} {xs : List Value} (h : w.ownsRow B T s v n xs) : ∃ a c, v = .slice a n c ∧ n ≤ c ∧ c ≤ 9223372036854775807 := by
  rcases h.2 with ⟨rfl, e⟩ | ⟨g, cap, cur, rfl, _, _, h1, h2, _⟩
  · exact ⟨none, 0, by rw [e], by omega, by omega⟩
  · unfold maxLen at h2
    exact ⟨_, cap, rfl, h1, by omega⟩
theorem own_below {w w' : World} {B T n m s : Nat} {v : Value} {xs : List Value} (h : w.ownsRow B T s v n xs) (hb : Below m w w') (hg : w.heap.size ≤ m) : w'.ownsRow B T s v n xs := by
  obtain ⟨h1, h2⟩ := h
  refine ⟨h1, ?_⟩
  rcases h2 with e | ⟨g', cap, cur, e, hB, hgg, r⟩
  · exact .inl e
  · exact .inr ⟨g', cap, cur, e, hB, (hb.block g' (by have := (Array.getElem?_eq_some_iff.1 hgg).1; omega)).trans hgg, r⟩
theorem own_drewN {w : World} {B n k s : Nat} {T : TypeId} {v : Value} {xs : List Value} (h : w.ownsRow B T s v n xs) : (w.drewN k).ownsRow B T s v n xs := h.kept (row := none) ⟨rfl, rfl, rfl, Nat.le_refl _, fun _ _ _ => rfl⟩ (by cases hv : v.ownBlock <;> simp)
theorem below_drewN' {B k : Nat} {w w' : World} (h : Below B w w') : Below B w (w'.drewN k) := ⟨h.os, h.tape, h.output, h.size, h.block⟩
theorem grownOf {w w' : World} (h : Below w.heap.size w w') : w.grownBy w' none := ⟨h.os, h.tape, h.output, h.size, fun k hk _ => h.block k hk⟩
theorem grown_weak {a b : World} (h : a.grownBy b none) (r : Option Nat) : a.grownBy b r := ⟨h.os, h.tape, h.output, h.size, fun k hk _ => h.block k hk (by simp)⟩
theorem grown_trans {a b c : World} {r : Option Nat} (h : a.grownBy b r) (k : b.grownBy c r) : a.grownBy c r :=
  ⟨k.os.trans h.os, k.tape.trans h.tape, k.output.trans h.output, Nat.le_trans h.size k.size, fun i hi hne => (k.block i (Nat.lt_of_lt_of_le hi h.size) hne).trans (h.block i hi hne)⟩
theorem box_cell {W : World} {B : Nat} {v : Value} {t : TypeId} (h : W.heap[B]? = some (.cells #[v] t (0, 0))) : W.cell? ⟨B, 0, none⟩ = some v := by rw [Lib.cell_of_heap h]; rfl
theorem box2_cell {W : World} {B : Nat} {u v : Value} {t : TypeId} (h : W.heap[B]? = some (.cells #[u, v] t (0, 0))) : W.cell? ⟨B, 0, none⟩ = some u ∧ W.cell? ⟨B, 1, none⟩ = some v := by rw [Lib.cell_of_heap h, Lib.cell_of_heap h]; exact ⟨rfl, rfl⟩

/-- Numbers, edges in a row of the call's own, or none. -/
def OwnN (B : Nat) (l : List Nat) (v : Value) (w : World) : Prop := w.ownsRow B TI 1 v l.length (natV l)
theorem OwnN.nil (B : Nat) (w : World) : OwnN B [] (.slice none 0 0) w := World.ownsRow_nil _ _ _ _
def OwnE (B : Nat) (l : List (Nat × Nat)) (v : Value) (w : World) : Prop := w.ownsRow B TE 2 v l.length (edV l)
theorem OwnE.nil (B : Nat) (w : World) : OwnE B [] (.slice none 0 0) w := World.ownsRow_nil _ _ _ _

/-! ### A relation's rows -/

def boolsV (N : Nat) (p : Nat → Bool) : List Value := (List.range N).map fun j => Value.bool (p j)
theorem boolsV_get {N : Nat} (p : Nat → Bool) {j : Nat} (h : j < N) : (boolsV N p)[j]? = some (.bool (p j)) := by simp [boolsV, h]
theorem boolsV_length (N : Nat) (p : Nat → Bool) : (boolsV N p).length = N := by simp [boolsV]
theorem boolsV_set {N : Nat} {p q : Nat → Bool} {y : Nat} {z : Bool} (hz : q y = z) (hg : ∀ j, j ≠ y → q j = p j) : (boolsV N p).set y (.bool z) = boolsV N q := by
  apply List.ext_getElem?
  intro v
  by_cases hv : v < N
  · rw [boolsV_get _ hv]
    by_cases e : y = v
    · subst e
      rw [List.getElem?_set_self (by rw [boolsV_length]; exact hv), hz]
    · rw [List.getElem?_set_ne e, boolsV_get _ hv, hg v (fun h => e h.symm)]
  · rw [List.getElem?_eq_none (by rw [List.length_set, boolsV_length]; omega), List.getElem?_eq_none (by rw [boolsV_length]; omega)]
theorem boolsV_false (N : Nat) : (madeCells #[Value.bool false] N).toList = boolsV N (fun _ => false) := by
  rw [toList_madeCells_one]
  apply List.ext_getElem?
  intro v
  by_cases hv : v < N
  · rw [boolsV_get _ hv, List.getElem?_replicate, if_pos hv]
  · rw [List.getElem?_eq_none (by simp; omega), List.getElem?_eq_none (by rw [boolsV_length]; omega)]
/-- The rows' slices: the first k ones are made. -/
def rowsV (N k : Nat) (g : Nat → Nat) : List Value := (List.range N).map fun i => if i < k then .slice (some ⟨g i, 0, none⟩) N N else .slice none 0 0
theorem rowsV_get {N k : Nat} (g : Nat → Nat) {i : Nat} (h : i < N) : (rowsV N k g)[i]? = some (if i < k then .slice (some ⟨g i, 0, none⟩) N N else .slice none 0 0) := by simp [rowsV, h]
theorem rowsV_length (N k : Nat) (g : Nat → Nat) : (rowsV N k g).length = N := by simp [rowsV]
theorem rowsV_zero (N : Nat) (g : Nat → Nat) : (madeCells #[Value.slice none 0 0] N).toList = rowsV N 0 g := by
  rw [toList_madeCells_one]
  apply List.ext_getElem?
  intro v
  by_cases hv : v < N
  · rw [rowsV_get _ hv, List.getElem?_replicate, if_pos hv]
    simp
  · rw [List.getElem?_eq_none (by simp; omega), List.getElem?_eq_none (by rw [rowsV_length]; omega)]
theorem rowsV_set {N k G : Nat} {g : Nat → Nat} (hk : k < N) : (rowsV N k g).set k (.slice (some ⟨G, 0, none⟩) N N) = rowsV N (k + 1) (fun i => if i = k then G else g i) := by
  apply List.ext_getElem?
  intro v
  by_cases hv : v < N
  · rw [rowsV_get _ hv]
    by_cases e : k = v
    · subst e
      rw [List.getElem?_set_self (by rw [rowsV_length]; exact hk)]
      simp
    · rw [List.getElem?_set_ne e, rowsV_get _ hv]
      by_cases h1 : v < k
      · rw [if_pos h1, if_pos (by omega), if_neg (fun h => e h.symm)]
      · rw [if_neg h1, if_neg (by omega)]
  · rw [List.getElem?_eq_none (by rw [List.length_set, rowsV_length]; omega), List.getElem?_eq_none (by rw [rowsV_length]; omega)]
/-- A relation in memory: its first k rows are made. -/
structure MatK (B A N k : Nat) (g : Nat → Nat) (f : Nat → Nat → Bool) (W : World) : Prop where
  outer : W.ownsRow B TR 1 (.slice (some ⟨A, 0, none⟩) N N) N (rowsV N k g)
  row : ∀ i, i < k → W.ownsRow B TBool 1 (.slice (some ⟨g i, 0, none⟩) N N) N (boolsV N (f i))
  inj : ∀ i j, i < k → j < k → g i = g j → i = j
theorem MatK.base {B C A N k : Nat} {g : Nat → Nat} {f : Nat → Nat → Bool} {W : World} (h : MatK B A N k g f W) (hC : C ≤ B) : MatK C A N k g f W := ⟨ownsRow_base hC h.outer, fun i hi => ownsRow_base hC (h.row i hi), h.inj⟩
theorem MatK.below {B A N k m : Nat} {g : Nat → Nat} {f : Nat → Nat → Bool} {W W' : World} (h : MatK B A N k g f W) (hb : Below m W W') (hm : W.heap.size ≤ m) : MatK B A N k g f W' := ⟨own_below h.outer hb hm, fun i hi => own_below (h.row i hi) hb hm, h.inj⟩
theorem MatK.drewN {B A N k q : Nat} {g : Nat → Nat} {f : Nat → Nat → Bool} {W : World} (h : MatK B A N k g f W) : MatK B A N k g f (W.drewN q) := ⟨own_drewN h.outer, fun i hi => own_drewN (h.row i hi), h.inj⟩
theorem own_drew {w : World} {B n s : Nat} {T : TypeId} {v : Value} {xs : List Value} (h : w.ownsRow B T s v n xs) : w.drew.ownsRow B T s v n xs := h.kept (row := none) ⟨rfl, rfl, rfl, Nat.le_refl _, fun _ _ _ => rfl⟩ (by cases hv : v.ownBlock <;> simp)
theorem MatK.drew {B A N k : Nat} {g : Nat → Nat} {f : Nat → Nat → Bool} {W : World} (h : MatK B A N k g f W) : MatK B A N k g f W.drew := ⟨own_drew h.outer, fun i hi => own_drew (h.row i hi), h.inj⟩
theorem MatK.alloc {B A N k : Nat} {g : Nat → Nat} {f : Nat → Nat → Bool} {W : World} (h : MatK B A N k g f W) (o : Obj) : MatK B A N k g f (W.alloc o) := ⟨World.ownsRow.alloc h.outer o, fun i hi => World.ownsRow.alloc (h.row i hi) o, h.inj⟩
theorem MatK.lt {B A N k : Nat} {g : Nat → Nat} {f : Nat → Nat → Bool} {W : World} (h : MatK B A N k g f W) : B ≤ A ∧ A < W.heap.size := World.ownsRow.lt h.outer A rfl
theorem MatK.lt_row {B A N k : Nat} {g : Nat → Nat} {f : Nat → Nat → Bool} {W : World} (h : MatK B A N k g f W) {i : Nat} (hi : i < k) : B ≤ g i ∧ g i < W.heap.size := World.ownsRow.lt (h.row i hi) (g i) rfl
theorem MatK.ne {B A N k : Nat} {g : Nat → Nat} {f : Nat → Nat → Bool} {W : World} (h : MatK B A N k g f W) {i : Nat} (hi : i < k) : A ≠ g i := by
  intro e
  obtain ⟨c1, h1⟩ := own_typeS h.outer
  obtain ⟨c2, h2⟩ := own_typeS (h.row i hi)
  rw [e, h2] at h1
  simp [TR, TBool] at h1
theorem MatK.cell1 {B A N k : Nat} {g : Nat → Nat} {f : Nat → Nat → Bool} {W : World} (h : MatK B A N k g f W) {i : Nat} (hi : i < k) (hN : i < N) : W.cell? ⟨A, i, none⟩ = some (.slice (some ⟨g i, 0, none⟩) N N) := by
  rw [World.ownsRow.cellAt h.outer i (by omega), rowsV_get _ hN, if_pos hi]
theorem MatK.cell2 {B A N k : Nat} {g : Nat → Nat} {f : Nat → Nat → Bool} {W : World} (h : MatK B A N k g f W) {i j : Nat} (hi : i < k) (hj : j < N) : W.cell? ⟨g i, j, none⟩ = some (.bool (f i j)) := by
  rw [World.ownsRow.cellAt (h.row i hi) j (by omega), boolsV_get _ hj]
theorem MatK.free1 {B A N k : Nat} {g : Nat → Nat} {f : Nat → Nat → Bool} {W : World} (h : MatK B A N k g f W) (j : Nat) : W.frozen? ⟨A, j, none⟩ = false := World.ownsRow.frozenAt h.outer j
theorem MatK.free2 {B A N k : Nat} {g : Nat → Nat} {f : Nat → Nat → Bool} {W : World} (h : MatK B A N k g f W) {i : Nat} (hi : i < k) (j : Nat) : W.frozen? ⟨g i, j, none⟩ = false := World.ownsRow.frozenAt (h.row i hi) j
/-- A row of another block is kept by a store. -/
theorem own_other {w w' : World} {B G s n : Nat} {T : TypeId} {g c : Nat} {xs : List Value} (h : w.ownsRow B T s (.slice (some ⟨g, 0, none⟩) n c) n xs) (hg : w.grownBy w' (some G)) (hne : g ≠ G) : w'.ownsRow B T s (.slice (some ⟨g, 0, none⟩) n c) n xs :=
  h.kept hg (.inr (by simp [Value.ownBlock]; omega))
/-- A store into row a. -/
theorem MatK.store {B A N k : Nat} {g : Nat → Nat} {f h' : Nat → Nat → Bool} {W : World} (h : MatK B A N k g f W) {a b : Nat} {z : Bool} (ha : a < k) (hz : h' a b = z) (ho : ∀ i j, ¬ (i = a ∧ j = b) → h' i j = f i j) : MatK B A N k g h' (W.setCell ⟨g a, b, none⟩ (.bool z)) := by
  obtain ⟨s1, s2⟩ := World.ownsRow.stored (h.row a ha) b (.bool z)
  refine ⟨own_other h.outer s2 (h.ne ha), fun i hi => ?_, h.inj⟩
  by_cases e : i = a
  · subst e
    rw [boolsV_set (q := h' i) hz (fun j hj => ho i j (fun hh => hj hh.2))] at s1
    exact s1
  · have hq := own_other (h.row i hi) s2 (fun e2 => e (h.inj i a hi ha e2))
    have : boolsV N (f i) = boolsV N (h' i) := by
      unfold boolsV
      apply List.map_congr_left
      intro j _
      rw [ho i j (fun hh => e hh.1)]
    rw [this] at hq
    exact hq
/-- One row more is made. -/
theorem MatK.made {B A N k : Nat} {g : Nat → Nat} {f : Nat → Nat → Bool} {W W' : World} (h : MatK B A N k g f W) (hk : k < N) (hf : ∀ j, f k j = false) (hg : W.grownBy W' none) (hr : W'.ownsRow B TBool 1 (.slice (some ⟨W.heap.size, 0, none⟩) N N) N (boolsV N (fun _ => false))) :
    MatK B A N (k + 1) (fun i => if i = k then W.heap.size else g i) f (W'.setCell ⟨A, k, none⟩ (.slice (some ⟨W.heap.size, 0, none⟩) N N)) := by
  have ho := h.outer.kept hg (by simp [Value.ownBlock])
  obtain ⟨s1, s2⟩ := World.ownsRow.stored ho k (.slice (some ⟨W.heap.size, 0, none⟩) N N)
  rw [rowsV_set hk] at s1
  refine ⟨s1, fun i hi => ?_, fun i j hi hj e => ?_⟩
  · by_cases e : i = k
    · subst e
      simp only [if_true]
      have : boolsV N (fun _ => false) = boolsV N (f i) := by
        unfold boolsV
        apply List.map_congr_left
        intro j _
        rw [hf j]
      rw [this] at hr
      exact own_other hr s2 (by have := h.lt.2; omega)
    · simp only [e, if_false]
      have hi' : i < k := by omega
      exact own_other ((h.row i hi').kept hg (by simp [Value.ownBlock])) s2 (fun e2 => h.ne hi' e2.symm)
  · by_cases e1 : i = k <;> by_cases e2 : j = k
    · omega
    · rw [if_pos e1, if_neg e2] at e
      have := (h.lt_row (show j < k by omega)).2
      omega
    · rw [if_neg e1, if_pos e2] at e
      have := (h.lt_row (show i < k by omega)).2
      omega
    · rw [if_neg e1, if_neg e2] at e
      exact h.inj i j (by omega) (by omega) e

end Go.Proofs.Ytbfeiegjhcjbnaa
