/-
  Expressions es plain values: size, depth, which parts are valid, names, types, values, folding, replacing. Expressions in memory. Rows of integers of the call's own: appending. The walk over the parts: argument by argument; the type of an operation by the wanted one.
-/
import Derived.Test.YtdgphhdkeikbaaaDoorProg
import Derived.Test.YtdgphhdkeikbaaaDoorVcMem
/-! ### ExPlain: Expressions es plain values: size, depth, which parts are valid, names, types, values, folding, replacing. -/
namespace Go.Proofs.YtdgphhdkeikbaaaDoor
set_option linter.unusedSimpArgs false
set_option linter.unusedVariables false

/-- An expression: its kind, operator, name, value, arguments. -/
inductive Ex where
  | mk (k o : Int) (s : ByteArray) (v : Int) (es : List Ex) : Ex
def Ex.k : Ex → Int | .mk k _ _ _ _ => k
def Ex.o : Ex → Int | .mk _ o _ _ _ => o
def Ex.s : Ex → ByteArray | .mk _ _ s _ _ => s
def Ex.v : Ex → Int | .mk _ _ _ v _ => v
def Ex.es : Ex → List Ex | .mk _ _ _ _ es => es
instance : Inhabited Ex := ⟨.mk 0 0 .empty 0 []⟩
def zeroX : Ex := .mk 0 0 .empty 0 []
theorem Ex.ind {P : Ex → Prop} (e : Ex) (h : ∀ k o s v es, (∀ a ∈ es, P a) → P (.mk k o s v es)) : P e :=
  Ex.rec (motive_1 := P) (motive_2 := fun l => ∀ a ∈ l, P a) (fun k o s v es ih => h k o s v es ih) (fun a ha => by cases ha) (fun a r ha hr b hb => by
    rcases List.mem_cons.1 hb with rfl | hb
    · exact ha
    · exact hr b hb) e
def ga (es : List Ex) (j : Nat) : Ex := es[j]?.getD zeroX
theorem ga_mem {es : List Ex} {j : Nat} (h : j < es.length) : ga es j ∈ es := by
  unfold ga
  rw [List.getElem?_eq_getElem h]
  exact List.getElem_mem h
theorem drop_consX (es : List Ex) (j : Nat) (h : j < es.length) : es.drop j = ga es j :: es.drop (j + 1) := by
  unfold ga
  rw [List.getElem?_eq_getElem h, List.drop_eq_getElem_cons h]
  rfl
theorem take_snocX (es : List Ex) (j : Nat) (h : j < es.length) : es.take (j + 1) = es.take j ++ [ga es j] := by
  unfold ga
  rw [List.take_add_one, List.getElem?_eq_getElem h]
  rfl

/-! ### Size and depth -/
mutual
def szE : Ex → Nat
  | .mk _ _ _ _ es => 1 + szL es
def szL : List Ex → Nat
  | [] => 0
  | a :: r => szE a + szL r
end
mutual
def dpE : Ex → Nat
  | .mk _ _ _ _ es => 1 + dpL es
def dpL : List Ex → Nat
  | [] => 0
  | a :: r => max (dpE a) (dpL r)
end
theorem szE_pos (e : Ex) : 1 ≤ szE e := by
  cases e
  simp [szE]
theorem dpE_pos (e : Ex) : 1 ≤ dpE e := by
  cases e
  simp [dpE]
theorem szL_app (a b : List Ex) : szL (a ++ b) = szL a + szL b := by
  induction a with
  | nil => simp [szL]
  | cons x a ih => simp [szL, ih]; omega
theorem dpL_app (a b : List Ex) : dpL (a ++ b) = max (dpL a) (dpL b) := by
  induction a with
  | nil => simp [dpL]
  | cons x a ih => simp [dpL, ih, Nat.max_assoc]
theorem szL_len (es : List Ex) : es.length ≤ szL es := by
  induction es with
  | nil => simp [szL]
  | cons x a ih => have := szE_pos x; simp [szL]; omega
theorem szE_arg {es : List Ex} {a : Ex} (h : a ∈ es) : szE a ≤ szL es := by
  induction es with
  | nil => cases h
  | cons x r ih =>
    rcases List.mem_cons.1 h with rfl | h
    · simp [szL]
    · have := ih h; simp [szL]; omega
theorem dpE_arg {es : List Ex} {a : Ex} (h : a ∈ es) : dpE a ≤ dpL es := by
  induction es with
  | nil => cases h
  | cons x r ih =>
    rcases List.mem_cons.1 h with rfl | h
    · simp [dpL]; omega
    · have := ih h; simp [dpL]; omega

mutual
theorem dpE_le : ∀ e : Ex, dpE e ≤ szE e
  | .mk _ _ _ _ es => by have := dpL_le es; simp only [dpE, szE]; omega
theorem dpL_le : ∀ es : List Ex, dpL es ≤ szL es
  | [] => by simp [dpL, szL]
  | a :: r => by have := dpE_le a; have := dpL_le r; simp only [dpL, szL]; omega
end
theorem szL_take (es : List Ex) (n : Nat) : szL (es.take n) ≤ szL es := by
  conv => rhs; rw [← List.take_append_drop n es]
  rw [szL_app]
  omega
/-- What the reference's size returns: it stops above the limit. -/
def szR (e : Ex) (n : Nat) : Nat := min (n + szE e) 101

/-! ### Valid parts -/
def isLow (c : UInt8) : Bool := decide (97 ≤ c) && decide (c ≤ 122)
def isNmC (c : UInt8) : Bool := isLow c || (decide (48 ≤ c) && decide (c ≤ 57)) || c == 95
/-- Whether bytes are a name. -/
def nmB (s : ByteArray) : Bool := match s.data.toList with
  | [] => false
  | c :: r => decide (r.length + 1 ≤ 30) && isLow c && r.all isNmC
/-- Why a part with n arguments is not valid. -/
def prP (k o : Int) (s : ByteArray) (v : Int) (n : Nat) : Int :=
  if k < 1 ∨ 4 < k then 8
  else if (k ≠ 1 ∧ v ≠ 0) ∨ (k ≠ 2 ∧ s ≠ .empty) ∨ ((k = 1 ∨ k = 2) ∧ o ≠ 0) ∨ (n : Int) ≠ (if k = 3 then 1 else if k = 4 then 2 else 0) then 1
  else if v < 0 ∨ 1099511627776 < v then 2
  else if k = 2 ∧ nmB s = false then 5
  else if (k = 3 ∧ o ≠ 1 ∧ o ≠ 2) ∨ (k = 4 ∧ (o < 3 ∨ 15 < o)) then 8
  else 0
mutual
def prE : Ex → Int
  | .mk k o s v es => if prP k o s v es.length ≠ 0 then prP k o s v es.length else prL es
def prL : List Ex → Int
  | [] => 0
  | a :: r => if prE a ≠ 0 then prE a else prL r
end
/-- What Check returns. -/
def ckE (e : Ex) : Int := if 100 < szE e then 4 else if 12 < dpE e then 22 else prE e
theorem prL_app (a b : List Ex) : prL (a ++ b) = if prL a ≠ 0 then prL a else prL b := by
  induction a with
  | nil => simp [prL]
  | cons x a ih =>
    simp only [List.cons_append, prL, ih]
    by_cases h : prE x = 0 <;> simp [h]
theorem prL_zero {es : List Ex} : prL es = 0 ↔ ∀ a ∈ es, prE a = 0 := by
  induction es with
  | nil => simp [prL]
  | cons x r ih =>
    simp only [prL, List.mem_cons, forall_eq_or_imp]
    by_cases h : prE x = 0
    · simp [h, ih]
    · simp [h]
theorem prE_zero {k o : Int} {s : ByteArray} {v : Int} {es : List Ex} : prE (.mk k o s v es) = 0 ↔ prP k o s v es.length = 0 ∧ ∀ a ∈ es, prE a = 0 := by
  simp only [prE]
  by_cases h : prP k o s v es.length = 0
  · simp [h, prL_zero]
  · simp [h]
theorem ckE_ok {e : Ex} : ckE e = 0 ↔ szE e ≤ 100 ∧ dpE e ≤ 12 ∧ prE e = 0 := by
  unfold ckE
  by_cases h1 : 100 < szE e
  · rw [if_pos h1]
    exact ⟨fun h => (by cases h), fun h => (by omega)⟩
  · rw [if_neg h1]
    by_cases h2 : 12 < dpE e
    · rw [if_pos h2]
      exact ⟨fun h => (by cases h), fun h => (by omega)⟩
    · rw [if_neg h2]
      exact ⟨fun h => ⟨by omega, by omega, h⟩, fun h => h.2.2⟩
/-- The four shapes of a valid part. -/
theorem prP_zero {k o : Int} {s : ByteArray} {v : Int} {n : Nat} : prP k o s v n = 0 ↔
    (k = 1 ∧ o = 0 ∧ s = .empty ∧ 0 ≤ v ∧ v ≤ 1099511627776 ∧ n = 0) ∨ (k = 2 ∧ o = 0 ∧ nmB s = true ∧ v = 0 ∧ n = 0) ∨
    (k = 3 ∧ (o = 1 ∨ o = 2) ∧ s = .empty ∧ v = 0 ∧ n = 1) ∨ (k = 4 ∧ 3 ≤ o ∧ o ≤ 15 ∧ s = .empty ∧ v = 0 ∧ n = 2) := by
  unfold prP
  have hk : k < 1 ∨ 4 < k ∨ k = 1 ∨ k = 2 ∨ k = 3 ∨ k = 4 := by omega
  rcases hk with h | h | rfl | rfl | rfl | rfl
  · simp [h]; omega
  · simp [h]; omega
  · by_cases h1 : s = .empty <;> by_cases h2 : o = 0 <;> by_cases h3 : n = 0 <;> by_cases h4 : v < 0 ∨ 1099511627776 < v <;> simp_all <;> omega
  · by_cases h1 : nmB s = true <;> by_cases h2 : o = 0 <;> by_cases h3 : n = 0 <;> by_cases h4 : v = 0 <;> simp_all
  · by_cases h1 : s = .empty <;> by_cases h2 : o = 1 <;> by_cases h3 : o = 2 <;> by_cases h5 : n = 1 <;> by_cases h4 : v = 0 <;> simp_all <;> omega
  · by_cases h1 : s = .empty <;> by_cases h2 : o < 3 <;> by_cases h3 : 15 < o <;> by_cases h5 : n = 2 <;> by_cases h4 : v = 0 <;> simp_all <;> omega

/-! ### Bindings, types, values -/
abbrev Bd : Type := ByteArray × Int × Int
def zeroB : Bd := (.empty, 0, 0)
/-- The binding of a name. -/
def fdB : List Bd → ByteArray → Option Bd
  | [], _ => none
  | b :: r, s => if b.1 = s then some b else fdB r s
def tkO (o : Int) : Int := if o = 8 ∨ o = 9 then 0 else if o = 2 ∨ o = 14 ∨ o = 15 then 2 else 1
def gvO (o : Int) : Int := if o = 2 ∨ 8 ≤ o then 2 else 1
/-- The type of an operation. -/
def opT (o : Int) (ts : List Int) : Int × Int := if ts.all (fun t => decide (t = ts.headD 0 ∧ (tkO o = 0 ∨ t = tkO o))) = true then (gvO o, 0) else (0, 15)
def b2i (b : Bool) : Int := if b = true then 1 else 0
def bdV (n : Int) : Int × Int := if n < -1099511627776 ∨ 1099511627776 < n then (0, 14) else (n, 0)
/-- The value of an operation with two arguments. -/
def opW (o a b : Int) : Int × Int :=
  if o = 3 then bdV (a + b) else if o = 4 then bdV (a - b) else if o = 5 then bdV (a * b)
  else if o = 6 then (if b = 0 then (0, 24) else (a.tdiv b, 0)) else if o = 7 then (if b = 0 then (0, 24) else (a.tmod b, 0))
  else if o = 8 then (b2i (decide (a = b)), 0) else if o = 9 then (b2i (decide (a ≠ b)), 0)
  else if o = 10 then (b2i (decide (a < b)), 0) else if o = 11 then (b2i (decide (a ≤ b)), 0)
  else if o = 12 then (b2i (decide (b < a)), 0) else if o = 13 then (b2i (decide (b ≤ a)), 0)
  else if o = 14 then (b2i (decide (a = 1 ∧ b = 1)), 0) else (b2i (decide (a = 1 ∨ b = 1)), 0)
def opV (o : Int) (vs : List Int) : Int × Int := match vs with
  | [a] => if o = 1 then (-a, 0) else (1 - a, 0)
  | [a, b] => opW o a b
  | _ => (0, 0)
mutual
def cbE (lf : Int → ByteArray → Int → Int × Int) (op : Int → List Int → Int × Int) : Ex → Int × Int
  | .mk k o s v es => match cbL lf op es with
    | (xs, 0) => if es.length = 0 then lf k s v else op o xs
    | (_, x) => (0, x)
def cbL (lf : Int → ByteArray → Int → Int × Int) (op : Int → List Int → Int × Int) : List Ex → List Int × Int
  | [] => ([], 0)
  | a :: r => match cbE lf op a with
    | (x, 0) => match cbL lf op r with
      | (xs, 0) => (x :: xs, 0)
      | (_, y) => ([], y)
    | (_, y) => ([], y)
end
def lfT (l : List Bd) (k : Int) (s : ByteArray) (_ : Int) : Int × Int := if k = 1 then (1, 0) else match fdB l s with
  | none => (0, 7)
  | some b => (b.2.1, 0)
def lfV (l : List Bd) (k : Int) (s : ByteArray) (v : Int) : Int × Int := if k = 1 then (v, 0) else match fdB l s with
  | none => (0, 7)
  | some b => (b.2.2, 0)
def tyE (l : List Bd) (e : Ex) : Int × Int := cbE (lfT l) opT e
def vlE (l : List Bd) (e : Ex) : Int × Int := cbE (lfV l) opV e

/-! ### Folding and replacing -/
def numX (n : Int) : Ex := .mk 1 0 .empty n []
def litX (n : Int) : Ex := if n < 0 then .mk 3 1 .empty 0 [numX (-n)] else numX n
def cnE (e : Ex) : Option Ex := if tyE [] e = (1, 0) ∧ (vlE [] e).2 = 0 then some (litX (vlE [] e).1) else none
mutual
def rpE (f : Ex → Option Ex) : Ex → Ex
  | .mk k o s v es => match f (.mk k o s v es) with
    | some b => b
    | none => .mk k o s v (rpL f es)
def rpL (f : Ex → Option Ex) : List Ex → List Ex
  | [] => []
  | a :: r => rpE f a :: rpL f r
end
theorem rpL_length (f : Ex → Option Ex) (es : List Ex) : (rpL f es).length = es.length := by
  induction es with
  | nil => rfl
  | cons x r ih => simp [rpL, ih]
theorem rpL_app (f : Ex → Option Ex) (a b : List Ex) : rpL f (a ++ b) = rpL f a ++ rpL f b := by
  induction a with
  | nil => rfl
  | cons x r ih => simp [rpL, ih]
theorem rpL_map (f : Ex → Option Ex) (es : List Ex) : rpL f es = es.map (rpE f) := by
  induction es with
  | nil => rfl
  | cons x r ih => simp [rpL, ih]
def fldE (e : Ex) : Ex := rpE cnE e
def sbF (s : ByteArray) (b : Ex) (e : Ex) : Option Ex := if e.k = 2 ∧ e.s = s then some b else none
def sbE (s : ByteArray) (b e : Ex) : Ex := rpE (sbF s b) e
mutual
theorem rpE_none : ∀ e : Ex, rpE (fun _ => none) e = e
  | .mk k o s v es => by simp only [rpE]; rw [rpL_none es]
theorem rpL_none : ∀ es : List Ex, rpL (fun _ => none) es = es
  | [] => rfl
  | a :: r => by simp only [rpL]; rw [rpE_none a, rpL_none r]
end

/-! ### The same expressions -/
mutual
def eqE : Ex → Ex → Bool
  | .mk k o s v es, .mk k' o' s' v' es' => decide (k = k') && decide (o = o') && decide (s = s') && decide (v = v') && eqL es es'
def eqL : List Ex → List Ex → Bool
  | [], [] => true
  | a :: r, b :: r' => eqE a b && eqL r r'
  | _, _ => false
end
mutual
theorem eqE_iff : ∀ a b : Ex, eqE a b = true ↔ a = b
  | .mk k o s v es, .mk k' o' s' v' es' => by
    simp only [eqE, Bool.and_eq_true, decide_eq_true_eq, eqL_iff es es', Ex.mk.injEq]
    constructor
    · rintro ⟨⟨⟨⟨h1, h2⟩, h3⟩, h4⟩, h5⟩; exact ⟨h1, h2, h3, h4, h5⟩
    · rintro ⟨h1, h2, h3, h4, h5⟩; exact ⟨⟨⟨⟨h1, h2⟩, h3⟩, h4⟩, h5⟩
theorem eqL_iff : ∀ a b : List Ex, eqL a b = true ↔ a = b
  | [], [] => by simp [eqL]
  | [], b :: r => by simp [eqL]
  | a :: r, [] => by simp [eqL]
  | a :: r, b :: r' => by simp only [eqL, Bool.and_eq_true, eqE_iff a b, eqL_iff r r', List.cons.injEq]
end
theorem eqL_len : ∀ a b : List Ex, eqL a b = true → a.length = b.length
  | a, b, h => by rw [(eqL_iff a b).1 h]

end Go.Proofs.YtdgphhdkeikbaaaDoor

/-! ### ExMem: Expressions in memory. -/
namespace Go.Proofs.YtdgphhdkeikbaaaDoor
set_option linter.unusedSimpArgs false
set_option linter.unusedVariables false
open Go.RowKit

abbrev TX : TypeId := 26
theorem infoX : (Tryd.prog.info? TX).map (fun i => (i.zero, i.size, i.bytes)) = some (some (.agg #[.int .i64 0, .int .i64 0, .string .empty, .int .i64 0, .slice none 0 0]), 5, 64) := by kernel_rfl
/-- An expression's five cells; sl is the slice of its arguments. -/
def encX (e : Ex) (sl : Value) : List Value := [.int .i64 e.k, .int .i64 e.o, .string e.s, .int .i64 e.v, sl]
def exV (e : Ex) (sl : Value) : Value := .agg #[.int .i64 e.k, .int .i64 e.o, .string e.s, .int .i64 e.v, sl]
/-- The five cells of an expression at a place of a block. -/
def AtX (w : World) (b o : Nat) (e : Ex) (sl : Value) : Prop := w.cell? ⟨b, o, none⟩ = some (.int .i64 e.k) ∧ w.cell? ⟨b, o + 1, none⟩ = some (.int .i64 e.o) ∧ w.cell? ⟨b, o + 2, none⟩ = some (.string e.s) ∧ w.cell? ⟨b, o + 3, none⟩ = some (.int .i64 e.v) ∧ w.cell? ⟨b, o + 4, none⟩ = some sl
theorem AtX.keep {w w' : World} {b o : Nat} {e : Ex} {sl : Value} (h : AtX w b o e sl) (hb : w'.heap[b]? = w.heap[b]?) : AtX w' b o e sl := by
  obtain ⟨h0, h1, h2, h3, h4⟩ := h
  exact ⟨(World.cell?_of_block hb).trans h0, (World.cell?_of_block hb).trans h1, (World.cell?_of_block hb).trans h2, (World.cell?_of_block hb).trans h3, (World.cell?_of_block hb).trans h4⟩
theorem AtX.lt {w : World} {b o : Nat} {e : Ex} {sl : Value} (h : AtX w b o e sl) : b < w.heap.size := World.block_lt_of_cell? _ _ h.1

/-- A slice value that leads to these expressions, in blocks that φ allows. -/
inductive KA (φ : Nat → Prop) (w : World) : List Ex → Value → Prop where
  | mk (es : List Ex) (a : Option Addr) (c : Nat) (sl : Nat → Value) (h1 : es.length ≤ c) (h2 : c ≤ 9223372036854775807)
      (hc : ∀ j, j < es.length → ∃ b off, a = some ⟨b, off, none⟩ ∧ φ b ∧ b < w.heap.size ∧ AtX w b (off + j * 5) (ga es j) (sl j))
      (hs : ∀ j, j < es.length → KA φ w (ga es j).es (sl j)) : KA φ w es (.slice a es.length c)
theorem KA.keepC {φ ψ : Nat → Prop} {w w' : World} {es : List Ex} {v : Value} (h : KA φ w es v) (hs : w.heap.size ≤ w'.heap.size) (hk : ∀ b, b < w.heap.size → φ b → (∃ o u, w.cell? ⟨b, o, none⟩ = some u) → ψ b ∧ w'.heap[b]? = w.heap[b]?) : KA ψ w' es v := by
  induction h with
  | mk es a c sl h1 h2 hc _ ih =>
    refine .mk es a c sl h1 h2 (fun j hj => ?_) ih
    obtain ⟨b, off, e1, e2, e3, e4⟩ := hc j hj
    have hk := hk b e3 e2 ⟨_, _, e4.1⟩
    exact ⟨b, off, e1, hk.1, by omega, e4.keep hk.2⟩
theorem KA.keep {φ ψ : Nat → Prop} {w w' : World} {es : List Ex} {v : Value} (h : KA φ w es v) (hs : w.heap.size ≤ w'.heap.size) (hk : ∀ b, b < w.heap.size → φ b → ψ b ∧ w'.heap[b]? = w.heap[b]?) : KA ψ w' es v := by
  induction h with
  | mk es a c sl h1 h2 hc _ ih =>
    refine .mk es a c sl h1 h2 (fun j hj => ?_) ih
    obtain ⟨b, off, e1, e2, e3, e4⟩ := hc j hj
    exact ⟨b, off, e1, (hk b e3 e2).1, by omega, e4.keep (hk b e3 e2).2⟩
theorem KA.mono {φ ψ : Nat → Prop} {w : World} {es : List Ex} {v : Value} (h : KA φ w es v) (hk : ∀ b, b < w.heap.size → φ b → ψ b) : KA ψ w es v := h.keep (Nat.le_refl _) (fun b h1 h2 => ⟨hk b h1 h2, rfl⟩)
theorem KA.carry {φ : Nat → Prop} {w w' : World} {es : List Ex} {v : Value} (h : KA φ w es v) (hb : Below w.heap.size w w') : KA φ w' es v := h.keep hb.size (fun b h1 h2 => ⟨h2, hb.block b h1⟩)
theorem KA.nil (φ : Nat → Prop) (w : World) (a : Option Addr) (c : Nat) (hc : c ≤ 9223372036854775807) : KA φ w [] (.slice a 0 c) := .mk [] a c (fun _ => undef) (Nat.zero_le _) hc (fun j hj => by simp at hj) (fun j hj => by simp at hj)
theorem KA.inv {φ : Nat → Prop} {w : World} {es : List Ex} {v : Value} (h : KA φ w es v) : ∃ (a : Option Addr) (c : Nat) (sl : Nat → Value), v = .slice a es.length c ∧ es.length ≤ c ∧ c ≤ 9223372036854775807 ∧ ∀ j, j < es.length → KA φ w (ga es j).es (sl j) ∧ ∃ b off, a = some ⟨b, off, none⟩ ∧ φ b ∧ b < w.heap.size ∧ AtX w b (off + j * 5) (ga es j) (sl j) := by
  cases h with
  | mk es a c sl h1 h2 hc hs => exact ⟨a, c, sl, rfl, h1, h2, fun j hj => ⟨hs j hj, hc j hj⟩⟩
theorem KA.at_ {φ : Nat → Prop} {w : World} {es : List Ex} {a : Option Addr} {n c : Nat} (h : KA φ w es (.slice a n c)) : ∃ sl : Nat → Value, ∀ j, j < es.length → KA φ w (ga es j).es (sl j) ∧ ∃ b off, a = some ⟨b, off, none⟩ ∧ φ b ∧ b < w.heap.size ∧ AtX w b (off + j * 5) (ga es j) (sl j) := by
  cases h with
  | mk es a c sl h1 h2 hc hs => exact ⟨sl, fun j hj => ⟨hs j hj, hc j hj⟩⟩
def anyB : Nat → Prop := fun _ => True
/-- What is known of an expression's value: the slice of its arguments leads to them. -/
abbrev KX (w : World) (e : Ex) (sl : Value) : Prop := KA anyB w e.es sl
theorem KA.known {φ : Nat → Prop} {w : World} {es : List Ex} {v : Value} (h : KA φ w es v) : KA anyB w es v := h.mono fun _ _ _ => trivial
theorem boxX (w : World) (k o : Int) (s : ByteArray) (v : Int) (sl : Value) (es : List Ex) : AtX (w.alloc (.cells #[.int .i64 k, .int .i64 o, .string s, .int .i64 v, sl] TX)) w.heap.size 0 (.mk k o s v es) sl := by
  refine ⟨?_, ?_, ?_, ?_, ?_⟩ <;> (try simp only [Ex.k, Ex.o, Ex.s, Ex.v]) <;> go_simp

/-! ### Facts in the walk's spelling -/
theorem drewB {B n : Nat} {a b : World} (h : Below B a b) : Below B a (b.drewN n) := ⟨h.os, h.tape, h.output, h.size, h.block⟩
theorem ieq {a b : Int} (h : a = b) : (a == b) = true ∧ (a != b) = false := by simp [h]
theorem ine {a b : Int} (h : ¬ a = b) : (a == b) = false ∧ (a != b) = true := by simp [h]
theorem neq_len {n m : Nat} (h : ¬ n = m) : ((n : Int) == (m : Int)) = false ∧ ((n : Int) != (m : Int)) = true := ine (by omega)
theorem eq_len {n m : Nat} (h : n = m) : ((n : Int) == (m : Int)) = true ∧ ((n : Int) != (m : Int)) = false := ieq (by omega)
theorem emp_yes {s : ByteArray} (h : s = .empty) : s.toList.isEmpty = true ∧ (!s.toList.isEmpty) = false := by
  subst h
  have : ByteArray.empty.toList.isEmpty = true := by rw [ByteArray.toList_eq]; rfl
  simp [this]
theorem emp_no {s : ByteArray} (h : ¬ s = .empty) : s.toList.isEmpty = false ∧ (!s.toList.isEmpty) = true := by
  have : s.toList.isEmpty = false := by
    rw [ByteArray.toList_eq]
    cases s with
    | mk d =>
      cases d with
      | mk l =>
        cases l with
        | nil => exact absurd rfl h
        | cons c r => rfl
  simp [this]
theorem str_yes {s t : ByteArray} (h : s = t) : (s.data.toList == t.data.toList) = true ∧ (s.data.toList != t.data.toList) = false ∧ (s.toList == t.toList) = true := by subst h; simp
theorem str_no {s t : ByteArray} (h : ¬ s = t) : (s.data.toList == t.data.toList) = false ∧ (s.data.toList != t.data.toList) = true ∧ (s.toList == t.toList) = false := by
  have : ¬ s.data.toList = t.data.toList := fun e => h (by cases s; cases t; simp at e; subst e; rfl)
  rw [ByteArray.toList_eq, ByteArray.toList_eq]
  simp only [bne, beq_eq_false_iff_ne, Bool.not_eq_true']
  exact ⟨by simpa using this, by simpa using this, by simpa using this⟩

end Go.Proofs.YtdgphhdkeikbaaaDoor

/-! ### ExInts: Rows of integers of the call's own: appending. -/
namespace Go.Proofs.YtdgphhdkeikbaaaDoor
set_option linter.unusedSimpArgs false
set_option linter.unusedVariables false
open Go.RowKit

theorem cell_laterZ {w w' : World} {p : Addr} {v : Value} (hb : Below w.heap.size w w') (h : w.cell? p = some v) : w'.cell? p = some v := (hb.cell (World.block_lt_of_cell? _ _ h)).trans h
theorem grown_ofZ {w w' : World} (h : Below w.heap.size w w') (row : Option Nat) : w.grownBy w' row := ⟨h.os, h.tape, h.output, h.size, fun k hk _ => h.block k hk⟩
theorem OwnZ.below {B : Nat} {o : List Int} {v : Value} {w w' : World} (h : OwnZ B o v w) (hb : Below w.heap.size w w') : OwnZ B o v w' := World.ownsRow.kept (show w.ownsRow B TZ 1 v o.length (intV o) from h) (grown_ofZ hb none) (by cases v.ownBlock <;> simp)
theorem OwnZ.lt {B : Nat} {o : List Int} {v : Value} {w : World} (h : OwnZ B o v w) : ∀ k, v.ownBlock = some k → B ≤ k ∧ k < w.heap.size := fun k e => World.ownsRow.lt (show w.ownsRow B TZ 1 v o.length (intV o) from h) k e
theorem below_drewZ {B n : Nat} {a b : World} (h : Below B a b) : Below B a (b.drewN n) := ⟨h.os, h.tape, h.output, h.size, h.block⟩
theorem made_rowZ {V : World} {B x : Nat} (h : V.heap[x]? = some (.cells #[] TZ (0, 0))) (hB : B ≤ x) : OwnZ B [] (.slice (some ⟨x, 0, none⟩) 0 0) V := ⟨rfl, .inr ⟨x, 0, #[], rfl, hB, h, Nat.le_refl _, Nat.zero_le _, rfl, rfl⟩⟩

/-- One integer more in a row, out of a block of its own. -/
theorem append_oneZ (W : World) (B : Nat) (v : Value) (o : List Int) (x : Int) (y : Nat) (hO : OwnZ B o v W) (hy : W.heap[y]? = some (.cells #[.int .i64 x] TZ (0, 0))) (hl : o.length ≤ 10000) (hBW : B ≤ W.heap.size) :
    ∃ v' w', (Builtin.append_ #[102, 102] 102 #[v, .slice (some ⟨y, 0, none⟩) 1 1]).run Tryd.prog W = .ok v' w' ∧ OwnZ B (o ++ [x]) v' w' ∧ W.grownBy w' v.ownBlock ∧ Below B W w' := by
  obtain ⟨i3, ki, kz0, kz1, kz2⟩ := info_parts infoZ
  have hr : W.ownsRow B TZ 1 v o.length (intV o) := hO
  have hc : ∀ j u, (intV [x])[j]? = some u → W.cell? ((⟨y, 0, none⟩ : Addr).add j) = some u := by
    intro j u hj
    have hlt : j < (intV [x]).length := (List.getElem?_eq_some_iff.1 hj).1
    rw [intV_length] at hlt
    obtain rfl : j = 0 := by simpa using hlt
    rw [Addr.add_lit, Lib.cell_of_heap hy, ← hj]
    rfl
  obtain ⟨v', w', h1, h2, h3, h4⟩ := run_append_own (P := Tryd.prog) W B 102 102 TZ i3 (.int .i64 0) 1 8 Tryd.underlying102 ki kz0 kz1 kz2 rfl (by decide) _ _ _ hr ⟨y, 0, none⟩ 1 1 (intV [x]) rfl hc (intV_one _) (by unfold maxLen; omega) (by omega) hBW
  refine ⟨v', w', h1, ?_, h3, (Below.refl B W).grown h3 hBW (fun k e => (World.ownsRow.lt hr k e).1)⟩
  unfold OwnZ
  rw [List.length_append, show intV (o ++ [x]) = intV o ++ intV [x] by simp [intV]]
  exact h2

end Go.Proofs.YtdgphhdkeikbaaaDoor

/-! ### ExComb: The walk over the parts: argument by argument; the type of an operation by the wanted one. -/
namespace Go.Proofs.YtdgphhdkeikbaaaDoor
set_option linter.unusedSimpArgs false
set_option linter.unusedVariables false

section
variable (lf : Int → ByteArray → Int → Int × Int) (op : Int → List Int → Int × Int)
theorem cbL_cons (a : Ex) (r : List Ex) : cbL lf op (a :: r) = if (cbE lf op a).2 ≠ 0 then ([], (cbE lf op a).2) else if (cbL lf op r).2 ≠ 0 then ([], (cbL lf op r).2) else ((cbE lf op a).1 :: (cbL lf op r).1, 0) := by
  simp only [cbL]
  rcases h : cbE lf op a with ⟨x, y⟩
  rcases h2 : cbL lf op r with ⟨xs, z⟩
  by_cases hy : y = 0
  · subst hy
    by_cases hz : z = 0
    · subst hz; simp
    · simp [hz]
  · simp [hy]
theorem cbL_nil : cbL lf op [] = ([], 0) := by simp [cbL]
/-- One argument more. -/
theorem cbL_snoc (es : List Ex) (a : Ex) (h : (cbL lf op es).2 = 0) : cbL lf op (es ++ [a]) = if (cbE lf op a).2 ≠ 0 then ([], (cbE lf op a).2) else ((cbL lf op es).1 ++ [(cbE lf op a).1], 0) := by
  induction es with
  | nil =>
    rw [List.nil_append, cbL_cons, cbL_nil]
    by_cases h : (cbE lf op a).2 = 0 <;> simp [h]
  | cons b r ih =>
    rw [cbL_cons] at h
    by_cases hb : (cbE lf op b).2 = 0
    · rw [if_neg (by simpa using hb)] at h
      by_cases hr : (cbL lf op r).2 = 0
      · rw [List.cons_append, cbL_cons, cbL_cons, ih hr]
        by_cases ha : (cbE lf op a).2 = 0 <;> simp [ha, hb, hr]
      · rw [if_pos hr] at h
        exact absurd h hr
    · rw [if_pos hb] at h
      exact absurd h hb
theorem cbL_bad (es fs : List Ex) (h : (cbL lf op es).2 ≠ 0) : cbL lf op (es ++ fs) = ([], (cbL lf op es).2) := by
  induction es with
  | nil => rw [cbL_nil] at h; exact absurd rfl h
  | cons b r ih =>
    rw [List.cons_append, cbL_cons, cbL_cons]
    rw [cbL_cons] at h
    by_cases hb : (cbE lf op b).2 = 0
    · simp only [hb, ne_eq, not_true_eq_false, if_false] at h ⊢
      by_cases hr : (cbL lf op r).2 = 0
      · simp [hr] at h
      · rw [ih hr]
        simp [hr]
    · simp [hb]
theorem cbL_stop {es : List Ex} {j : Nat} {zs : List Int} {x : Int} (h : cbL lf op (es.take j) = (zs, 0)) (hj : j < es.length) (hx : (cbE lf op (ga es j)).2 = x) (h0 : x ≠ 0) : cbL lf op es = ([], x) := by
  have h1 := cbL_snoc lf op (es.take j) (ga es j) (by rw [h])
  rw [hx, if_pos h0] at h1
  have h2 := cbL_bad lf op (es.take j ++ [ga es j]) (es.drop (j + 1)) (by rw [h1]; exact h0)
  rw [← take_snocX es j hj, List.take_append_drop, take_snocX es j hj, h1] at h2
  exact h2
theorem cbL_next {es : List Ex} {j : Nat} {zs : List Int} (h : cbL lf op (es.take j) = (zs, 0)) (hj : j < es.length) (h0 : (cbE lf op (ga es j)).2 = 0) : cbL lf op (es.take (j + 1)) = (zs ++ [(cbE lf op (ga es j)).1], 0) := by
  rw [take_snocX es j hj, cbL_snoc lf op _ _ (by rw [h]), if_neg (by simpa using h0), h]
theorem cbL_length : ∀ (es : List Ex) (zs : List Int), cbL lf op es = (zs, 0) → zs.length = es.length
  | [], zs, h => by rw [cbL_nil] at h; injection h with h1; subst h1; rfl
  | a :: r, zs, h => by
    rw [cbL_cons] at h
    by_cases ha : (cbE lf op a).2 = 0
    · rw [if_neg (by simpa using ha)] at h
      by_cases hr : (cbL lf op r).2 = 0
      · rw [if_neg (by simpa using hr)] at h
        injection h with h1
        subst h1
        simp [cbL_length r (cbL lf op r).1 (by rw [← hr])]
      · rw [if_pos hr] at h
        injection h with h1 h2
        exact absurd h2 hr
    · rw [if_pos ha] at h
      injection h with h1 h2
      exact absurd h2 ha
theorem cbE_mk (k o : Int) (s : ByteArray) (v : Int) (es : List Ex) : cbE lf op (.mk k o s v es) = if (cbL lf op es).2 ≠ 0 then (0, (cbL lf op es).2) else if es.length = 0 then lf k s v else op o (cbL lf op es).1 := by
  simp only [cbE]
  rcases h : cbL lf op es with ⟨xs, y⟩
  by_cases hy : y = 0
  · subst hy; simp
  · simp [hy]
end

/-! ### The wanted type -/
def wtO (o : Int) (ts : List Int) : Int := if o = 8 ∨ o = 9 then ts.headD 0 else if o = 2 ∨ o = 14 ∨ o = 15 then 2 else 1
theorem opT_wt (o : Int) (ts : List Int) (h : ts ≠ []) : opT o ts = if ts.all (fun t => decide (t = wtO o ts)) = true then (gvO o, 0) else (0, 15) := by
  unfold opT
  have key : ts.all (fun t => decide (t = ts.headD 0 ∧ (tkO o = 0 ∨ t = tkO o))) = ts.all (fun t => decide (t = wtO o ts)) := by
    obtain ⟨t0, r, rfl⟩ : ∃ t0 r, ts = t0 :: r := by
      cases ts with
      | nil => exact absurd rfl h
      | cons a b => exact ⟨a, b, rfl⟩
    by_cases h8 : o = 8 ∨ o = 9
    · have h1 : tkO o = 0 := by unfold tkO; rw [if_pos h8]
      have h2 : wtO o (t0 :: r) = t0 := by unfold wtO; rw [if_pos h8]; rfl
      simp [h1, h2]
    · have h1 : tkO o = wtO o (t0 :: r) := by unfold tkO wtO; rw [if_neg h8, if_neg h8]
      have h3 : ¬ tkO o = 0 := by unfold tkO; rw [if_neg h8]; split <;> decide
      rw [← h1]
      generalize tkO o = q at *
      rw [Bool.eq_iff_iff]
      simp only [List.all_cons, List.headD_cons, Bool.and_eq_true, decide_eq_true_eq, List.all_eq_true, h3, false_or, true_and]
      constructor
      · rintro ⟨h4, h5⟩
        exact ⟨h4, fun x hx => (h5 x hx).2⟩
      · rintro ⟨h4, h5⟩
        exact ⟨h4, fun x hx => ⟨by rw [h5 x hx, h4], h5 x hx⟩⟩
  rw [key]
theorem all_wt {ts : List Int} {q : Int} : ts.all (fun t => decide (t = q)) = true ↔ ∀ j, j < ts.length → gz ts j = q := by
  rw [List.all_eq_true]
  constructor
  · intro h j hj
    have := h ts[j] (List.getElem_mem hj)
    simpa [gz, hj] using this
  · intro h x hx
    obtain ⟨j, hj, rfl⟩ := List.mem_iff_getElem.1 hx
    have := h j hj
    simpa [gz, hj] using this

end Go.Proofs.YtdgphhdkeikbaaaDoor
