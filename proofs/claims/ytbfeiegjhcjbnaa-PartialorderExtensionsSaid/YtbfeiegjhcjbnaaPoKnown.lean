/-
  What is known of a result of partialorder's functions, however it lies in memory: the numbers, the lists, the pairs that it leads to.
-/
import Derived.Test.YtbfeiegjhcjbnaaPoSame
import Derived.Test.YtbfeiegjhcjbnaaPoExtF
namespace Go.Proofs.Ytbfeiegjhcjbnaa
open Go.RowKit

def intsOf (l : List Nat) : List Int := l.map fun (x : Nat) => (x : Int)
theorem intsOf_length (l : List Nat) : (intsOf l).length = l.length := by simp [intsOf]
def edgesOf (l : List (Nat × Nat)) : List (Int × Int) := l.map fun e => ((e.1 : Int), (e.2 : Int))
theorem edgesOf_length (l : List (Nat × Nat)) : (edgesOf l).length = l.length := by simp [edgesOf]
def listsOf (ll : List (List Nat)) : List (List Int) := ll.map intsOf
theorem listsOf_length (ll : List (List Nat)) : (listsOf ll).length = ll.length := by simp [listsOf]
theorem edV_get (l : List (Nat × Nat)) : ∀ j (h : j < l.length), (edV l)[j * 2]? = some (.int .i64 (l[j].1 : Int)) ∧ (edV l)[j * 2 + 1]? = some (.int .i64 (l[j].2 : Int)) := by
  induction l with
  | nil => intro j h; simp at h
  | cons x xs ih =>
    intro j h
    have e : edV (x :: xs) = [.int .i64 (x.1 : Int), .int .i64 (x.2 : Int)] ++ edV xs := by simp [edV]
    match j with
    | 0 => rw [e]; exact ⟨rfl, rfl⟩
    | j + 1 =>
      have h' : j < xs.length := by simp at h; omega
      obtain ⟨h1, h2⟩ := ih j h'
      rw [e, show (j + 1) * 2 = j * 2 + 2 from by omega]
      exact ⟨by simpa using h1, by simpa using h2⟩
theorem gN_edgesOf (l : List (Nat × Nat)) : gN (edgesOf l) = l := by
  unfold gN edgesOf
  rw [List.map_map]
  conv => rhs; rw [← List.map_id l]
  exact List.map_congr_left (fun e _ => Prod.ext (Int.toNat_natCast _) (Int.toNat_natCast _))
theorem edgesOf_inj {a b : List (Nat × Nat)} (h : edgesOf a = edgesOf b) : a = b := by rw [← gN_edgesOf a, h, gN_edgesOf]

/-- A slice value that leads to these pairs, and that may be cut to its length. -/
def EdgesC (w : World) (v : Value) (l : List (Nat × Nat)) : Prop := ∃ a c, v = .slice a (edgesOf l).length c ∧ EdgesA w.heap.size w a (edgesOf l) ∧ (edgesOf l).length ≤ 9223372036854775807 ∧ (edgesOf l).length ≤ c
def IntsC (w : World) (v : Value) (l : List Nat) : Prop := ∃ a c, v = .slice a (intsOf l).length c ∧ IntsA w.heap.size w a (intsOf l) ∧ (intsOf l).length ≤ 9223372036854775807
def ListsC (w : World) (v : Value) (ll : List (List Nat)) : Prop := ∃ a c, v = .slice a (listsOf ll).length c ∧ ListsA w.heap.size w a (listsOf ll) ∧ (listsOf ll).length ≤ 9223372036854775807
theorem EdgesC.below {w w' : World} {v : Value} {l : List (Nat × Nat)} (h : EdgesC w v l) (hb : Below w.heap.size w w') : EdgesC w' v l := by
  obtain ⟨a, c, e, hi, hl⟩ := h
  exact ⟨a, c, e, (hi.below hb).mono hb.size, hl⟩
theorem IntsC.below {w w' : World} {v : Value} {l : List Nat} (h : IntsC w v l) (hb : Below w.heap.size w w') : IntsC w' v l := by
  obtain ⟨a, c, e, hi, hl⟩ := h
  exact ⟨a, c, e, (hi.below hb).mono hb.size, hl⟩
theorem ListsC.below {w w' : World} {v : Value} {ll : List (List Nat)} (h : ListsC w v ll) (hb : Below w.heap.size w w') : ListsC w' v ll := by
  obtain ⟨a, c, e, hi, hl⟩ := h
  exact ⟨a, c, e, (hi.below hb).mono hb.size, hl⟩
theorem OwnE.known {B : Nat} {l : List (Nat × Nat)} {v : Value} {w : World} (h : OwnE B l v w) : EdgesC w v l := by
  have h : w.ownsRow B TE 2 v l.length (edV l) := h
  by_cases hv : v = .slice none 0 0
  · have hl : l = [] := by
      rcases h.2 with ⟨_, e⟩ | ⟨g, cap, cur, e, _⟩
      · exact List.eq_nil_of_length_eq_zero e
      · rw [hv] at e; cases e
    subst hl
    exact ⟨none, 0, hv, fun j hj => by simp [edgesOf] at hj, by simp [edgesOf], by simp [edgesOf]⟩
  · obtain ⟨g, cap, rfl⟩ := ownsRow_some h hv
    obtain ⟨a', c', e', hc1, hc2⟩ := own_sliceS h
    injection e' with _ e2 e3
    refine ⟨_, cap, by rw [edgesOf_length], fun j hj => ⟨g, 0, rfl, (World.ownsRow.lt h g rfl).2, ?_, ?_⟩, by rw [edgesOf_length]; omega, by rw [edgesOf_length]; omega⟩
    · rw [edgesOf_length] at hj
      rw [Nat.zero_add, World.ownsRow.cellAt h _ (by omega), (edV_get l j hj).1, edgesOf, List.getElem?_map, List.getElem?_eq_getElem hj]
      rfl
    · rw [edgesOf_length] at hj
      rw [Nat.zero_add, World.ownsRow.cellAt h _ (by omega), (edV_get l j hj).2, edgesOf, List.getElem?_map, List.getElem?_eq_getElem hj]
      rfl
theorem OwnN.known {B : Nat} {l : List Nat} {v : Value} {w : World} (h : OwnN B l v w) : IntsC w v l := by
  have h : w.ownsRow B TI 1 v l.length (natV l) := h
  by_cases hv : v = .slice none 0 0
  · have hl : l = [] := by
      rcases h.2 with ⟨_, e⟩ | ⟨g, cap, cur, e, _⟩
      · exact List.eq_nil_of_length_eq_zero e
      · rw [hv] at e; cases e
    subst hl
    exact ⟨none, 0, hv, fun j hj => by simp [intsOf] at hj, by simp [intsOf]⟩
  · obtain ⟨g, cap, rfl⟩ := ownsRow_some h hv
    obtain ⟨a', c', e', hc1, hc2⟩ := own_sliceS h
    injection e' with _ e2 e3
    refine ⟨_, cap, by rw [intsOf_length], fun j hj => ⟨g, 0, rfl, (World.ownsRow.lt h g rfl).2, ?_⟩, by rw [intsOf_length]; omega⟩
    rw [intsOf_length] at hj
    rw [Nat.zero_add, World.ownsRow.cellAt h j (by omega), natV, intsOf, List.getElem?_map, List.getElem?_map, List.getElem?_eq_getElem hj]
    rfl
theorem ElR.known {B : Nat} {x : List Nat} {v : Value} {w : World} (h : ElR B x v w) : IntsC w v x := by
  rcases h with ⟨rfl, rfl⟩ | ⟨G, c, rfl, ho⟩
  · exact ⟨none, 0, rfl, fun j hj => by simp [intsOf] at hj, by simp [intsOf]⟩
  · exact OwnN.known ho
theorem LisR.known {B : Nat} {ll : List (List Nat)} {v : Value} {vs : List Value} {w : World} (h : LisR B ll v vs w) : ListsC w v ll := by
  obtain ⟨ho, hl, hi⟩ := h
  by_cases hv : v = .slice none 0 0
  · have hl : ll = [] := by
      rcases ho.2 with ⟨_, e⟩ | ⟨g, cap, cur, e, _⟩
      · exact List.eq_nil_of_length_eq_zero e
      · rw [hv] at e; cases e
    subst hl
    exact ⟨none, 0, hv, fun j hj => by simp [listsOf] at hj, by simp [listsOf]⟩
  · obtain ⟨g, cap, rfl⟩ := ownsRow_some ho hv
    obtain ⟨a', c', e', hc1, hc2⟩ := own_sliceS ho
    injection e' with _ e2 e3
    refine ⟨_, cap, by rw [listsOf_length], fun i hil => ?_, by rw [listsOf_length]; omega⟩
    rw [listsOf_length] at hil
    obtain ⟨x, hx⟩ : ∃ x, vs[i]? = some x := ⟨_, List.getElem?_eq_getElem (by omega)⟩
    obtain ⟨a, c, rfl, hI, hn⟩ := (hi i _ x (List.getElem?_eq_getElem hil) hx).known
    have hel : elL (listsOf ll) i = intsOf ll[i] := by simp [elL, listsOf, hil]
    rw [hel]
    refine ⟨g, 0, a, c, rfl, (World.ownsRow.lt ho g rfl).2, ?_, hI, hn⟩
    rw [Nat.zero_add, World.ownsRow.cellAt ho i (by omega), hx]

/-- A call that returns pairs and an error, numbers and an error, lists and an error. -/
def RetEC (l : List (Nat × Nat)) (x : Int) (w : World) (e : Ending) (w' : World) : Prop := ∃ v, e = .returned (.tuple #[v, .int .i64 x]) ∧ EdgesC w' v l ∧ Below w.heap.size w w'
def RetIC (l : List Nat) (x : Int) (w : World) (e : Ending) (w' : World) : Prop := ∃ v, e = .returned (.tuple #[v, .int .i64 x]) ∧ IntsC w' v l ∧ Below w.heap.size w w'
def RetLC (ll : List (List Nat)) (x : Int) (w : World) (e : Ending) (w' : World) : Prop := ∃ v, e = .returned (.tuple #[v, .int .i64 x]) ∧ ListsC w' v ll ∧ Below w.heap.size w w'
theorem myCheck (n : Int) (ad : Option Addr) (cap : Nat) (es : List (Int × Int)) (w : World) (hE : EdgesA w.heap.size w ad es) (hl : es.length ≤ 9223372036854775807) :
    Calls Try.prog 14 #[.int .i64 n, .slice ad es.length cap] w fun e w' => e = .returned (.int .i64 (poE n es)) ∧ Below w.heap.size w w' := devCheck_any n ad cap es w hE hl
theorem myGenerate (n : Int) (ad : Option Addr) (cap : Nat) (es : List (Int × Int)) (w : World) (hE : EdgesA w.heap.size w ad es) (hl : es.length ≤ 9223372036854775807) :
    Calls Try.prog 21 #[.int .i64 n, .slice ad es.length cap] w (RetEC (genL n es) (genE n es) w) := by
  refine (generate_any n ad cap es w hE hl).mono ?_
  rintro e w1 ⟨v, rfl, hr, b1⟩
  exact ⟨v, rfl, hr.known, b1⟩
theorem myCovers (n : Int) (ad : Option Addr) (cap : Nat) (es : List (Int × Int)) (w : World) (hE : EdgesA w.heap.size w ad es) (hl : es.length ≤ 9223372036854775807) :
    Calls Try.prog 23 #[.int .i64 n, .slice ad es.length cap] w (RetEC (covL n es) (poE n es) w) := by
  refine (covers_any n ad cap es w hE hl).mono ?_
  rintro e w1 ⟨v, rfl, hr, b1⟩
  exact ⟨v, rfl, hr.known, b1⟩
theorem myConcurrent (n : Int) (ad : Option Addr) (cap : Nat) (es : List (Int × Int)) (w : World) (hE : EdgesA w.heap.size w ad es) (hl : es.length ≤ 9223372036854775807) :
    Calls Try.prog 19 #[.int .i64 n, .slice ad es.length cap] w fun e w' => ∃ v, e = .returned v ∧ EdgesC w' v (conL n es) ∧ Below w.heap.size w w' := by
  refine (concurrent_any n ad cap es w hE hl).mono ?_
  rintro e w1 ⟨v, rfl, hr, b1⟩
  exact ⟨v, rfl, hr.known, b1⟩
theorem myExtensions (n most : Int) (ad : Option Addr) (cap : Nat) (es : List (Int × Int)) (w : World) (hE : EdgesA w.heap.size w ad es) (hl : es.length ≤ 9223372036854775807) :
    Calls Try.prog 28 #[.int .i64 n, .slice ad es.length cap, .int .i64 most] w (RetLC (exsL n es most) (exsE n es most) w) := by
  refine (extensionsF_any n most ad cap es w hE hl).mono ?_
  rintro e w1 ⟨v, vs, rfl, hr, b1⟩
  exact ⟨v, rfl, hr.known, b1⟩

/-- Of a slice value that is known: the two functions of the statements that compare. -/
theorem same_known (u v : Value) (k l : List (Nat × Nat)) (w : World) (hu : EdgesC w u k) (hv : EdgesC w v l) :
    Calls Try.prog 18 #[u, v] w fun e w' => e = .returned (.bool (decide (k = l))) ∧ Below w.heap.size w w' := by
  obtain ⟨a, c, rfl, ha, h1, _⟩ := hu
  obtain ⟨b, d, rfl, hb, h2, _⟩ := hv
  refine (same_any _ _ a b c d _ _ w ha hb h1 h2).mono ?_
  rintro e w' ⟨rfl, q, rfl⟩
  refine ⟨?_, below_drewN' (Below.refl _ _)⟩
  by_cases h : k = l
  · subst h; simp
  · rw [decide_eq_false h, decide_eq_false (fun e => h (edgesOf_inj e))]

end Go.Proofs.Ytbfeiegjhcjbnaa
