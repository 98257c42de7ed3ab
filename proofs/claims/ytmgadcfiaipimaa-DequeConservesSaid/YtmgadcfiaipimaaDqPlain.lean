/-
  Deques: which lists are valid; pushing, popping, stealing; playing operations. Plain mathematics.
-/
import Derived.Test.YtmgadcfiaipimaaVcMem
namespace Go.Proofs.Ytmgadcfiaipimaa

/-- Why a task cannot stand behind others. -/
def dnE (o : List Int) (x : Int) : Int := if x < 0 ∨ 16 ≤ x then 2 else if x ∈ o then 6 else 0
theorem dnE_iff {o : List Int} {x : Int} : dnE o x = 0 ↔ (0 ≤ x ∧ x < 16) ∧ x ∉ o := by
  unfold dnE
  by_cases h : x < 0 ∨ 16 ≤ x
  · rw [if_pos h]
    exact ⟨fun e => (by cases e), fun e => by omega⟩
  · rw [if_neg h]
    by_cases h2 : x ∈ o
    · rw [if_pos h2]
      exact ⟨fun e => (by cases e), fun e => absurd h2 e.2⟩
    · rw [if_neg h2]
      exact ⟨fun _ => ⟨by omega, h2⟩, fun _ => rfl⟩
/-- The first error among the first elements. -/
def fsE (l : List Int) : Nat → Int
  | 0 => 0
  | k + 1 => if fsE l k = 0 then dnE (l.take k) (gz l k) else fsE l k
theorem fsE_stay {l : List Int} {k m : Nat} (h : fsE l k ≠ 0) (hm : k ≤ m) : fsE l m = fsE l k := by
  induction m with
  | zero =>
    obtain rfl : k = 0 := by omega
    rfl
  | succ m ih =>
    by_cases e : k = m + 1
    · rw [e]
    · have := ih (by omega)
      rw [fsE, if_neg (by rw [this]; exact h), this]
theorem fsE_step {l : List Int} {k : Nat} (h : fsE l k = 0) : fsE l (k + 1) = dnE (l.take k) (gz l k) := by rw [fsE, if_pos h]
theorem fsE_end {l : List Int} {k : Nat} {x : Int} (h : fsE l k = 0) (hx : dnE (l.take k) (gz l k) = x) (h0 : x ≠ 0) (hk : k < l.length) : fsE l l.length = x := by
  have h1 : fsE l (k + 1) = x := by rw [fsE_step h, hx]
  rw [fsE_stay (k := k + 1) (by rw [h1]; exact h0) (by omega), h1]
theorem fsE_iff {l : List Int} {k : Nat} : fsE l k = 0 ↔ ∀ i, i < k → dnE (l.take i) (gz l i) = 0 := by
  induction k with
  | zero => exact ⟨fun _ i hi => by omega, fun _ => rfl⟩
  | succ k ih =>
    by_cases h : fsE l k = 0
    · rw [fsE_step h]
      refine ⟨fun e i hi => ?_, fun e => e k (by omega)⟩
      by_cases hik : i = k
      · rw [hik]; exact e
      · exact ih.1 h i (by omega)
    · rw [fsE, if_neg h]
      exact ⟨fun e => absurd e h, fun e => absurd (ih.2 fun i hi => e i (by omega)) h⟩
/-- What Check returns. -/
def dqE (l : List Int) : Int := if 16 < l.length then 4 else fsE l l.length
theorem dqE_iff {l : List Int} : dqE l = 0 ↔ l.length ≤ 16 ∧ (∀ x ∈ l, 0 ≤ x ∧ x < 16) ∧ l.Nodup := by
  unfold dqE
  by_cases h : 16 < l.length
  · rw [if_pos h]
    exact ⟨fun e => (by cases e), fun e => by omega⟩
  · rw [if_neg h, fsE_iff]
    constructor
    · intro hh
      refine ⟨by omega, fun x hx => ?_, ?_⟩
      · obtain ⟨i, hi, rfl⟩ := List.getElem_of_mem hx
        have := (dnE_iff.1 (hh i hi)).1
        simpa [gz, hi] using this
      · rw [List.nodup_iff_pairwise_ne, List.pairwise_iff_getElem]
        intro i j hi hj hij e
        refine (dnE_iff.1 (hh j hj)).2 ?_
        have : l[i] ∈ l.take j := by
          rw [List.mem_take_iff_getElem]
          exact ⟨i, by omega, rfl⟩
        rw [e] at this
        simpa [gz, hj] using this
    · rintro ⟨_, h1, h2⟩ i hi
      have hg : gz l i = l[i] := by simp [gz, hi]
      rw [hg]
      refine dnE_iff.2 ⟨h1 _ (List.getElem_mem hi), fun hm => ?_⟩
      rw [List.mem_take_iff_getElem] at hm
      obtain ⟨j, hj, e⟩ := hm
      rw [List.nodup_iff_pairwise_ne, List.pairwise_iff_getElem] at h2
      exact h2 j i (by omega) hi (by omega) e
theorem dqE_len {l : List Int} (h : dqE l = 0) : l.length ≤ 16 := (dqE_iff.1 h).1
theorem dqE_nil : dqE [] = 0 := rfl
/-- An error is a small number. -/
theorem dnE_cases (o : List Int) (x : Int) : dnE o x = 0 ∨ dnE o x = 2 ∨ dnE o x = 6 := by
  unfold dnE
  split
  · exact .inr (.inl rfl)
  · split
    · exact .inr (.inr rfl)
    · exact .inl rfl
theorem fsE_cases (l : List Int) (k : Nat) : fsE l k = 0 ∨ fsE l k = 2 ∨ fsE l k = 6 := by
  induction k with
  | zero => exact .inl rfl
  | succ k ih =>
    rw [fsE]
    split
    · exact dnE_cases _ _
    · exact ih
theorem dqE_cases (l : List Int) : dqE l = 0 ∨ dqE l = 2 ∨ dqE l = 6 ∨ dqE l = 4 := by
  unfold dqE
  split
  · exact .inr (.inr (.inr rfl))
  · rcases fsE_cases l l.length with h | h | h
    · exact .inl h
    · exact .inr (.inl h)
    · exact .inr (.inr (.inl h))
theorem subI_len : ∀ (a b : List Int), a.Nodup → (∀ x, x ∈ a → x ∈ b) → a.length ≤ b.length
  | [], b, _, _ => by simp
  | x :: a, b, hn, h => by
    obtain ⟨h1, h2⟩ := List.nodup_cons.1 hn
    have hx : x ∈ b := h x (List.mem_cons_self ..)
    have := subI_len a (b.erase x) h2 (fun y hy => by
      have hyx : y ≠ x := fun e => h1 (e ▸ hy)
      exact (List.mem_erase_of_ne hyx).2 (h y (List.mem_cons_of_mem _ hy)))
    rw [List.length_erase_of_mem hx] at this
    have := List.length_pos_of_mem hx
    rw [List.length_cons]
    omega
theorem dqE_snoc {l : List Int} {x : Int} (h : dqE l = 0) (hx : dnE l x = 0) : dqE (l ++ [x]) = 0 := by
  obtain ⟨h1, h2, h3⟩ := dqE_iff.1 h
  obtain ⟨x1, x2⟩ := dnE_iff.1 hx
  have hn : (l ++ [x]).Nodup := by
    rw [List.nodup_append]
    refine ⟨h3, by simp, fun a ha b hb => ?_⟩
    simp at hb
    subst hb
    exact fun e => x2 (e ▸ ha)
  have hm : ∀ y ∈ l ++ [x], 0 ≤ y ∧ y < 16 := by
    intro y hy
    rcases List.mem_append.1 hy with hy | hy
    · exact h2 y hy
    · simp at hy
      subst hy
      exact x1
  refine dqE_iff.2 ⟨?_, hm, hn⟩
  have key := subI_len (l ++ [x]) ((List.range 16).map Int.ofNat) hn (fun y hy => by
    have := hm y hy
    exact List.mem_map.2 ⟨y.toNat, by simp; omega, by simp; omega⟩)
  simpa using key

/-! ### The operations -/

def pushE (l : List Int) (x : Int) : Int := if dqE l = 0 then dnE l x else dqE l
def pushQ (l : List Int) (x : Int) : List Int := if pushE l x = 0 then l ++ [x] else []
def takeE (l : List Int) : Int := if dqE l = 0 then (if l = [] then 23 else 0) else dqE l
def popQ (l : List Int) : List Int := if takeE l = 0 then l.take (l.length - 1) else []
def popX (l : List Int) : Int := if takeE l = 0 then gz l (l.length - 1) else 0
def stealQ (l : List Int) : List Int := if takeE l = 0 then l.drop 1 else []
def stealX (l : List Int) : Int := if takeE l = 0 then gz l 0 else 0
def halfR (l : List Int) : List Int := if dqE l = 0 then l.drop ((l.length + 1) / 2) else []
def halfU (l : List Int) : List Int := if dqE l = 0 then l.take ((l.length + 1) / 2) else []
theorem takeE_iff {l : List Int} : takeE l = 0 ↔ dqE l = 0 ∧ l ≠ [] := by
  unfold takeE
  by_cases h : dqE l = 0
  · rw [if_pos h]
    by_cases h2 : l = []
    · rw [if_pos h2]
      exact ⟨fun e => (by cases e), fun e => absurd h2 e.2⟩
    · rw [if_neg h2]
      exact ⟨fun _ => ⟨h, h2⟩, fun _ => rfl⟩
  · rw [if_neg h]
    exact ⟨fun e => absurd e h, fun e => absurd e.1 h⟩
theorem pushE_iff {l : List Int} {x : Int} : pushE l x = 0 ↔ dqE l = 0 ∧ dnE l x = 0 := by
  unfold pushE
  by_cases h : dqE l = 0
  · rw [if_pos h]
    exact ⟨fun e => ⟨h, e⟩, fun e => e.2⟩
  · rw [if_neg h]
    exact ⟨fun e => absurd e h, fun e => absurd e.1 h⟩
theorem dqE_take {l : List Int} (h : dqE l = 0) (k : Nat) : dqE (l.take k) = 0 := by
  obtain ⟨h1, h2, h3⟩ := dqE_iff.1 h
  exact dqE_iff.2 ⟨by rw [List.length_take]; omega, fun x hx => h2 x (List.mem_of_mem_take hx), h3.sublist (List.take_sublist _ _)⟩
theorem dqE_drop {l : List Int} (h : dqE l = 0) (k : Nat) : dqE (l.drop k) = 0 := by
  obtain ⟨h1, h2, h3⟩ := dqE_iff.1 h
  exact dqE_iff.2 ⟨by rw [List.length_drop]; omega, fun x hx => h2 x (List.mem_of_mem_drop hx), h3.sublist (List.drop_sublist _ _)⟩

/-! ### Playing -/

/-- The deque, the results and the error behind some operations. -/
abbrev Pl := List Int × List Int × Int
/-- One operation more, of a valid deque. -/
def opS (L O : List Int) (o : Int × Int) : Pl :=
  if o.1 = 1 then (if dnE L o.2 = 0 then (L ++ [o.2], O, 0) else ([], [], dnE L o.2))
  else if o.1 = 2 then (if L = [] then ([], O ++ [-1], 0) else (L.take (L.length - 1), O ++ [gz L (L.length - 1)], 0))
  else if o.1 = 3 then (if L = [] then ([], O ++ [-1], 0) else (L.drop 1, O ++ [gz L 0], 0))
  else ([], [], 8)
def stp (s : Pl) (o : Int × Int) : Pl := if s.2.2 = 0 then opS s.1 s.2.1 o else s
theorem stp_stay {s : Pl} (h : s.2.2 ≠ 0) (os : List (Int × Int)) : os.foldl stp s = s := by
  induction os with
  | nil => rfl
  | cons o os ih => rw [List.foldl_cons, show stp s o = s from if_neg h, ih]
def plS (l : List Int) (ops : List (Int × Int)) : Pl := ops.foldl stp (l, [], 0)
def playS (l : List Int) (ops : List (Int × Int)) : Pl := if dqE l = 0 then (if 1000 < ops.length then ([], [], 4) else plS l ops) else ([], [], dqE l)
def playL (l : List Int) (ops : List (Int × Int)) : List Int := (playS l ops).1
def playO (l : List Int) (ops : List (Int × Int)) : List Int := (playS l ops).2.1
def playE (l : List Int) (ops : List (Int × Int)) : Int := (playS l ops).2.2
theorem opS_good {L O : List Int} {o : Int × Int} (hL : dqE L = 0) : ((opS L O o).2.2 = 0 → dqE (opS L O o).1 = 0 ∧ (opS L O o).2.1.length ≤ O.length + 1) ∧ ((opS L O o).2.2 ≠ 0 → (opS L O o).1 = [] ∧ (opS L O o).2.1 = []) := by
  unfold opS
  by_cases h1 : o.1 = 1
  · rw [if_pos h1]
    by_cases hn : dnE L o.2 = 0
    · rw [if_pos hn]
      exact ⟨fun _ => ⟨dqE_snoc hL hn, by simp⟩, fun h => absurd rfl h⟩
    · rw [if_neg hn]
      exact ⟨fun h => absurd h hn, fun _ => ⟨rfl, rfl⟩⟩
  · rw [if_neg h1]
    by_cases h2 : o.1 = 2
    · rw [if_pos h2]
      by_cases h0 : L = []
      · rw [if_pos h0]
        exact ⟨fun _ => ⟨dqE_nil, by simp⟩, fun h => absurd rfl h⟩
      · rw [if_neg h0]
        exact ⟨fun _ => ⟨dqE_take hL _, by simp⟩, fun h => absurd rfl h⟩
    · rw [if_neg h2]
      by_cases h3 : o.1 = 3
      · rw [if_pos h3]
        by_cases h0 : L = []
        · rw [if_pos h0]
          exact ⟨fun _ => ⟨dqE_nil, by simp⟩, fun h => absurd rfl h⟩
        · rw [if_neg h0]
          exact ⟨fun _ => ⟨dqE_drop hL _, by simp⟩, fun h => absurd rfl h⟩
      · rw [if_neg h3]
        exact ⟨fun h => (by cases h), fun _ => ⟨rfl, rfl⟩⟩
theorem plS_snoc (l : List Int) (os : List (Int × Int)) (o : Int × Int) : plS l (os ++ [o]) = stp (plS l os) o := by simp [plS]
/-- Behind some operations: all is well, or an error has come up. -/
theorem plS_good {l : List Int} (hl : dqE l = 0) (os : List (Int × Int)) : ((plS l os).2.2 = 0 → dqE (plS l os).1 = 0 ∧ (plS l os).2.1.length ≤ os.length) ∧ ((plS l os).2.2 ≠ 0 → (plS l os).1 = [] ∧ (plS l os).2.1 = []) := by
  have key : ∀ (os : List (Int × Int)) (s : Pl), ((s.2.2 = 0 → dqE s.1 = 0) ∧ (s.2.2 ≠ 0 → s.1 = [] ∧ s.2.1 = [])) → (((os.foldl stp s).2.2 = 0 → dqE (os.foldl stp s).1 = 0 ∧ (os.foldl stp s).2.1.length ≤ s.2.1.length + os.length) ∧ ((os.foldl stp s).2.2 ≠ 0 → (os.foldl stp s).1 = [] ∧ (os.foldl stp s).2.1 = [])) := by
    intro os
    induction os with
    | nil =>
      intro s hs
      exact ⟨fun h => ⟨hs.1 h, by simp⟩, hs.2⟩
    | cons o os ih =>
      intro s hs
      rw [List.foldl_cons]
      by_cases h : s.2.2 = 0
      · have e : stp s o = opS s.1 s.2.1 o := if_pos h
        obtain ⟨g1, g2⟩ := opS_good (O := s.2.1) (o := o) (hs.1 h)
        obtain ⟨i1, i2⟩ := ih (stp s o) (by rw [e]; exact ⟨fun h => (g1 h).1, g2⟩)
        refine ⟨fun h' => ?_, i2⟩
        obtain ⟨j1, j2⟩ := i1 h'
        refine ⟨j1, ?_⟩
        rw [e] at j2
        rw [List.length_cons]
        by_cases h'' : (opS s.1 s.2.1 o).2.2 = 0
        · have := (g1 h'').2
          rw [e] at h' ⊢
          omega
        · rw [stp_stay (by rw [e]; exact h'')] at h'
          rw [e] at h'
          exact absurd h' h''
      · have e : stp s o = s := if_neg h
        rw [e, stp_stay h]
        exact ⟨fun h' => absurd h' h, hs.2⟩
  have := key os (l, [], 0) ⟨fun _ => hl, fun h => absurd rfl h⟩
  simpa [plS] using this
/-- The elements of a list of operations. -/
def ge (os : List (Int × Int)) (i : Nat) : Int × Int := os[i]?.getD (0, 0)
theorem take_snocO (os : List (Int × Int)) (k : Nat) (h : k < os.length) : os.take (k + 1) = os.take k ++ [ge os k] := by
  rw [List.take_succ_eq_append_getElem h]; simp [h, ge]
theorem plS_next {l : List Int} {os : List (Int × Int)} {k : Nat} {L O : List Int} (h : plS l (os.take k) = (L, O, 0)) (hk : k < os.length) : plS l (os.take (k + 1)) = opS L O (ge os k) := by
  rw [take_snocO os k hk, plS_snoc, h]
  rfl
/-- The first operation with an error ends the play. -/
theorem plS_stop {l : List Int} {os : List (Int × Int)} {k : Nat} {s : Pl} (h : plS l (os.take k) = s) (hs : s.2.2 ≠ 0) : plS l os = s := by
  have : plS l os = (os.drop k).foldl stp (plS l (os.take k)) := by
    unfold plS
    rw [← List.foldl_append, List.take_append_drop]
  rw [this, h, stp_stay hs]

end Go.Proofs.Ytmgadcfiaipimaa
