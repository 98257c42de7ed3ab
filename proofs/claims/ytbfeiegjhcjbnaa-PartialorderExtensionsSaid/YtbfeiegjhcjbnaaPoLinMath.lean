/-
  The plain mathematics of linear extensions: what extN lists, that there is one with any two concurrent elements in either order, how many there are.
-/
import Derived.Lib.Slices
import Derived.Test.YtbfeiegjhcjbnaaPoCovMath
namespace Go.Proofs.Ytbfeiegjhcjbnaa

def OrdAll (N : Nat) (f : Nat → Nat → Bool) (x : List Nat) : Prop := ∀ k, OrdP N f (x.take k)
theorem OrdAll.nil (N : Nat) (f : Nat → Nat → Bool) : OrdAll N f [] := fun k => by rw [List.take_nil]; exact OrdP.nil N f
theorem OrdAll.whole {N : Nat} {f : Nat → Nat → Bool} {x : List Nat} (h : OrdAll N f x) : OrdP N f x := by
  have := h x.length
  rwa [List.take_length] at this
theorem OrdAll.snoc {N : Nat} {f : Nat → Nat → Bool} {x : List Nat} {u : Nat} (h : OrdAll N f x) (hL : Low2 N f) (hu : u < N) (hf : freeF N f x u = true) : OrdAll N f (x ++ [u]) := by
  intro k
  by_cases hk : k ≤ x.length
  · rw [List.take_append_of_le_length hk]
    exact h k
  · rw [List.take_of_length_le (by rw [List.length_append]; simp; omega)]
    exact h.whole.snoc hL hu hf
theorem ext_sound {N : Nat} {f : Nat → Nat → Bool} (hL : Low2 N f) : ∀ (m : Nat) (out x : List Nat), OrdAll N f out → x ∈ extN N f m out → OrdAll N f x ∧ x.length = out.length + m
  | 0, out, x, h, hx => by
    have hx : x ∈ [out] := hx
    simp at hx
    subst hx
    exact ⟨h, rfl⟩
  | m + 1, out, x, h, hx => by
    rw [extN_succ] at hx
    obtain ⟨u, hu, hx⟩ := List.mem_flatMap.1 hx
    obtain ⟨h1, h2⟩ := mem_selN.1 hu
    obtain ⟨h3, h4⟩ := ext_sound hL m _ x (h.snoc hL h1 h2) hx
    refine ⟨h3, ?_⟩
    rw [h4, List.length_append]
    simp
    omega
theorem ext_complete {N : Nat} {f : Nat → Nat → Bool} (hi : ∀ i, f i i = false) : ∀ (r out : List Nat), OrdAll N f (out ++ r) → out ++ r ∈ extN N f r.length out
  | [], out, _ => by
    rw [List.append_nil]
    show out ∈ [out]
    simp
  | u :: r, out, h => by
    rw [List.length_cons, extN_succ]
    have h1 : OrdP N f (out ++ [u]) := by
      have := h (out.length + 1)
      rw [show out ++ u :: r = (out ++ [u]) ++ r by simp, List.take_append_of_le_length (by simp), List.take_of_length_le (by simp)] at this
      exact this
    have hnd := List.nodup_append.1 h1.nodup
    refine List.mem_flatMap.2 ⟨u, mem_selN.2 ⟨h1.lt u (by simp), free_of (fun hm => hnd.2.2 u hm u (by simp) rfl) (fun a ha => ?_)⟩, ?_⟩
    · have h2 := h1.down a u ha (by simp)
      rcases List.mem_append.1 h2 with h2 | h2
      · exact h2
      · simp at h2
        rw [h2, hi u] at ha
        cases ha
    · have := ext_complete hi r (out ++ [u]) (by rw [show (out ++ [u]) ++ r = out ++ u :: r by simp]; exact h)
      rw [show (out ++ [u]) ++ r = out ++ u :: r by simp] at this
      exact this
/-- There is a free element, as long as one is left. -/
theorem free_exists {N : Nat} {f : Nat → Nat → Bool} (hL : Low2 N f) (ht : Trans2 f) (hi : ∀ i, f i i = false) (out : List Nat) : ∀ (m u : Nat), u < N → u ∉ out → ((List.range N).countP fun a => f a u && !out.contains a) < m → ∃ v, v < N ∧ freeF N f out v = true := by
  intro m
  induction m with
  | zero => intro u _ _ h; omega
  | succ m ih =>
    intro u hu ho hm
    cases hf : freeF N f out u with
    | true => exact ⟨u, hu, hf⟩
    | false =>
      have hex : ∃ a, f a u = true ∧ a ∉ out := by
        by_cases h : ∃ a, f a u = true ∧ a ∉ out
        · exact h
        · have h2 : freeF N f out u = true := free_of ho (fun a ha => by
            by_cases hm : a ∈ out
            · exact hm
            · exact absurd ⟨a, ha, hm⟩ h)
          rw [h2] at hf
          cases hf
      obtain ⟨a, ha, hao⟩ := hex
      have haN := (hL a u ha).1
      refine ih a haN hao (Nat.lt_of_lt_of_le (countP_lt (y := a) _ (fun x hx => ?_) (by simpa using haN) ?_ ?_) (Nat.le_of_lt_succ hm))
      · simp at hx ⊢
        exact ⟨ht x a u hx.1 ha, hx.2⟩
      · simp [ha, hao]
      · simp [hi a]
theorem nodup_sub : ∀ (A B : List Nat), A.Nodup → (∀ x, x ∈ A → x ∈ B) → A.length ≤ B.length
  | [], _, _, _ => Nat.zero_le _
  | a :: A, B, hn, h => by
    obtain ⟨h1, h2⟩ := List.nodup_cons.1 hn
    obtain ⟨p, s, e⟩ := List.append_of_mem (h a (List.mem_cons_self ..))
    have ih := nodup_sub A (p ++ s) h2 (fun x hx => by
      have := h x (List.mem_cons_of_mem _ hx)
      rw [e] at this
      rcases List.mem_append.1 this with h3 | h3
      · exact List.mem_append_left _ h3
      · rcases List.mem_cons.1 h3 with h3 | h3
        · subst h3; exact absurd hx h1
        · exact List.mem_append_right _ h3)
    rw [e, List.length_append, List.length_cons, List.length_cons]
    rw [List.length_append] at ih
    omega
theorem some_left {N : Nat} {out : List Nat} (h : out.length < N) : ∃ u, u < N ∧ u ∉ out := by
  by_cases he : ∃ u, u < N ∧ u ∉ out
  · exact he
  · have hall : ∀ u, u < N → u ∈ out := fun u hu => by
      by_cases hm : u ∈ out
      · exact hm
      · exact absurd ⟨u, hu, hm⟩ he
    have h2 : (List.range N).length ≤ out.length := nodup_sub _ _ List.nodup_range fun u hu => hall u (by simpa using hu)
    rw [List.length_range] at h2
    omega
theorem ext_exists {N : Nat} {f : Nat → Nat → Bool} (hL : Low2 N f) (ht : Trans2 f) (hi : ∀ i, f i i = false) : ∀ (m : Nat) (out : List Nat), OrdAll N f out → out.length + m = N → ∃ x, x ∈ extN N f m out
  | 0, out, _, _ => ⟨out, by show out ∈ [out]; simp⟩
  | m + 1, out, h, hl => by
    obtain ⟨u, hu, huo⟩ := some_left (N := N) (out := out) (by omega)
    obtain ⟨v, hv, hf⟩ := free_exists hL ht hi out _ u hu huo (Nat.lt_succ_self _)
    obtain ⟨x, hx⟩ := ext_exists hL ht hi m (out ++ [v]) (h.snoc hL hv hf) (by rw [List.length_append]; simp; omega)
    exact ⟨x, by rw [extN_succ]; exact List.mem_flatMap.2 ⟨v, mem_selN.2 ⟨hv, hf⟩, hx⟩⟩

def fac : Nat → Nat
  | 0 => 1
  | m + 1 => (m + 1) * fac m
theorem flatMap_le {F : Nat → List (List Nat)} {c : Nat} : ∀ (xs : List Nat), (∀ x, x ∈ xs → (F x).length ≤ c) → (xs.flatMap F).length ≤ xs.length * c
  | [], _ => by simp
  | x :: xs, h => by
    rw [List.flatMap_cons, List.length_append, List.length_cons, Nat.succ_mul]
    have h1 := h x (List.mem_cons_self ..)
    have h2 := flatMap_le xs (fun y hy => h y (List.mem_cons_of_mem _ hy))
    omega
theorem ext_count {N : Nat} {f : Nat → Nat → Bool} (hL : Low2 N f) : ∀ (m : Nat) (out : List Nat), OrdAll N f out → out.length + m = N → (extN N f m out).length ≤ fac m
  | 0, out, _, _ => by show [out].length ≤ 1; simp
  | m + 1, out, h, hl => by
    rw [extN_succ]
    have hsel : (selN N (freeF N f out)).length ≤ m + 1 := by
      have hnd : (out ++ selN N (freeF N f out)).Nodup := by
        rw [List.nodup_append]
        refine ⟨h.whole.nodup, (selN_pair _ _).imp (fun h => Nat.ne_of_lt h), fun a ha b hb => ?_⟩
        rintro rfl
        exact (free_spec hL (mem_selN.1 hb).2).1 ha
      have := nodup_length_le N _ hnd (fun x hx => by
        rcases List.mem_append.1 hx with hx | hx
        · exact h.whole.lt x hx
        · exact (mem_selN.1 hx).1)
      rw [List.length_append] at this
      omega
    have h1 := flatMap_le (F := fun x => extN N f m (out ++ [x])) (c := fac m) (selN N (freeF N f out)) (fun x hx => ext_count hL m _ (h.snoc hL (mem_selN.1 hx).1 (mem_selN.1 hx).2) (by rw [List.length_append]; simp; omega))
    exact Nat.le_trans h1 (Nat.mul_le_mul_right _ hsel)

/-! ### Where an element stands -/

def posI (x : List Nat) (a : Nat) : Int := Lib.idxOf (intsOf x) (a : Int)
theorem idxFrom_split : ∀ (p : List Nat) (a : Nat) (s : List Nat) (k : Nat), a ∉ p → Lib.idxFrom (intsOf (p ++ a :: s)) (a : Int) k = ((p.length + k : Nat) : Int)
  | [], a, s, k, _ => by simp [intsOf, Lib.idxFrom]
  | b :: p, a, s, k, h => by
    have hb : ¬ ((b : Int) = (a : Int)) := fun e => h (by rw [show a = b by omega]; exact List.mem_cons_self ..)
    have ih := idxFrom_split p a s (k + 1) (fun hm => h (List.mem_cons_of_mem _ hm))
    have e : intsOf (b :: p ++ a :: s) = (b : Int) :: intsOf (p ++ a :: s) := by simp [intsOf]
    rw [e, Lib.idxFrom, if_neg (by simpa using hb), ih, List.length_cons]
    congr 1
    omega
theorem pos_split {p s : List Nat} {a : Nat} (h : a ∉ p) : posI (p ++ a :: s) a = (p.length : Int) := by
  unfold posI Lib.idxOf
  rw [idxFrom_split p a s 0 h, Nat.add_zero]
theorem split_at {x : List Nat} {a : Nat} (h : a ∈ x) : ∃ p s, x = p ++ a :: s ∧ a ∉ p := by
  induction x with
  | nil => cases h
  | cons b x ih =>
    by_cases e : a = b
    · subst e
      exact ⟨[], x, rfl, by simp⟩
    · rcases List.mem_cons.1 h with h | h
      · exact absurd h e
      · obtain ⟨p, s, rfl, hp⟩ := ih h
        refine ⟨b :: p, s, rfl, fun hm => ?_⟩
        rcases List.mem_cons.1 hm with hm | hm
        · exact e hm
        · exact hp hm
theorem pos_ne {x : List Nat} {a b : Nat} (ha : a ∈ x) (hb : b ∈ x) (hab : a ≠ b) : posI x a ≠ posI x b := by
  obtain ⟨p, s, rfl, hp⟩ := split_at ha
  obtain ⟨q, t, e, hq⟩ := split_at hb
  rw [pos_split hp]
  rw [e, pos_split hq]
  intro h
  have hl : p.length = q.length := by omega
  obtain ⟨_, h2⟩ := List.append_inj e hl
  injection h2 with h2 _
  exact hab h2
theorem pos_lt {N : Nat} {f : Nat → Nat → Bool} {x : List Nat} (h : OrdAll N f x) (hi : ∀ i, f i i = false) {a b : Nat} (hab : f a b = true) (hb : b ∈ x) : posI x a < posI x b := by
  obtain ⟨p, s, rfl, hp⟩ := split_at hb
  have h1 : OrdP N f (p ++ [b]) := by
    have := h (p.length + 1)
    rw [show p ++ b :: s = (p ++ [b]) ++ s by simp, List.take_append_of_le_length (by simp), List.take_of_length_le (by simp)] at this
    exact this
  have h2 := h1.down a b hab (by simp)
  have h3 : a ∈ p := by
    rcases List.mem_append.1 h2 with h2 | h2
    · exact h2
    · simp at h2
      rw [h2, hi b] at hab
      cases hab
  obtain ⟨q, t, rfl, hq⟩ := split_at h3
  rw [pos_split hp, show (q ++ a :: t) ++ b :: s = q ++ a :: (t ++ b :: s) by simp, pos_split hq]
  simp
  omega
theorem all_in {N : Nat} {f : Nat → Nat → Bool} {x : List Nat} (h : OrdAll N f x) (hl : x.length = N) {a : Nat} (ha : a < N) : a ∈ x := by
  by_cases hm : a ∈ x
  · exact hm
  · have hnd : (x ++ [a]).Nodup := by
      rw [List.nodup_append]
      refine ⟨h.whole.nodup, by simp, fun u hu v hv => ?_⟩
      simp at hv
      rintro rfl
      exact hm (hv ▸ hu)
    have := nodup_length_le N _ hnd (fun u hu => by
      rcases List.mem_append.1 hu with hu | hu
      · exact h.whole.lt u hu
      · simp at hu; omega)
    rw [List.length_append] at this
    simp at this
    omega

/-- The order with one pair of concurrent elements more. -/
def addR (f : Nat → Nat → Bool) (a b : Nat) : Nat → Nat → Bool := fun x y => f x y || ((decide (x = a) || f x a) && (decide (y = b) || f b y))
theorem addR_iff {f : Nat → Nat → Bool} {a b x y : Nat} : addR f a b x y = true ↔ f x y = true ∨ ((x = a ∨ f x a = true) ∧ (y = b ∨ f b y = true)) := by simp [addR]
theorem addR_low {N : Nat} {f : Nat → Nat → Bool} {a b : Nat} (hL : Low2 N f) (ha : a < N) (hb : b < N) : Low2 N (addR f a b) := by
  intro x y h
  rcases addR_iff.1 h with h | ⟨h1, h2⟩
  · exact hL x y h
  · refine ⟨?_, ?_⟩
    · rcases h1 with rfl | h1
      · exact ha
      · exact (hL x a h1).1
    · rcases h2 with rfl | h2
      · exact hb
      · exact (hL b y h2).2
theorem addR_trans {f : Nat → Nat → Bool} {a b : Nat} (ht : Trans2 f) : Trans2 (addR f a b) := by
  intro x y z h1 h2
  rw [addR_iff] at *
  rcases h1 with h1 | ⟨p1, p2⟩ <;> rcases h2 with h2 | ⟨q1, q2⟩
  · exact .inl (ht x y z h1 h2)
  · refine .inr ⟨?_, q2⟩
    rcases q1 with rfl | q1
    · exact .inr h1
    · exact .inr (ht x y a h1 q1)
  · refine .inr ⟨p1, ?_⟩
    rcases p2 with rfl | p2
    · exact .inr h2
    · exact .inr (ht b y z p2 h2)
  · exact .inr ⟨p1, q2⟩
theorem addR_irr {f : Nat → Nat → Bool} {a b : Nat} (ht : Trans2 f) (hi : ∀ i, f i i = false) (hab : a ≠ b) (hba : f b a = false) (i : Nat) : addR f a b i i = false := by
  cases e : addR f a b i i with
  | false => rfl
  | true =>
    rcases addR_iff.1 e with h | ⟨p1, p2⟩
    · rw [hi i] at h; cases h
    · rcases p1 with rfl | p1 <;> rcases p2 with p2 | p2
      · exact absurd p2 hab
      · rw [p2] at hba; cases hba
      · subst p2; rw [p1] at hba; cases hba
      · have := ht b i a p2 p1
        rw [this] at hba
        cases hba
/-- Two elements of which the second is not before the first: in some extension the first stands before the second. -/
theorem ext_with {N : Nat} {f : Nat → Nat → Bool} (hL : Low2 N f) (ht : Trans2 f) (hi : ∀ i, f i i = false) {a b : Nat} (ha : a < N) (hb : b < N) (hab : a ≠ b) (hba : f b a = false) : ∃ x, x ∈ extN N f N [] ∧ posI x a < posI x b := by
  have hL2 := addR_low hL ha hb
  have hi2 := addR_irr ht hi hab hba
  obtain ⟨x, hx⟩ := ext_exists hL2 (addR_trans ht) hi2 N [] (OrdAll.nil _ _) (by simp)
  obtain ⟨ho, hl⟩ := ext_sound hL2 N [] x (OrdAll.nil _ _) hx
  have hlx : x.length = N := by simpa using hl
  have hof : OrdAll N f x := fun k => ⟨(ho k).nodup, (ho k).lt, fun u v huv hv => (ho k).down u v (addR_iff.2 (.inl huv)) hv⟩
  have hm := ext_complete hi x [] hof
  rw [hlx] at hm
  refine ⟨x, hm, pos_lt ho hi2 (addR_iff.2 (.inr ⟨.inl rfl, .inl rfl⟩)) (all_in ho hlx hb)⟩

/-- What PartialorderMeet asks. -/
theorem meet_law {n : Int} {es : List (Int × Int)} (hp : poE n es = 0) (h6 : n ≤ 6) :
    exsE n es 720 = 0 ∧ (exsL n es 720).length ≤ 720 ∧ ∀ i j : Nat, (i : Int) < n → (j : Int) < n →
      (i ≠ j → ((exsL n es 720).countP (fun x => decide (posI x i < posI x j)) = (exsL n es 720).length ↔ hasE es i j = true)) ∧
      (i < j → (((0 < (exsL n es 720).countP fun x => decide (posI x i < posI x j)) ∧ (exsL n es 720).countP (fun x => decide (posI x i < posI x j)) < (exsL n es 720).length) ↔ hasE (edgesOf (conL n es)) i j = true)) := by
  obtain ⟨N, rfl, hN, hk, hok, ho, ht, hsrt⟩ := po_ok hp
  have hE : exsE (N : Int) es 720 = 0 := by unfold exsE; rw [if_pos hp, if_neg (by omega)]
  have hL := gN_low hok
  have hfac : fac N ≤ 720 := by
    have : N = 0 ∨ N = 1 ∨ N = 2 ∨ N = 3 ∨ N = 4 ∨ N = 5 ∨ N = 6 := by omega
    rcases this with rfl | rfl | rfl | rfl | rfl | rfl | rfl <;> decide
  have hcnt := ext_count hL N [] (OrdAll.nil _ _) (by simp)
  have hX : exsL (N : Int) es 720 = extN N (relG (gN es)) N [] := by
    unfold exsL
    rw [if_pos hE, Int.toNat_natCast]
    exact List.take_of_length_le (by show _ ≤ 720; omega)
  have hf : ∀ i j : Nat, relG (gN es) i j = true ↔ hasE es i j = true := fun i j => by rw [relG_iff, mem_gN hok, hasE_iff]
  have hcon : ∀ i j : Nat, i < N → j < N → i < j → (hasE (edgesOf (conL (N : Int) es)) i j = true ↔ relG (gN es) i j = false ∧ relG (gN es) j i = false) := by
    intro i j h1 h2 h3
    have hc : conL (N : Int) es = prs N (conP (relG (gN es))) := by unfold conL; rw [if_pos hp, Int.toNat_natCast]
    rw [hasE_iff, mem_edgesOf, hc]
    constructor
    · rintro ⟨a, b, e1, e2, h⟩
      obtain rfl : i = a := by omega
      obtain rfl : j = b := by omega
      have := (mem_prs.1 h).2.2
      unfold conP at this
      simp at this
      exact ⟨this.1.2, this.2⟩
    · rintro ⟨h4, h5⟩
      exact ⟨i, j, rfl, rfl, mem_prs.2 ⟨h1, h2, by unfold conP; simp [h3, h4, h5]⟩⟩
  rw [hX]
  generalize relG (gN es) = f at *
  have hi : ∀ i, f i i = false := by
    intro i
    cases e : f i i with
    | false => rfl
    | true =>
      have h1 := (loopK_false.1 ho) i (hL i i e).1
      rw [e] at h1
      cases h1
  have sound : ∀ x, x ∈ extN N f N [] → OrdAll N f x ∧ x.length = N := fun x hx => by
    obtain ⟨h1, h2⟩ := ext_sound hL N [] x (OrdAll.nil _ _) hx
    exact ⟨h1, by simpa using h2⟩
  refine ⟨hE, by omega, fun i j hiN hjN => ?_⟩
  have hiN : i < N := by omega
  have hjN : j < N := by omega
  have keyA : i ≠ j → ((extN N f N []).countP (fun x => decide (posI x i < posI x j)) = (extN N f N []).length ↔ f i j = true) := by
    intro hij
    rw [List.countP_eq_length]
    constructor
    · intro h
      cases e : f i j with
      | true => rfl
      | false =>
        obtain ⟨x, hx, hlt⟩ := ext_with hL ht hi hjN hiN (Ne.symm hij) e
        have := h x hx
        simp at this
        omega
    · intro h x hx
      obtain ⟨h1, h2⟩ := sound x hx
      simpa using pos_lt h1 hi h (all_in h1 h2 hjN)
  refine ⟨fun hij => by rw [keyA hij, hf], fun hij => ?_⟩
  rw [hcon i j hiN hjN hij]
  have hle : (extN N f N []).countP (fun x => decide (posI x i < posI x j)) ≤ (extN N f N []).length := List.countP_le_length
  constructor
  · rintro ⟨h1, h2⟩
    refine ⟨?_, ?_⟩
    · cases e : f i j with
      | false => rfl
      | true => have := (keyA (by omega)).2 e; omega
    · cases e : f j i with
      | false => rfl
      | true =>
        obtain ⟨x, hx, hd⟩ := List.countP_pos_iff.1 h1
        obtain ⟨s1, s2⟩ := sound x hx
        have := pos_lt s1 hi e (all_in s1 s2 hiN)
        simp at hd
        omega
  · rintro ⟨h1, h2⟩
    refine ⟨?_, ?_⟩
    · obtain ⟨x, hx, hlt⟩ := ext_with hL ht hi hiN hjN (by omega) h2
      exact List.countP_pos_iff.2 ⟨x, hx, by simpa using hlt⟩
    · have : ¬ (extN N f N []).countP (fun x => decide (posI x i < posI x j)) = (extN N f N []).length := fun e => by
        have := (keyA (by omega)).1 e
        rw [h1] at this
        cases this
      omega

end Go.Proofs.Ytbfeiegjhcjbnaa
