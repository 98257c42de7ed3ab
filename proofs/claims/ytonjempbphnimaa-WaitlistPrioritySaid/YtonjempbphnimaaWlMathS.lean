/-
  The mathematics of WaitlistPriority: pushing one after the other, and the library's insertion sort.
-/
import Derived.Sort.WalkA
import Derived.Test.YtonjempbphnimaaWlMathP
namespace Go.Proofs.Ytonjempbphnimaa
open Go.RowKit Go.Sort

def insK (kd : Int) (q : List Wl) (x : Wl) : List Wl := insW q (plcW kd q x.2.2.2.1) x
def foldK (kd : Int) (ts : List Wl) : List Wl := ts.foldl (insK kd) []
theorem foldK_snoc (kd : Int) (ts : List Wl) (x : Wl) : foldK kd (ts ++ [x]) = insK kd (foldK kd ts) x := by simp [foldK]
theorem insK_length (kd : Int) (q : List Wl) (x : Wl) : (insK kd q x).length = q.length + 1 := insW_length _ _ _ (plcW_le _ _ _)
theorem foldK_length (kd : Int) (ts : List Wl) : ∀ n, n ≤ ts.length → (foldK kd (ts.take n)).length = n := by
  intro n
  induction n with
  | zero => intro _; simp [foldK]
  | succ n ih => intro hn; rw [take_snocW ts n (by omega), foldK_snoc, insK_length, ih (by omega)]
theorem insK_mem (kd : Int) (q : List Wl) (x : Wl) : ∀ t ∈ insK kd q x, t ∈ q ∨ t = x := by
  intro t ht
  unfold insK insW at ht
  rcases List.mem_append.1 ht with h | h
  · exact .inl (List.mem_of_mem_take h)
  · rcases List.mem_cons.1 h with h | h
    · exact .inr h
    · exact .inl (List.mem_of_mem_drop h)
theorem plc_before {q : List Wl} {p : Int} : ∀ t ∈ q.take (plcW 2 q p), p ≤ t.2.2.2.1 := by
  have e : plcW 2 q p = (q.takeWhile fun s => decide (p ≤ s.2.2.2.1)).length := by unfold plcW; rw [if_neg (by decide)]
  rw [e]
  induction q with
  | nil => simp
  | cons a r ih =>
    intro t ht
    rw [List.takeWhile_cons] at ht
    by_cases hp : p ≤ a.2.2.2.1
    · rw [if_pos (by simpa using hp)] at ht
      simp only [List.length_cons, List.take_succ_cons] at ht
      rcases List.mem_cons.1 ht with rfl | h
      · exact hp
      · exact ih (by unfold plcW; rw [if_neg (by decide)]) t h
    · rw [if_neg (by simpa using hp)] at ht
      simp at ht
theorem insK_sorted {q : List Wl} {x : Wl} (h : q.Pairwise PrioGe) : (insK 2 q x).Pairwise PrioGe := by
  unfold insK insW
  have hq : (q.take (plcW 2 q x.2.2.2.1) ++ q.drop (plcW 2 q x.2.2.2.1)).Pairwise PrioGe := by rw [List.take_append_drop]; exact h
  obtain ⟨h1, h2, h3⟩ := List.pairwise_append.1 hq
  refine List.pairwise_append.2 ⟨h1, List.pairwise_cons.2 ⟨fun t ht => ?_, h2⟩, fun s hs t ht => ?_⟩
  · have := plc_behind h t ht
    unfold PrioGe
    omega
  · rcases List.mem_cons.1 ht with rfl | ht
    · exact plc_before s hs
    · exact h3 s hs t ht
theorem insK_queue {kd : Int} {q : List Wl} {x : Wl} (h : QueueW kd q) (hx : okW x = true) : QueueW kd (insK kd q x) := by
  refine ⟨fun t ht => ?_, fun hk => ?_⟩
  · rcases insK_mem kd q x t ht with h1 | rfl
    · exact h.1 t h1
    · exact hx
  · subst hk
    exact insK_sorted (h.2 rfl)
theorem foldK_queue {kd : Int} {ts : List Wl} (h : ∀ t ∈ ts, okW t = true) : ∀ n, n ≤ ts.length → QueueW kd (foldK kd (ts.take n)) := by
  intro n
  induction n with
  | zero => intro _; exact ⟨by simp [foldK], fun _ => by simp [foldK]⟩
  | succ n ih => intro hn; rw [take_snocW ts n (by omega), foldK_snoc]; exact insK_queue (ih (by omega)) (h _ (gw_mem (by omega)))
/-- A round of WaitlistPriority. -/
theorem push_round {kd : Int} {ts : List Wl} {n : Nat} (hk : kindP kd) (h : ∀ t ∈ ts, okW t = true) (hl : ts.length ≤ 12) (hn : n < ts.length) :
    pshE kd (foldK kd (ts.take n)) (gw ts n) = 0 ∧ pshQ kd (foldK kd (ts.take n)) (gw ts n) = foldK kd (ts.take (n + 1)) ∧ wchE kd (foldK kd (ts.take (n + 1))) = 0 := by
  have hlen := foldK_length kd ts n (by omega)
  have hlen1 := foldK_length kd ts (n + 1) (by omega)
  have hc : wchE kd (foldK kd (ts.take n)) = 0 := wchE_iff.2 ⟨hk, by omega, foldK_queue h n (by omega)⟩
  have he : pshE kd (foldK kd (ts.take n)) (gw ts n) = 0 := by
    unfold pshE
    rw [if_neg (by simp [hc]), if_neg (by simp [h _ (gw_mem hn)]), if_neg (by omega)]
  refine ⟨he, ?_, wchE_iff.2 ⟨hk, by omega, foldK_queue h (n + 1) (by omega)⟩⟩
  unfold pshQ
  rw [if_pos he, take_snocW ts n hn, foldK_snoc]
  rfl
theorem foldK_fifo (ts : List Wl) : foldK 1 ts = ts := by
  have key : ∀ n, n ≤ ts.length → foldK 1 (ts.take n) = ts.take n := by
    intro n
    induction n with
    | zero => intro _; simp [foldK]
    | succ n ih =>
      intro hn
      rw [take_snocW ts n (by omega), foldK_snoc, ih (by omega)]
      unfold insK plcW insW
      rw [if_pos rfl, List.take_length, List.drop_length]
  have := key ts.length (Nat.le_refl _)
  rwa [List.take_length] at this

/-! ### The insertion sort -/

theorem arr_gw (l : List Wl) (j : Nat) (h : j < l.length) : l.toArray[j]! = gw l j := by
  unfold gw
  rw [getElem!_pos _ _ (by simpa using h), List.getElem_toArray, List.getElem?_eq_getElem h]
  rfl
theorem plc_snoc {q : List Wl} {y : Wl} {p : Int} (h : y.2.2.2.1 < p) : plcW 2 (q ++ [y]) p = plcW 2 q p := by
  unfold plcW
  rw [if_neg (by decide), if_neg (by decide)]
  induction q with
  | nil => simp [List.takeWhile_cons]; omega
  | cons a r ih =>
    rw [List.cons_append, List.takeWhile_cons, List.takeWhile_cons]
    split
    · simp only [List.length_cons, ih]
    · rfl
theorem plc_all {q : List Wl} {p : Int} (h : ∀ t ∈ q, p ≤ t.2.2.2.1) : plcW 2 q p = q.length := by
  unfold plcW
  rw [if_neg (by decide), show q.takeWhile (fun s => decide (p ≤ s.2.2.2.1)) = q from by
    rw [← List.append_nil (q.takeWhile _)]
    have := List.takeWhile_append_of_pos (p := fun s : Wl => decide (p ≤ s.2.2.2.1)) (l₁ := q) (l₂ := []) (fun t ht => by simpa using h t ht)
    simpa using this]
def LtW (lt : Wl → Wl → Bool) : Prop := ∀ x y : Wl, okW x = true → okW y = true → lt x y = decide (y.2.2.2.1 < x.2.2.2.1)
theorem gw_app_left {a b : List Wl} {j : Nat} (h : j < a.length) : gw (a ++ b) j = gw a j := by
  unfold gw
  rw [List.getElem?_append_left h]
theorem gw_app_mid {a b : List Wl} {x : Wl} : gw (a ++ x :: b) a.length = x := by simp [gw]
theorem ins_inner {lt : Wl → Wl → Bool} (hlt : LtW lt) : ∀ (n : Nat) (pre suf : List Wl) (x : Wl), pre.length = n → pre.Pairwise PrioGe → (∀ t ∈ pre, okW t = true) → okW x = true → insInner lt 0 n (pre ++ x :: suf).toArray = (insK 2 pre x ++ suf).toArray := by
  intro n
  induction n with
  | zero =>
    intro pre suf x hn hs ho hx
    have : pre = [] := List.eq_nil_of_length_eq_zero hn
    subst this
    rw [insInner_stop lt 0 0 _ (.inl (Nat.le_refl _))]
    simp [insK, insW]
  | succ n ih =>
    intro pre suf x hn hs ho hx
    obtain ⟨q, y, rfl⟩ : ∃ q y, pre = q ++ [y] := ⟨pre.dropLast, pre.getLast (fun h => by rw [h] at hn; simp at hn), (List.dropLast_concat_getLast _).symm⟩
    have hq : q.length = n := by simpa using hn
    have e1 : (q ++ [y] ++ x :: suf).toArray[n + 1]! = x := by
      rw [arr_gw _ _ (by simp; omega), ← hn]
      exact gw_app_mid
    have e2 : (q ++ [y] ++ x :: suf).toArray[n + 1 - 1]! = y := by
      rw [arr_gw _ _ (by simp; omega), show n + 1 - 1 = n by omega, gw_app_left (by simp; omega), ← hq]
      exact gw_app_mid
    have hy : okW y = true := ho y (by simp)
    by_cases hp : y.2.2.2.1 < x.2.2.2.1
    · rw [insInner_go lt 0 (n + 1) _ (by omega) (by rw [e1, e2, hlt x y hx hy]; exact decide_eq_true hp)]
      have e3 : swp (q ++ [y] ++ x :: suf).toArray (n + 1) (n + 1 - 1) = (q ++ x :: (y :: suf)).toArray := by
        unfold swp
        rw [e1, e2, show n + 1 - 1 = n by omega]
        simp only [List.setIfInBounds_toArray]
        congr 1
        rw [List.append_assoc, List.set_append_right _ _ (by omega)]
        simp only [List.cons_append, List.nil_append]
        rw [show n + 1 - q.length = 1 by omega, List.set_cons_succ, List.set_cons_zero, List.set_append_right _ _ (by omega), show n - q.length = 0 by omega, List.set_cons_zero]
      rw [e3, show n + 1 - 1 = n by omega, ih q (y :: suf) x hq (List.pairwise_append.1 hs).1 (fun t ht => ho t (by simp [ht])) hx]
      have e4 : insK 2 (q ++ [y]) x = insK 2 q x ++ [y] := by
        unfold insK insW
        rw [plc_snoc hp, List.take_append_of_le_length (plcW_le _ _ _), List.drop_append_of_le_length (plcW_le _ _ _)]
        simp
      rw [e4]
      simp
    · rw [insInner_stop lt 0 (n + 1) _ (.inr (by rw [e1, e2, hlt x y hx hy]; exact decide_eq_false hp))]
      have e4 : insK 2 (q ++ [y]) x = q ++ [y] ++ [x] := by
        unfold insK insW
        rw [plc_all (fun t ht => ?_)]
        · rw [List.take_length, List.drop_length]
        · rcases List.mem_append.1 ht with h | h
          · have := (List.pairwise_append.1 hs).2.2 t h y (by simp)
            unfold PrioGe at this
            omega
          · rw [List.mem_singleton.1 h]; omega
      rw [e4]
      simp
theorem ins_outer {lt : Wl → Wl → Bool} (hlt : LtW lt) (ts : List Wl) (ho : ∀ t ∈ ts, okW t = true) : ∀ (d i : Nat), d = ts.length - i → i ≤ ts.length → insOuter lt 0 ts.length i (foldK 2 (ts.take i) ++ ts.drop i).toArray = (foldK 2 ts).toArray := by
  intro d
  induction d with
  | zero =>
    intro i hd hi
    have : i = ts.length := by omega
    subst this
    rw [insOuter_stop _ _ _ _ _ (by omega), List.take_length, List.drop_length, List.append_nil]
  | succ d ih =>
    intro i hd hi
    have hlt' : i < ts.length := by omega
    rw [insOuter_go _ _ _ _ _ hlt', drop_consW ts i hlt', ins_inner hlt i _ _ _ (foldK_length 2 ts i (by omega)) ((foldK_queue ho i (by omega)).2 rfl) (foldK_queue (kd := 2) ho i (by omega)).1 (ho _ (gw_mem hlt')), ← foldK_snoc, ← take_snocW ts i hlt']
    exact ih (i + 1) (by omega) (by omega)
theorem ins_sort {lt : Wl → Wl → Bool} (hlt : LtW lt) (ts : List Wl) (ho : ∀ t ∈ ts, okW t = true) : insertionSort lt ts.toArray 0 ts.length = (foldK 2 ts).toArray := by
  unfold insertionSort
  by_cases h0 : ts.length = 0
  · have : ts = [] := List.eq_nil_of_length_eq_zero h0
    subst this
    rw [insOuter_stop _ _ _ _ _ (by simp)]
    simp [foldK]
  · have h1 := ins_outer hlt ts ho (ts.length - 1) 1 rfl (by omega)
    have e : foldK 2 (ts.take 1) ++ ts.drop 1 = ts := by
      rw [show ts.take 1 = ts.take 0 ++ [gw ts 0] from take_snocW ts 0 (by omega), foldK_snoc, List.take_zero]
      have : insK 2 (foldK 2 []) (gw ts 0) = [gw ts 0] := by simp [insK, insW, foldK]
      rw [this]
      have := drop_consW ts 0 (by omega)
      rw [List.drop_zero] at this
      conv => rhs; rw [this]
      rfl
    rw [e] at h1
    exact h1

end Go.Proofs.Ytonjempbphnimaa
