/-
  The plain mathematics of timers' statements (no program in it): queues that are added to, removed from, and expire.
-/
import Derived.Test.YtcmcgcogahkamaaTmAdded
namespace Go.Proofs.Ytcmcgcogahkamaa

theorem woL_none {ts : List Tm} {k i : Int} (h : hasK ts k i = false) : woL ts k i = ts := by
  unfold woL
  rw [List.filter_eq_self]
  intro t ht
  cases hk : keyB t k i with
  | false => rfl
  | true =>
    have : hasK ts k i = true := hasK_iff.2 ⟨t, ht, keyB_iff.1 hk⟩
    rw [h] at this
    cases this
theorem hasK_woL (ts : List Tm) (k i : Int) : hasK (woL ts k i) k i = false := by
  cases h : hasK (woL ts k i) k i with
  | false => rfl
  | true =>
    obtain ⟨s, hs, h1⟩ := hasK_iff.1 h
    have := (List.mem_filter.1 hs).2
    rw [keyB_iff.2 h1] at this
    cases this
theorem insL_perm (o : List Tm) (t : Tm) : (insL o t).Perm (t :: o) := by
  unfold insL
  refine List.perm_middle.trans ?_
  rw [List.take_append_drop]
theorem takeW_all {p : Tm → Bool} : ∀ {o : List Tm}, ∀ s ∈ o.takeWhile p, p s = true
  | [], s, h => by simp at h
  | x :: r, s, h => by
    rw [List.takeWhile_cons] at h
    cases hx : p x with
    | false => rw [hx] at h; simp at h
    | true =>
      rw [hx] at h
      simp at h
      rcases h with rfl | h
      · exact hx
      · exact takeW_all s h
theorem dropW_all {t : Tm} : ∀ {o : List Tm}, o.Pairwise LesP → (∀ s ∈ o, KeyNe s t) → ∀ s ∈ o.dropWhile (fun s => lesB s t), LesP t s
  | [], _, _, s, h => by simp at h
  | x :: r, hp, hk, s, h => by
    rw [List.dropWhile_cons] at h
    obtain ⟨h1, h2⟩ := List.pairwise_cons.1 hp
    cases hx : lesB x t with
    | true =>
      rw [hx] at h
      exact dropW_all h2 (fun s hs => hk s (by simp [hs])) s (by simpa using h)
    | false =>
      rw [hx] at h
      have hxt : LesP t x := by
        rcases les_tri x t with h3 | h3 | h3
        · exact absurd h3 (lesB_no.1 hx)
        · exact h3
        · exact absurd (by rw [h3]; exact ⟨rfl, rfl⟩) (hk x (by simp))
      have h : s ∈ x :: r := by simpa using h
      rcases List.mem_cons.1 h with rfl | h
      · exact hxt
      · exact les_trans hxt (h1 s h)
theorem keyNe_symm {s t : Tm} (h : KeyNe s t) : KeyNe t s := fun e => h ⟨e.1.symm, e.2.symm⟩
theorem take_plc (o : List Tm) (t : Tm) : o.take (plc o t) = o.takeWhile (fun s => lesB s t) := (List.prefix_iff_eq_take.1 (List.takeWhile_prefix _)).symm
theorem drop_plc (o : List Tm) (t : Tm) : o.drop (plc o t) = o.dropWhile (fun s => lesB s t) := by
  have h1 := List.take_append_drop (plc o t) o
  have h2 := List.takeWhile_append_dropWhile (p := fun s => lesB s t) (l := o)
  rw [take_plc] at h1
  exact List.append_cancel_left (h1.trans h2.symm)
theorem insL_queue {o : List Tm} {t : Tm} (h : Queue o) (ht : oneE t = 0) (hk : ∀ s ∈ o, KeyNe s t) : Queue (insL o t) := by
  refine ⟨fun s hs => ?_, ?_, ?_⟩
  · rcases List.mem_cons.1 ((insL_perm o t).mem_iff.1 hs) with rfl | hs
    · exact ht
    · exact h.1 s hs
  · unfold insL
    rw [take_plc, drop_plc]
    have hA := dropW_all h.2.1 hk
    have hB : ∀ s ∈ o.takeWhile (fun s => lesB s t), LesP s t := fun s hs => lesB_iff.1 (takeW_all s hs)
    refine List.pairwise_append.2 ⟨h.2.1.sublist (List.takeWhile_sublist _), List.pairwise_cons.2 ⟨hA, h.2.1.sublist (List.dropWhile_sublist _)⟩, fun s hs u hu => ?_⟩
    rcases List.mem_cons.1 hu with rfl | hu
    · exact hB s hs
    · exact les_trans (hB s hs) (hA u hu)
  · rw [(insL_perm o t).pairwise_iff (fun h => keyNe_symm h)]
    exact List.pairwise_cons.2 ⟨fun s hs => keyNe_symm (hk s hs), h.2.2⟩
theorem addQ_of {ts : List Tm} {t : Tm} (h : addE ts t = 0) : addQ ts t = insL (woL ts t.2.1 t.2.2) t := by unfold addQ; rw [if_pos h]
theorem addQ_no {ts : List Tm} {t : Tm} (h : addE ts t ≠ 0) : addQ ts t = [] := by unfold addQ; rw [if_neg h]
theorem addQ_queue {ts : List Tm} {t : Tm} (h : addE ts t = 0) : Queue (addQ ts t) := by
  obtain ⟨h1, h2⟩ := add_ok h
  rw [addQ_of h]
  exact insL_queue (woL_queue (chkE_iff.1 h1)) h2 woL_ne
theorem addE_of {ts : List Tm} {t : Tm} (h : Queue ts) (ht : oneE t = 0) : addE ts t = 0 := by
  unfold addE
  rw [if_neg (by simp [chkE_iff.2 h]), ht]

/-! ### Removing -/

theorem rmvL_of {ts : List Tm} {k i : Int} (h : chkE ts = 0) : rmvL ts k i = woL ts k i := by unfold rmvL; rw [if_pos h]
theorem rm_add {ts : List Tm} {t : Tm} (h : addE ts t = 0) : rmvL (addQ ts t) t.2.1 t.2.2 = woL ts t.2.1 t.2.2 := by
  rw [rmvL_of (chkE_iff.2 (addQ_queue h)), addQ_of h]
  have e : ∀ o : List Tm, woL (insL o t) t.2.1 t.2.2 = woL o t.2.1 t.2.2 := by
    intro o
    have hk : (!keyB t t.2.1 t.2.2) = false := by rw [keyB_iff.2 ⟨rfl, rfl⟩]; rfl
    conv => rhs; rw [← List.take_append_drop (plc o t) o]
    unfold insL woL
    rw [List.filter_append, List.filter_cons_of_neg (by rw [hk]; simp), List.filter_append]
  rw [e, woL_none (hasK_woL _ _ _)]
theorem chk_woL {ts : List Tm} {k i : Int} (h : chkE ts = 0) : chkE (woL ts k i) = 0 := chkE_iff.2 (woL_queue (chkE_iff.1 h))
theorem rm_rm {ts : List Tm} {k i : Int} (h : chkE ts = 0) : rmvL (woL ts k i) k i = woL ts k i := by rw [rmvL_of (chk_woL h), woL_none (hasK_woL _ _ _)]
theorem fndB_of {ts : List Tm} {k i : Int} (h : chkE ts = 0) : fndB ts k i = hasK ts k i := by unfold fndB; rw [decide_eq_true h]; rfl
theorem fndB_rm {ts : List Tm} {k i : Int} (h : chkE ts = 0) : fndB (woL ts k i) k i = false := by rw [fndB_of (chk_woL h), hasK_woL]

/-! ### Finding -/

theorem same_key {l : List Tm} (h : l.Pairwise KeyNe) {s t : Tm} (hs : s ∈ l) (ht : t ∈ l) (hk : s.2.1 = t.2.1 ∧ s.2.2 = t.2.2) : s = t := by
  obtain ⟨i, hi, rfl⟩ := List.getElem_of_mem hs
  obtain ⟨j, hj, rfl⟩ := List.getElem_of_mem ht
  rw [List.pairwise_iff_getElem] at h
  rcases Nat.lt_trichotomy i j with hij | rfl | hij
  · exact absurd hk (h i j hi hj hij)
  · rfl
  · exact absurd ⟨hk.1.symm, hk.2.symm⟩ (h j i hj hi hij)
theorem find_some {l : List Tm} {k i : Int} (h : hasK l k i = true) : ∃ s, l.find? (fun t => keyB t k i) = some s ∧ s ∈ l ∧ s.2.1 = k ∧ s.2.2 = i := by
  cases hf : l.find? (fun t => keyB t k i) with
  | none =>
    rw [List.find?_eq_none] at hf
    obtain ⟨s, hs, h1⟩ := hasK_iff.1 h
    exact absurd (keyB_iff.2 h1) (hf s hs)
  | some s =>
    have h1 : keyB s k i = true := List.find?_some (p := fun t => keyB t k i) hf
    exact ⟨s, rfl, List.mem_of_find?_eq_some hf, keyB_iff.1 h1⟩
theorem find_any {l : List Tm} {k i : Int} (h : chkE l = 0) : fndB l k i = l.any fun t => decide (t = (fndT l k i, k, i)) := by
  rw [fndB_of h]
  cases hh : hasK l k i with
  | false =>
    symm
    rw [List.any_eq_false]
    intro t ht e
    have e : t = (fndT l k i, k, i) := by simpa using e
    have : hasK l k i = true := hasK_iff.2 ⟨t, ht, by rw [e]; exact ⟨rfl, rfl⟩⟩
    rw [hh] at this
    cases this
  | true =>
    obtain ⟨s, h1, h2, h3, h4⟩ := find_some hh
    symm
    rw [List.any_eq_true]
    refine ⟨s, h2, ?_⟩
    have : fndT l k i = s.1 := by unfold fndT; rw [if_pos h, h1]; rfl
    rw [this, decide_eq_true_eq]
    obtain ⟨a, b, c⟩ := s
    dsimp only at h3 h4 ⊢
    rw [h3, h4]
theorem find_each {l : List Tm} {t : Tm} (h : chkE l = 0) (ht : t ∈ l) : fndB l t.2.1 t.2.2 = true ∧ fndT l t.2.1 t.2.2 = t.1 := by
  have hh : hasK l t.2.1 t.2.2 = true := hasK_iff.2 ⟨t, ht, rfl, rfl⟩
  refine ⟨by rw [fndB_of h, hh], ?_⟩
  obtain ⟨s, h1, h2, h3, h4⟩ := find_some hh
  have := same_key (chkE_iff.1 h).2.2 h2 ht ⟨h3, h4⟩
  unfold fndT
  rw [if_pos h, h1, this]
  rfl

/-! ### Expiring -/

theorem tw_spec (p : Tm → Bool) : ∀ l : List Tm, (∀ j, j < (l.takeWhile p).length → p (gt l j) = true) ∧ ((l.takeWhile p).length < l.length → p (gt l (l.takeWhile p).length) = false)
  | [] => ⟨fun j h => by simp at h, fun h => by simp at h⟩
  | x :: r => by
    obtain ⟨h1, h2⟩ := tw_spec p r
    have g0 : gt (x :: r) 0 = x := rfl
    have gs : ∀ j, gt (x :: r) (j + 1) = gt r j := fun j => by unfold gt; rw [List.getElem?_cons_succ]
    rw [List.takeWhile_cons]
    cases hx : p x with
    | false =>
      simp only [Bool.false_eq_true, if_false, List.length_nil]
      exact ⟨fun j h => by omega, fun _ => by rw [g0]; exact hx⟩
    | true =>
      simp only [if_true, List.length_cons]
      refine ⟨fun j h => ?_, fun h => ?_⟩
      · cases j with
        | zero => rw [g0]; exact hx
        | succ j => rw [gs]; exact h1 j (by omega)
      · rw [gs]; exact h2 (by omega)
theorem due_lt {l : List Tm} {now : Int} {j : Nat} (h : j < dueN l now) : (gt l j).1 ≤ now := of_decide_eq_true ((tw_spec _ l).1 j h)
theorem due_ge {l : List Tm} {now : Int} (h : dueN l now < l.length) : now < (gt l (dueN l now)).1 := by
  have := of_decide_eq_false ((tw_spec (fun t => decide (t.1 ≤ now)) l).2 h)
  have h2 : ¬ (gt l (dueN l now)).1 ≤ now := this
  omega
theorem due_more {l : List Tm} {now later : Int} (h : now ≤ later) : dueN l later = dueN l now + dueN (l.drop (dueN l now)) later := by
  have h1 := dueN_le l now
  have h2 := dueN_le (l.drop (dueN l now)) later
  rw [List.length_drop] at h2
  refine len_takeWhile (by omega) (fun j hj => decide_eq_true ?_) (fun hlt => decide_eq_false ?_)
  · by_cases hjn : j < dueN l now
    · have := due_lt hjn
      omega
    · have := due_lt (l := l.drop (dueN l now)) (now := later) (j := j - dueN l now) (by omega)
      rw [gt_drop, show dueN l now + (j - dueN l now) = j by omega] at this
      exact this
  · have := due_ge (l := l.drop (dueN l now)) (now := later) (by rw [List.length_drop]; omega)
    rw [gt_drop] at this
    omega
theorem chk_drop {l : List Tm} {n : Nat} (h : chkE l = 0) : chkE (l.drop n) = 0 := chkE_iff.2 ((chkE_iff.1 h).sub (List.drop_sublist _ _))
theorem exp_due {l : List Tm} {now later : Int} (hc : chkE l = 0) (h : now ≤ later) : dueL l now ++ dueL (rstL l now) later = dueL l later ∧ rstL (rstL l now) later = rstL l later := by
  unfold dueL rstL
  rw [if_pos hc, if_pos hc, if_pos (chk_drop hc), if_pos hc, if_pos (chk_drop hc), if_pos hc]
  have e := due_more (l := l) h
  generalize dueN l later = N at e ⊢
  generalize dueN (l.drop (dueN l now)) later = M at e ⊢
  subst e
  refine ⟨by rw [List.take_add], by rw [List.drop_drop]⟩
theorem exp_all {l : List Tm} {now : Int} (hc : chkE l = 0) : dueL l now ++ rstL l now = l := by
  unfold dueL rstL
  rw [if_pos hc, if_pos hc, List.take_append_drop]
theorem exp_late {l : List Tm} {now : Int} (hc : chkE l = 0) : ((dueL l now).any fun t => decide (now < t.1)) = false := by
  unfold dueL
  rw [if_pos hc, List.any_eq_false]
  intro t ht e
  have e : now < t.1 := of_decide_eq_true e
  obtain ⟨j, hj, rfl⟩ := mem_gt ht
  rw [List.length_take] at hj
  rw [gt_take (by omega)] at e
  have := due_lt (l := l) (now := now) (j := j) (by omega)
  omega
theorem exp_next {l : List Tm} {now : Int} (hc : chkE l = 0) : nxtB (rstL l now) = decide (0 < (rstL l now).length) ∧ (0 < (rstL l now).length → now < nxtT (rstL l now)) := by
  have hr : rstL l now = l.drop (dueN l now) := by unfold rstL; rw [if_pos hc]
  rw [hr]
  refine ⟨by unfold nxtB; rw [decide_eq_true (chk_drop hc)]; rfl, fun h => ?_⟩
  rw [List.length_drop] at h
  unfold nxtT
  rw [if_pos (chk_drop hc), gt_drop]
  exact due_ge (by omega)

/-! ### Going on from the next time to the next one -/

theorem gt_sorted {l : List Tm} (h : l.Pairwise LesP) {i j : Nat} (hij : i ≤ j) (hj : j < l.length) : (gt l i).1 ≤ (gt l j).1 := by
  by_cases e : i = j
  · subst e; omega
  · have := List.pairwise_iff_getElem.1 h i j (by omega) hj (by omega)
    unfold gt
    rw [List.getElem?_eq_getElem hj, List.getElem?_eq_getElem (by omega : i < l.length)]
    unfold LesP at this
    simp only [Option.getD_some]
    omega
theorem run_due {l : List Tm} (hc : chkE l = 0) (h0 : 0 < l.length) : 0 < dueN l (gt l 0).1 ∧ ((dueL l (gt l 0).1).any fun t => t.1 != (gt l 0).1) = false := by
  have hs := (chkE_iff.1 hc).2.1
  refine ⟨?_, ?_⟩
  · apply Nat.pos_of_ne_zero
    intro e
    have := due_ge (l := l) (now := (gt l 0).1) (by rw [e]; exact h0)
    rw [e] at this
    omega
  · unfold dueL
    rw [if_pos hc, List.any_eq_false]
    intro t ht e
    have e : t.1 ≠ (gt l 0).1 := by simpa using e
    obtain ⟨j, hj, rfl⟩ := mem_gt ht
    rw [List.length_take] at hj
    rw [gt_take (by omega)] at e
    have h1 := due_lt (l := l) (now := (gt l 0).1) (j := j) (by omega)
    have h2 := gt_sorted hs (Nat.zero_le j) (by omega)
    omega

/-! ### Adding one after the other -/

def lastL : List Tm → List Tm
  | [] => []
  | t :: r => if hasK r t.2.1 t.2.2 = true then lastL r else t :: lastL r
theorem hasK_cons {t : Tm} {r : List Tm} {k i : Int} : hasK (t :: r) k i = (keyB t k i || hasK r k i) := rfl
theorem keyB_comm (s t : Tm) : keyB t s.2.1 s.2.2 = keyB s t.2.1 t.2.2 := by
  rw [Bool.eq_iff_iff, keyB_iff, keyB_iff]
  exact ⟨fun h => ⟨h.1.symm, h.2.symm⟩, fun h => ⟨h.1.symm, h.2.symm⟩⟩
theorem adds_spec : ∀ {l q q' : List Tm}, Queue q → adds q l = some q' → Queue q' ∧ (∀ t ∈ l, oneE t = 0) ∧ q'.Perm (q.filter (fun s => !hasK l s.2.1 s.2.2) ++ lastL l)
  | [], q, q', hq, h => by
    have h : some q = some q' := h
    injection h with h
    subst h
    refine ⟨hq, by simp, ?_⟩
    rw [show (q.filter fun s => !hasK [] s.2.1 s.2.2) = q from List.filter_eq_self.2 (fun _ _ => rfl), show lastL [] = [] from rfl, List.append_nil]
  | t :: r, q, q', hq, h => by
    unfold adds at h
    by_cases he : addE q t = 0
    · rw [if_pos he] at h
      obtain ⟨h1, h2, h3⟩ := adds_spec (addQ_queue he) h
      refine ⟨h1, fun s hs => ?_, h3.trans ?_⟩
      · rcases List.mem_cons.1 hs with rfl | hs
        · exact (add_ok he).2
        · exact h2 s hs
      · rw [addQ_of he]
        refine (((insL_perm _ t).filter _).append_right _).trans ?_
        have hf : (woL q t.2.1 t.2.2).filter (fun s => !hasK r s.2.1 s.2.2) = q.filter (fun s => !hasK (t :: r) s.2.1 s.2.2) := by
          unfold woL
          rw [List.filter_filter]
          congr 1
          funext s
          rw [hasK_cons, keyB_comm s t, Bool.not_or, Bool.and_comm]
        rw [List.filter_cons, hf]
        rw [show lastL (t :: r) = if hasK r t.2.1 t.2.2 = true then lastL r else t :: lastL r from rfl]
        cases hk : hasK r t.2.1 t.2.2 with
        | true => simp
        | false =>
          simp
          exact List.perm_middle.symm
    · rw [if_neg he] at h
      cases h
theorem adds_ok : ∀ {l q : List Tm}, Queue q → (∀ t ∈ l, oneE t = 0) → ∃ q', adds q l = some q'
  | [], q, _, _ => ⟨q, rfl⟩
  | t :: r, q, hq, h => by
    have he := addE_of hq (h t (by simp))
    unfold adds
    rw [if_pos he]
    exact adds_ok (addQ_queue he) (fun s hs => h s (by simp [hs]))
theorem queue_nil : Queue [] := ⟨by simp, List.Pairwise.nil, List.Pairwise.nil⟩
theorem adds_last {l : List Tm} (h : addsB l = true) : Queue (addsL l) ∧ (∀ t ∈ l, oneE t = 0) ∧ (addsL l).Perm (lastL l) := by
  unfold addsB at h
  obtain ⟨q, hq⟩ := Option.isSome_iff_exists.1 h
  obtain ⟨h1, h2, h3⟩ := adds_spec queue_nil hq
  unfold addsL
  rw [hq]
  exact ⟨h1, h2, h3⟩
theorem last_drop : ∀ {l : List Tm} {k : Nat}, ∀ t ∈ lastL (l.drop k), t ∈ lastL l
  | l, 0, t, h => by simpa using h
  | [], k + 1, t, h => by simp at h; exact h
  | x :: r, k + 1, t, h => by
    have h := last_drop (l := r) (k := k) t (by simpa using h)
    unfold lastL
    split
    · exact h
    · exact List.mem_cons_of_mem _ h
theorem last_step {l : List Tm} {k : Nat} (hk : k < l.length) : lastL (l.drop k) = if hasK (l.drop (k + 1)) (gt l k).2.1 (gt l k).2.2 = true then lastL (l.drop (k + 1)) else gt l k :: lastL (l.drop (k + 1)) := by
  rw [drop_consT l k hk]
  rfl
theorem last_in {l : List Tm} (h : addsB l = true) {k : Nat} (hk : k < l.length) (hl : hasK (l.drop (k + 1)) (gt l k).2.1 (gt l k).2.2 = false) : ((addsL l).any fun t => decide (t = gt l k)) = true := by
  have h1 : gt l k ∈ lastL (l.drop k) := by rw [last_step hk, hl]; simp
  have h2 := (adds_last h).2.2.mem_iff.2 (last_drop _ h1)
  rw [List.any_eq_true]
  exact ⟨_, h2, by simp⟩

/-! ### The order in which timers are added -/

theorem last_all : ∀ {l : List Tm}, l.Pairwise KeyNe → lastL l = l
  | [], _ => rfl
  | t :: r, h => by
    obtain ⟨h1, h2⟩ := List.pairwise_cons.1 h
    unfold lastL
    have : hasK r t.2.1 t.2.2 = false := by
      cases hh : hasK r t.2.1 t.2.2 with
      | false => rfl
      | true =>
        obtain ⟨s, hs, hk⟩ := hasK_iff.1 hh
        exact absurd ⟨hk.1.symm, hk.2.symm⟩ (h1 s hs)
    rw [this, if_neg (by simp), last_all h2]
theorem queue_ext : ∀ {a b : List Tm}, a.Pairwise LesP → b.Pairwise LesP → a.Perm b → a = b
  | [], b, _, _, h => (List.nil_perm.1 h).symm
  | x :: r, b, ha, hb, h => by
    cases b with
    | nil => exact absurd h.length_eq (by simp)
    | cons y s =>
      obtain ⟨h1, h2⟩ := List.pairwise_cons.1 ha
      obtain ⟨k1, k2⟩ := List.pairwise_cons.1 hb
      have hxy : x = y := by
        rcases List.mem_cons.1 (h.mem_iff.1 (List.mem_cons_self : x ∈ x :: r)) with e | e
        · exact e
        · rcases List.mem_cons.1 (h.mem_iff.2 (List.mem_cons_self : y ∈ y :: s)) with e2 | e2
          · exact e2.symm
          · exact absurd (k1 x e) (les_asym (h1 y e2))
      subst hxy
      rw [queue_ext h2 k2 (List.perm_cons x |>.1 h)]
theorem orders_same {l m : List Tm} (h : addsB l = true) (hk : l.Pairwise KeyNe) (hp : m.Perm l) : addsB m = true ∧ addsL l = addsL m ∧ (addsL l).length = l.length := by
  obtain ⟨h1, h2, h3⟩ := adds_last h
  have hm : addsB m = true := by
    obtain ⟨q, hq⟩ := adds_ok (l := m) queue_nil (fun t ht => h2 t (hp.mem_iff.1 ht))
    unfold addsB
    rw [hq]
    rfl
  obtain ⟨k1, k2, k3⟩ := adds_last hm
  have hkm : m.Pairwise KeyNe := (hp.pairwise_iff (fun h => keyNe_symm h)).2 hk
  rw [last_all hk] at h3
  rw [last_all hkm] at k3
  exact ⟨hm, queue_ext h1.2.1 k1.2.1 (h3.trans (hp.symm.trans k3.symm)), h3.length_eq⟩

end Go.Proofs.Ytcmcgcogahkamaa
