/-
  The program's divide: what its loop keeps.
-/
import Derived.Test.YtdgphhdkeikbaaaDoorLxMem
namespace Go.Proofs.YtdgphhdkeikbaaaDoor
set_option linter.unusedSimpArgs false
set_option linter.unusedVariables false
open Go.RowKit

theorem tw_go {L : LBy} {p : UInt8 → Bool} {pos : Nat} : ∀ (d : Nat), (∀ k, pos ≤ k → k < pos + d → ∃ c, L[k]? = some c ∧ p c = true) → pos + ((L.drop pos).takeWhile p).length = (L.takeWhile p).length → pos + d + ((L.drop (pos + d)).takeWhile p).length = (L.takeWhile p).length := by
  intro d
  induction d with
  | zero => intro _ h; exact h
  | succ d ih =>
    intro h he
    have := ih (fun k h1 h2 => h k h1 (by omega)) he
    obtain ⟨c, hc, hp⟩ := h (pos + d) (by omega) (by omega)
    rw [drop_at hc, List.takeWhile_cons, if_pos hp, List.length_cons] at this
    rw [show pos + (d + 1) = pos + d + 1 from rfl]
    omega
theorem tw_stop {L : LBy} {p : UInt8 → Bool} {pos : Nat} {c : UInt8} (h : L[pos]? = some c) (hp : p c = false) (he : pos + ((L.drop pos).takeWhile p).length = (L.takeWhile p).length) : (L.takeWhile p).length = pos := by
  rw [drop_at h, List.takeWhile_cons, if_neg (by rw [hp]; decide)] at he
  simpa using he.symm
theorem one_asc {l : LBy} {k : Int} {n v : Nat} (h : one l = .tk k n v) : ∀ c ∈ l.take n, c.toNat < 128 := by
  have hs : ∀ s ∈ signL, ∀ c ∈ s, c.toNat < 128 := by decide
  cases l with
  | nil => cases h
  | cons c r =>
    unfold one at h
    simp only at h
    by_cases h1 : isLow c = true
    · rw [if_pos h1] at h
      split at h
      · cases h
      · injection h with _ h _
        subst h
        intro x hx
        exact nm_lt (mem_take_wd hx)
    · rw [if_neg h1] at h
      by_cases h2 : isDg c = true
      · rw [if_pos h2] at h
        split at h
        · cases h
        · split at h
          · cases h
          · injection h with _ h _
            subst h
            intro x hx
            unfold dgN at hx
            rw [take_tw] at hx
            exact nm_lt (dg_nm (mem_tw hx))
      · rw [if_neg h2] at h
        split at h
        · cases h
        · injection h with _ h _
          subst h
          intro x hx
          unfold sgN sgF at hx
          cases hf : signL.find? (fun s => s.isPrefixOf (c :: r)) with
          | none => rw [hf] at hx; simp at hx
          | some y =>
            rw [hf] at hx
            have h0 : y.isPrefixOf (c :: r) = true := List.find?_some (p := fun (s : LBy) => s.isPrefixOf (c :: r)) hf
            have h3 := List.isPrefixOf_iff_prefix.1 h0
            have h4 := List.mem_of_find?_eq_some hf
            simp only [Option.getD_some] at hx
            rw [← List.prefix_iff_eq_take.1 h3] at hx
            exact hs y h4 x hx
theorem one_first {c : UInt8} {r : LBy} {k : Int} {n v : Nat} (h : one (c :: r) = .tk k n v) : c.toNat < 128 := by
  have h1 := (one_tk h).1
  obtain ⟨n, rfl⟩ : ∃ m, n = m + 1 := ⟨n - 1, by omega⟩
  exact one_asc h c (by rw [List.take_succ_cons]; simp)
structure LxI (s : ByteArray) (pos en : Nat) (acc : List Tk) : Prop where
  enl : en ≤ s.size
  po : pos ≤ s.size
  res : lexL s.data.toList = lxx (s.data.toList.drop (max pos en)) (max pos en) acc
  asc : (∀ k, pos ≤ k → k < en → ∃ d, s.data.toList[k]? = some d ∧ d.toNat < 128) ∨ en = s.size ∨ ∃ d, s.data.toList[en]? = some d ∧ d.toNat < 128
  sh : acc.length ≤ max pos en
theorem LxI.start (s : ByteArray) : LxI s 0 0 [] := ⟨Nat.zero_le _, Nat.zero_le _, rfl, .inl (fun k h1 h2 => absurd h2 (by omega)), Nat.zero_le _⟩
theorem LxI.skip {s : ByteArray} {pos en r wd : Nat} {acc : List Tk} {c : UInt8} (h : LxI s pos en acc) (hp : pos < en) (hc : s.data.toList[pos]? = some c) (hr : RuneAt s pos c r wd) : LxI s (pos + wd) en acc := by
  have hle : pos + wd ≤ en := by
    rcases h.asc with ha | ha | ⟨d, hd, ha⟩
    · obtain ⟨d, hd, hd2⟩ := ha pos (Nat.le_refl _) hp
      rw [hc] at hd
      cases hd
      have := (hr.asc hd2).2
      omega
    · have := hr.wl; omega
    · rcases Nat.lt_or_ge en (pos + wd) with hh | hh
      · obtain ⟨d', hd', h2⟩ := hr.cont en hp hh
        rw [hd] at hd'
        cases hd'
        omega
      · exact hh
  have e1 : max pos en = en := by omega
  have e2 : max (pos + wd) en = en := by omega
  refine ⟨h.enl, hr.wl, by rw [e2, h.res, e1], ?_, by have := h.sh; omega⟩
  rcases h.asc with ha | ha
  · exact .inl (fun k h1 h2 => ha k (by omega) h2)
  · exact .inr ha
theorem LxI.space {s : ByteArray} {pos en : Nat} {acc : List Tk} {c : UInt8} (h : LxI s pos en acc) (hp : ¬ pos < en) (hl : pos < s.size) (hc : s.data.toList[pos]? = some c) (hs : isSp c = true) : LxI s (pos + 1) en acc := by
  have e1 : max pos en = pos := by omega
  have e2 : max (pos + 1) en = pos + 1 := by omega
  refine ⟨h.enl, hl, ?_, .inl (fun k h1 h2 => by omega), by have := h.sh; omega⟩
  rw [e2, h.res, e1, drop_at hc, lxx_sp hs]
theorem LxI.comm {s : ByteArray} {pos en j : Nat} {acc : List Tk} {c : UInt8} (h : LxI s pos en acc) (hp : ¬ pos < en) (hl : pos < s.size) (hc : s.data.toList[pos]? = some 35)
    (hj : ((s.data.toList.drop pos).takeWhile isCm).length = j) : lexL s.data.toList = lxx (s.data.toList.drop (pos + j)) (pos + j) acc ∧ 1 ≤ j := by
  have e1 : max pos en = pos := by omega
  have h35 : (s.data.toList.drop pos).head? = some 35 := by rw [drop_at hc]; rfl
  refine ⟨?_, ?_⟩
  · rw [h.res, e1, lxx_cm h35, drop_tw, List.drop_drop, hj]
  · rw [← hj, drop_at hc, List.takeWhile_cons, if_pos (by decide)]; simp
/-- A comment that a line feed ends. -/
theorem LxI.commN {s : ByteArray} {pos en j : Nat} {acc : List Tk} (h : LxI s pos en acc) (hp : ¬ pos < en) (hl : pos < s.size) (hc : s.data.toList[pos]? = some 35)
    (hj : ((s.data.toList.drop pos).takeWhile isCm).length = j) (hn : (s.data.toList.drop pos)[j]? = some 10) : LxI s (pos + 1) (pos + j) acc := by
  obtain ⟨h1, h2⟩ := h.comm (c := 35) hp hl hc hj
  have h3 : s.data.toList[pos + j]? = some 10 := by rw [List.getElem?_drop] at hn; exact hn
  have h4 := (List.getElem?_eq_some_iff.1 h3).1
  rw [list_len] at h4
  have e2 : max (pos + 1) (pos + j) = pos + j := by omega
  exact ⟨by omega, hl, by rw [e2]; exact h1, .inr (.inr ⟨10, h3, by decide⟩), by have := h.sh; omega⟩
theorem LxI.last {s : ByteArray} {acc : List Tk} {m : Nat} (h : lexL s.data.toList = lxx (s.data.toList.drop m) m acc) (hm : m = s.size) : lexL s.data.toList = (acc ++ [⟨0, .empty, 0, s.size⟩], 0, 0) := by
  subst hm
  rw [h, List.drop_of_length_le (by rw [list_len]; exact Nat.le_refl _), lxx_nil]
theorem LxI.tok {s : ByteArray} {pos en : Nat} {acc : List Tk} {c : UInt8} (h : LxI s pos en acc) (hp : ¬ pos < en) (hl : pos < s.size) (hc : s.data.toList[pos]? = some c) (h1 : isSp c = false) (h2 : c ≠ 35) :
    (∃ e, tokR (s.data.toList.drop pos) pos = (zTk, e) ∧ e ≠ 0 ∧ lexL s.data.toList = ([], pos, e)) ∨
    (∃ T, tokR (s.data.toList.drop pos) pos = (T, 0) ∧ c.toNat < 128 ∧ LxI s (pos + 1) (pos + T.t.size) (acc ++ [T])) := by
  have e1 : max pos en = pos := by omega
  have hd := drop_at hc
  cases h3 : one (c :: s.data.toList.drop (pos + 1)) with
  | er e =>
    left
    have he : e ≠ 0 := by
      rintro rfl
      revert h3
      unfold one
      simp only
      repeat' split
      all_goals (intro q; cases q)
    refine ⟨e, ?_, he, ?_⟩
    · unfold tokR; rw [hd, h3]
    · rw [h.res, e1, hd, lxx_er h1 h2 h3]
  | tk k n v =>
    right
    have hn := one_tk h3
    rw [← hd, List.length_drop, list_len] at hn
    have hsz : (bB ((c :: s.data.toList.drop (pos + 1)).take n)).size = n := by
      rw [bB_size, ← hd, List.length_take, List.length_drop, list_len]; omega
    refine ⟨_, by unfold tokR; rw [hd, h3], one_first h3, ?_⟩
    have e2 : max (pos + 1) (pos + n) = pos + n := by omega
    simp only [hsz]
    refine ⟨by omega, hl, ?_, .inl (fun x hx1 hx2 => ?_), ?_⟩
    · rw [e2, h.res, e1]
      conv => lhs; rw [hd, lxx_tk h1 h2 h3]
      rw [← hd, List.drop_drop]
    · have hxl : x < s.data.toList.length := by rw [list_len]; omega
      refine ⟨_, List.getElem?_eq_getElem hxl, ?_⟩
      apply one_asc h3
      rw [← hd]
      have : (List.take n (List.drop pos s.data.toList))[x - pos]? = some s.data.toList[x] := by
        rw [List.getElem?_take, if_pos (by omega), List.getElem?_drop, show pos + (x - pos) = x by omega]
        exact List.getElem?_eq_getElem hxl
      exact List.mem_of_getElem? this
    · rw [e2, List.length_append, List.length_singleton]
      have := h.sh
      omega
theorem ipos {w : World} {k : Nat} {s : ByteArray} {p : Nat} (h : w.heap[k]? = some (.stringIter s p)) : w.iterPos k = p := by simp [World.iterPos, h]
theorem OwnK.keep {B : Nat} {ts : List Tk} {v : Value} {w w' : World} (h : OwnK B ts v w) (hk : ∀ k, B ≤ k → k < w.heap.size → w'.heap[k]? = w.heap[k]?) : OwnK B ts v w' := by
  obtain ⟨h1, h2⟩ := h
  refine ⟨h1, ?_⟩
  rcases h2 with h2 | ⟨g, cap, cur, hv, hg, hh, r⟩
  · exact Or.inl h2
  · exact Or.inr ⟨g, cap, cur, hv, hg, by rw [hk g hg (ltH hh)]; exact hh, r⟩
end Go.Proofs.YtdgphhdkeikbaaaDoor
