/-
  The program's isNumber and nameAt.
-/
import Derived.Test.YtdgphhdkeikbaaaDoorLxRune
namespace Go.Proofs.YtdgphhdkeikbaaaDoor
set_option linter.unusedSimpArgs false
set_option linter.unusedVariables false
open Go.RowKit

abbrev TTk : TypeId := 37
def tkV (t : Tk) : Value := .agg #[.int .i64 t.k, .string t.t, .int .i64 t.v, .int .i64 t.a]
def zTk : Tk := ⟨0, .empty, 0, 0⟩
def nbB (l : LBy) : Bool := l.all isDg && (decide (l = [48]) || decide (l.head? ≠ some 48))
theorem all_drop {L : LBy} {p : UInt8 → Bool} {pos : Nat} {c : UInt8} (h : L[pos]? = some c) : (L.drop pos).all p = (p c && (L.drop (pos + 1)).all p) := by rw [drop_at h, List.all_cons]
set_option maxHeartbeats 2000000 in
theorem isNumber_any (s : ByteArray) (w : World) (hs : s.size ≤ 4000) (h0 : 1 ≤ s.size) (hn : ∀ c ∈ s.data.toList, isNmC c = true) :
    Calls Tryd.prog 96 #[.string s] w fun x w' => x = .returned (.bool (nbB s.data.toList)) ∧ Below w.heap.size w w' := by
  have HD := Lib.hid (fun r W => lxDigit_any r W)
  have HS := Lib.hid hs
  have HN := Lib.hid hn
  have HBI : Hid (∀ pos, Below w.heap.size w (w.iter s pos)) := Lib.hid (fun pos => (Below.refl _ w).alloc (Nat.le_refl _) _)
  clear hn
  go_enter Tryd.func96, Tryd.ntmps96
  go_wp2
  go_loopw [4] (fun _ w' => ∃ pos : Nat, w' = w.iter s pos ∧ pos ≤ s.size ∧ Hid (s.data.toList.all isDg = (s.data.toList.drop pos).all isDg)) (fun _ w' => s.size - w'.iterPos w.heap.size)
  case atStart => exact ⟨0, rfl, Nat.zero_le _, Lib.hid (by simp)⟩
  case round =>
    obtain ⟨pos, rfl, hp0, HE⟩ := hrel
    by_cases hp : pos < s.size
    · obtain ⟨c, hc, hr⟩ := rune_at s pos hp
      have hcm := HN.out c (List.mem_of_getElem? hc)
      have hnx : ∀ ty, (Instr.next (.pointer (some ⟨w.heap.size, 0, none⟩)) true ty).run Tryd.prog (w.iter s pos) = _ := fun ty => run_next_any w s pos ty hp
      have HDR := digR_eq hr
      obtain ⟨R, hR⟩ : ∃ R, (Utf8.decode s pos).1 = R := ⟨_, rfl⟩
      obtain ⟨wd, hwd⟩ : ∃ R, (Utf8.decode s pos).2 = R := ⟨_, rfl⟩
      rw [hR] at HDR hr hnx
      rw [hwd] at hr hnx
      have H2 := HD.out (R : Int)
      rw [HDR] at H2
      have HC := Lib.hid hc
      obtain rfl := (hr.asc (nm_lt hcm)).2
      clear HDR hR hwd hc hr hcm
      by_cases h2 : isDg c = true
      · have HG := Lib.hid h2
        rw [h2] at H2
        replace H2 := Lib.hid H2
        clear h2
        go_wp2_with (refine (H2.out _).mono ?_; rintro x w' ⟨rfl, rfl⟩)
        go_roundw
        case rel => exact ⟨pos + 1, rfl, hp, Lib.hid (by rw [HE.out, all_drop HC.out, HG.out]; rfl)⟩
        case measure => simp; omega
      · have HG : Hid (isDg c = false) := Lib.hid (by simpa using h2)
        rw [HG.out] at H2
        replace H2 := Lib.hid H2
        clear h2
        go_wp2_with (refine (H2.out _).mono ?_; rintro x w' ⟨rfl, rfl⟩)
        go_ret
        exact ⟨by unfold nbB; rw [HE.out, all_drop HC.out, HG.out]; rfl, HBI.out _⟩
    · have hnx : ∀ ty, (Instr.next (.pointer (some ⟨w.heap.size, 0, none⟩)) true ty).run Tryd.prog (w.iter s pos) = _ := fun ty => run_next_end w s pos ty hp
      have HA : Hid (s.data.toList.all isDg = true) := Lib.hid (by
        rw [HE.out, List.drop_of_length_le (by rw [list_len]; omega)]; rfl)
      have hg := get_list s 0 (by omega)
      have hsi : s.get! 0 = s[0]'(by omega) := get_at s 0 (by omega)
      rw [hsi] at hg
      have hhd : s.data.toList.head? = some (s[0]'(by omega)) := by rw [List.head?_eq_getElem?]; exact hg
      have HH := Lib.hid hhd
      by_cases h1 : s.data.toList = [48]
      · have hse : s = ⟨#[48]⟩ := by
          have : s.data = #[48] := by rw [← Array.toArray_toList (xs := s.data), h1]
          cases s; exact congrArg ByteArray.mk this
        subst hse
        have HR : Hid (nbB [48] = true) := Lib.hid (by decide)
        clear hg hsi hhd h1
        go_wp2
        go_ret
        exact ⟨by rw [HR.out]; rfl, HBI.out _⟩
      · have hse : (s.toList == [48]) = false := by
          rw [beq_eq_false_iff_ne]
          intro e
          apply h1
          rw [← e]
          exact (ByteArray.toList_eq s).symm
        have hd : (s.data.toList == [48]) = false := by rw [beq_eq_false_iff_ne]; exact h1
        have HR : Hid (nbB s.data.toList = (decide ((s[0]'(by omega)) ≠ 48))) := Lib.hid (by
          unfold nbB
          rw [HA.out, HH.out]
          simp [h1])
        have hne : ((((s[0]'(by omega)).toNat : Nat) : Int) != 48) = (decide ((s[0]'(by omega)) ≠ 48)) := by
          rw [Bool.eq_iff_iff]
          simp only [bne_iff_ne, ne_eq, decide_eq_true_eq]
          constructor
          · intro q e; rw [e] at q; exact q rfl
          · intro q e; exact q (UInt8.toNat_inj.1 (by have : (48 : UInt8).toNat = 48 := rfl; omega))
        have h0i : (0 : Int) < (s.size : Int) := by omega
        clear hg hsi hhd h1
        go_wp2
        go_ret
        exact ⟨by rw [HR.out]; simp, HBI.out _⟩
theorem ltH {w : World} {g : Nat} {o : Obj} (h : w.heap[g]? = some o) : g < w.heap.size := (Array.getElem?_eq_some_iff.1 h).1
theorem heapNew (w : World) (o : Obj) : (w.alloc o).heap[w.heap.size]? = some o := by
  show (w.heap.push o)[w.heap.size]? = _
  simp
theorem ret_tk {fn : Func} {p u : Tmp} (hf : fn.results = #[.cell p TTk, .tmp u]) (W : World) (g : Nat) (t : Tk) (x : Value) (tmps : Array Value) (hg : W.heap[g]? = some (.cells #[.int .i64 t.k, .string t.t, .int .i64 t.v, .int .i64 t.a] TTk (0, 0)))
    (hp : tmps.getD p undef = .pointer (some ⟨g, 0, none⟩)) (hu : tmps.getD u undef = x) : (results fn tmps).run Tryd.prog W = .ok (.tuple #[tkV t, x]) W := by
  have hl := run_loadVar_row (P := Tryd.prog) W g TTk _ _ (0, 0) _ hg Tryd.underlying37 rfl (by kernel_rfl)
  rw [results_cell_tmp hf]
  simp [asAddr, hl, hp, hu, Result.andThen, tkV]
theorem nameAt_any (s : ByteArray) (a : Nat) (w : World) (hs : s.size ≤ 4000) :
    Calls Tryd.prog 86 #[.string s, .int .i64 (a : Int)] w fun x w' => x = .returned (.tuple (if 30 < s.size then #[tkV zTk, .int .i64 5] else #[tkV ⟨1, s, 0, a⟩, .int .i64 0])) ∧ Below w.heap.size w w' := by
  by_cases h : 30 < s.size
  · have h1 : (30 : Int) < (s.size : Int) := by omega
    rw [if_pos h]
    go_enter Tryd.func86, Tryd.ntmps86
    go_wp2
    exact bodyPost_ret (ret_tk Tryd.results86 _ w.heap.size zTk _ _ (heapNew w _) rfl rfl) rfl ⟨rfl, (Below.refl _ w).alloc (Nat.le_refl _) _⟩
  · have h1 : ¬ (30 : Int) < (s.size : Int) := by omega
    rw [if_neg h]
    go_enter Tryd.func86, Tryd.ntmps86
    go_wp2
    exact bodyPost_ret (ret_tk Tryd.results86 _ w.heap.size ⟨1, s, 0, a⟩ _ _ (heapNew w _) rfl rfl) rfl ⟨rfl, (Below.refl _ w).alloc (Nat.le_refl _) _⟩
end Go.Proofs.YtdgphhdkeikbaaaDoor
