/-
  The walk of LexerOffsets.
-/
import Derived.Test.YtdgphhdkeikbaaaDoorLxSepW
import Derived.Test.YtdgphhdkeikbaaaDoorLxAwake
import Derived.Test.YtdgphhdkeikbaaaDoorLxLawErr
namespace Go.Proofs.YtdgphhdkeikbaaaDoor
set_option linter.unusedSimpArgs false
set_option linter.unusedVariables false
open Go.RowKit

theorem lx_err (f : Nat) : ∀ (l : LBy) (a : Nat) (acc m : List Tk) (i : Nat) (q : Int), lx f l a acc = (m, i, q) → q ≠ 0 → m = [] := by
  induction f with
  | zero => intro l a acc m i q h _; injection h with h _; exact h.symm
  | succ f ih =>
    intro l a acc m i q h hq
    cases l with
    | nil => injection h with _ h; injection h with _ h; exact absurd h.symm hq
    | cons c r =>
      rw [lx] at h
      by_cases h1 : isSp c = true
      · rw [if_pos h1] at h; exact ih _ _ _ _ _ _ h hq
      · rw [if_neg h1] at h
        by_cases h2 : c = 35
        · rw [if_pos h2] at h; exact ih _ _ _ _ _ _ h hq
        · rw [if_neg h2] at h
          cases h3 : one (c :: r) with
          | er e => rw [h3] at h; injection h with h _; exact h.symm
          | tk k n v => rw [h3] at h; exact ih _ _ _ _ _ _ h hq
theorem lexT_err {s : ByteArray} {ts : List Tk} {i : Nat} {q : Int} (h : lexT s = (ts, i, q)) (hq : q ≠ 0) : ts = [] := by
  unfold lexT at h
  split at h
  · injection h with h _; exact h.symm
  · exact lx_err _ _ _ _ _ _ _ h hq
theorem ext_mid (s : ByteArray) (a b : Nat) (h : a ≤ b) : (s.extract a b).data.toList = (s.data.toList.drop a).take (b - a) := by
  rw [show (s.extract a b).data = s.data.extract a b from by simp, Array.toList_extract, List.extract_eq_take_drop]
/-- What a round of the loop finds. -/
theorem off_round {s : ByteArray} {ts : List Tk} {k en : Nat} (h : OffR s.data.toList en (ts.drop k)) (hk : k < ts.length) : en ≤ (gk ts k).a ∧ (gk ts k).a ≤ s.size ∧ (gk ts k).a + (gk ts k).t.size ≤ s.size ∧
    Lib.hasPrefix (s.extract (gk ts k).a s.size).data.toList (gk ts k).t.data.toList = true ∧ sepB (s.extract en (gk ts k).a).data.toList = true ∧
    ((k + 1 = ts.length ∧ (gk ts k).k = 0 ∧ (gk ts k).t = .empty ∧ (gk ts k).a = s.size) ∨ (k + 1 < ts.length ∧ (gk ts k).k ≠ 0 ∧ (gk ts k).t ≠ .empty ∧ OffR s.data.toList ((gk ts k).a + (gk ts k).t.size) (ts.drop (k + 1)))) := by
  rw [drop_consK ts k hk] at h
  obtain ⟨h1, h2, h3, h4, h5, h6⟩ := h
  rw [list_len] at h2 h5
  refine ⟨h1, h2, h5, ?_, ?_, ?_⟩
  · show List.isPrefixOf _ _ = true
    rw [List.isPrefixOf_iff_prefix, ext_drop, h4]
    exact List.take_prefix _ _
  · rw [ext_mid _ _ _ h1]; exact h3
  · cases hr : ts.drop (k + 1) with
    | nil =>
      rw [hr] at h6
      rw [list_len] at h6
      left
      have := congrArg List.length hr
      simp only [List.length_drop, List.length_nil] at this
      exact ⟨by omega, h6⟩
    | cons y r =>
      rw [hr] at h6
      right
      have := congrArg List.length hr
      simp only [List.length_drop, List.length_cons] at this
      exact ⟨by omega, h6⟩
theorem hasPre_all (x t : ByteArray) (h : Lib.hasPrefix x.data.toList t.data.toList = true) (W : World) : Calls Tryd.prog 18 #[.string x, .string t] W fun e w' => e = .returned (.bool true) ∧ w' = W := by
  have := hasPrefix_any x t W
  rwa [h] at this
theorem sep_all (x : ByteArray) (hx : x.size ≤ 4611686018427387904) (h : sepB x.data.toList = true) (W : World) : Calls Tryd.prog 19 #[.string x] W fun e w' => e = .returned (.bool true) ∧ ∃ m, w' = W.drewN m := by
  have := separator_any x W hx
  rwa [h] at this
/-- A variable of type Token, behind its store. -/
theorem varK (w : World) (t : Tk) (W : World) (hW : w.alloc (.cells #[.int .i64 0, .string ⟨#[]⟩, .int .i64 0, .int .i64 0] TTk) = W) :
    W.heap[w.heap.size]? = some (.cells #[.int .i64 0, .string ⟨#[]⟩, .int .i64 0, .int .i64 0] TTk (0, 0)) ∧ ∀ X, W.setRow w.heap.size #[.int .i64 t.k, .string t.t, .int .i64 t.v, .int .i64 (t.a : Int)] = X → Below w.heap.size w X ∧ X.heap[w.heap.size]? = some (.cells #[.int .i64 t.k, .string t.t, .int .i64 t.v, .int .i64 (t.a : Int)] TTk (0, 0)) := by
  have h1 : W.heap[w.heap.size]? = some (.cells #[.int .i64 0, .string ⟨#[]⟩, .int .i64 0, .int .i64 0] TTk (0, 0)) := by rw [← hW]; exact heapNew w _
  have hb : Below w.heap.size w W := by rw [← hW]; exact (Below.refl _ w).alloc (Nat.le_refl _) _
  exact ⟨h1, fun X hX => ⟨by rw [← hX]; exact below_setRow hb (Nat.le_refl _) _, by rw [← hX]; exact setRow_heap _ _ _ _ _ _ h1⟩⟩
set_option maxRecDepth 100000 in
set_option maxHeartbeats 16000000 in
theorem lexerOffsets_walk (s : ByteArray) (w : World) (hV : LxV w) (hT : TabJ w) :
    Calls Tryd.prog 5 #[.string s] w fun e w' => e = .returned (.bool true) ∧ Below w.heap.size w w' := by
  by_cases h : 400 < s.size
  · have h1 : (400 : Int) < (s.size : Int) := by omega
    have HA := Lib.hid (awake_any w hV hT)
    clear h hV hT
    go_enter Tryd.func5, Tryd.ntmps5
    go_wp2_with fail
    refine HA.out.mono ?_
    rintro e w1 ⟨rfl, b1⟩
    go_wp2
    go_ret
    exact ⟨rfl, b1⟩
  · have h1 : ¬ (400 : Int) < (s.size : Int) := by omega
    have hs : s.size ≤ 400 := by omega
    obtain ⟨ts, i0, q0, hl⟩ : ∃ e i q, lexT s = (e, i, q) := ⟨_, _, _, rfl⟩
    have HC := Lib.hid (tokB s ts i0 q0 w (by omega) hV hl)
    have HV := Lib.hid hV
    have HT := Lib.hid hT
    clear h hV hT
    by_cases hq : q0 = 0
    · subst hq
      obtain ⟨hlo, rfl⟩ := lexT_ok hl
      have hlen := hlo.len
      have hpos : 0 < ts.length := by
        cases ts with
        | nil => exact absurd rfl (OffR_ne hlo.off)
        | cons a r => simp
      have HOF := Lib.hid hlo.off
      clear hl hlo
      go_enter Tryd.func5, Tryd.ntmps5
      go_wp2_with fail
      refine HC.out.mono ?_
      rintro e w1 ⟨a, c, rfl, hK, b1⟩
      have HK := Lib.hid hK
      have HB1 := Lib.hid b1
      clear hK b1 HC
      go_wp2
      go_loopw [6, 30] (fun s6 s30 wr => ∃ k en : Nat, s6 = .int .i64 en ∧ s30 = .int .i64 k ∧ k ≤ ts.length ∧ en ≤ s.size ∧ Hid ((k < ts.length → OffR s.data.toList en (ts.drop k)) ∧ (k = ts.length → en = s.size)) ∧ Hid (Below w1.heap.size w1 wr)) (fun _ s30 _ => ts.length - (intOf s30).toNat)
      case atStart => exact ⟨0, 0, rfl, rfl, Nat.zero_le _, Nat.zero_le _, Lib.hid ⟨fun _ => HOF.out, fun h => by omega⟩, Lib.hid (Below.refl _ _)⟩
      case round =>
        obtain ⟨k, en, rfl, rfl, hk, hen, HO, HB⟩ := hrel
        by_cases hlt : k < ts.length
        · have k1 : (k : Int) < (ts.length : Int) := by omega
          obtain ⟨r1, r2, r3, r4, r5, r6⟩ := off_round (HO.out.1 hlt) hlt
          obtain ⟨b, off, rfl, _, hbl, c0, c1, c2, _⟩ := (HK.out.1.below HB.out) k hlt
          have c3 := (HK.out.2.below HB.out).at_ hlt
          have hszx : (s.extract en (gk ts k).a).size ≤ 4611686018427387904 := by
            have := list_len (s.extract en (gk ts k).a)
            rw [ext_mid _ _ _ r1] at this
            simp only [List.length_take, List.length_drop] at this
            have h5 := list_len s
            omega
          have HH := Lib.hid (hasPre_all _ _ r4)
          have HSP := Lib.hid (sep_all _ hszx r5)
          clear r4 r5 hszx
          obtain ⟨T, hT⟩ : ∃ t, gk ts k = t := ⟨_, rfl⟩
          rw [hT] at r1 r2 r3 r6 c0 c1 c2 c3 HH HSP
          obtain ⟨tk, tt, tv, ta⟩ := T
          simp only [] at r1 r2 r3 r6 c0 c1 c2 c3 HH HSP
          obtain ⟨W1, hW1⟩ : ∃ X, wr.alloc (.cells #[.int .i64 0, .string ⟨#[]⟩, .int .i64 0, .int .i64 0] TTk) = X := ⟨_, rfl⟩
          obtain ⟨g1, g2⟩ := varK wr ⟨tk, tt, tv, ta⟩ W1 hW1
          obtain ⟨W2, hW2⟩ : ∃ X, W1.setRow wr.heap.size #[.int .i64 tk, .string tt, .int .i64 tv, .int .i64 (ta : Int)] = X := ⟨_, rfl⟩
          obtain ⟨b2, g3⟩ := g2 W2 hW2
          have d0 : W2.cell? ⟨wr.heap.size, 0, none⟩ = some (.int .i64 tk) := by rw [Lib.cell_of_heap g3]; rfl
          have d1 : W2.cell? ⟨wr.heap.size, 1, none⟩ = some (.string tt) := by rw [Lib.cell_of_heap g3]; rfl
          have d3 : W2.cell? ⟨wr.heap.size, 3, none⟩ = some (.int .i64 (ta : Int)) := by rw [Lib.cell_of_heap g3]; rfl
          rcases r6 with ⟨y0, y1, y2, y3⟩ | ⟨y0, y1, y2, y3⟩
          · have e1 : ((k : Int) == (ts.length : Int) - 1) = true := by rw [beq_iff_eq]; omega
            have e2 : IntKind.i64.wrap ((ts.length : Int) - 1) = (ts.length : Int) - 1 := IntWalk.i64_in _ (by omega)
            obtain ⟨e3, e4⟩ := emp_yes (s := tt) y2
            obtain ⟨e5, e6⟩ := ieq y1
            have e7 : decide ((ta : Int) < (en : Int)) = false := by rw [decide_eq_false_iff_not]; omega
            have e8 : decide ((s.size : Int) < (ta : Int)) = false := by rw [decide_eq_false_iff_not]; omega
            have e7n : decide (ta < en) = false := by rw [decide_eq_false_iff_not]; omega
            have e8n : decide (s.size < ta) = false := by rw [decide_eq_false_iff_not]; omega
            have e9 : (0 : Int) ≤ (ta : Int) := by omega
            have e10 : (ta : Int) ≤ (s.size : Int) := by omega
            have e11 : (0 : Int) ≤ (en : Int) := by omega
            have e12 : (en : Int) ≤ (ta : Int) := by omega
            have HN : Hid ((k + 1 < ts.length → OffR s.data.toList (ta + tt.size) (ts.drop (k + 1))) ∧ (k + 1 = ts.length → ta + tt.size = s.size)) := Lib.hid ⟨fun h => by omega, fun _ => by rw [y2, y3]; rfl⟩
            have HB2 := Lib.hid (HB.out.trans (b2.mono HB.out.size))
            have HW1 := Lib.hid hW1
            have HW2 := Lib.hid hW2
            have HG := Lib.hid g1
            have hle : ta + tt.size ≤ s.size := r3
            clear y0 y1 y2 y3 hW1 hW2 g1 g2 b2 g3 hT HO r1 r2 r3
            go_wp2_with (rw [HW1.out]; refine wpList_store_row rfl TTk (.tmp 8) (.tmp 34) rfl wr.heap.size #[.int .i64 tk, .string tt, .int .i64 tv, .int .i64 (ta : Int)] rfl rfl _ _ HG.out (by kernel_rfl) rfl (by simp [Value.oneCell']) ?_; rw [HW2.out])
            go_quiet (first
              | (go_at_call 18; exact Calls.quiet_of_same (HH.out _))
              | (go_at_call 19; exact Calls.quiet_of (HSP.out _)))
            go_wp2
            go_roundw
            case rel => exact ⟨k + 1, ta + tt.size, by go_num, by go_num, by omega, hle, HN, Lib.hid ⟨HB2.out.os, HB2.out.tape, HB2.out.output, HB2.out.size, HB2.out.block⟩⟩
            case measure => simp [intOf]; omega
          · have e1 : ((k : Int) == (ts.length : Int) - 1) = false := by rw [beq_eq_false_iff_ne]; omega
            have e2 : IntKind.i64.wrap ((ts.length : Int) - 1) = (ts.length : Int) - 1 := IntWalk.i64_in _ (by omega)
            obtain ⟨e3, e4⟩ := emp_no (s := tt) y2
            obtain ⟨e5, e6⟩ := ine y1
            have e7 : decide ((ta : Int) < (en : Int)) = false := by rw [decide_eq_false_iff_not]; omega
            have e8 : decide ((s.size : Int) < (ta : Int)) = false := by rw [decide_eq_false_iff_not]; omega
            have e7n : decide (ta < en) = false := by rw [decide_eq_false_iff_not]; omega
            have e8n : decide (s.size < ta) = false := by rw [decide_eq_false_iff_not]; omega
            have e9 : (0 : Int) ≤ (ta : Int) := by omega
            have e10 : (ta : Int) ≤ (s.size : Int) := by omega
            have e11 : (0 : Int) ≤ (en : Int) := by omega
            have e12 : (en : Int) ≤ (ta : Int) := by omega
            have HN : Hid ((k + 1 < ts.length → OffR s.data.toList (ta + tt.size) (ts.drop (k + 1))) ∧ (k + 1 = ts.length → ta + tt.size = s.size)) := Lib.hid ⟨fun _ => y3, fun h => by omega⟩
            have HB2 := Lib.hid (HB.out.trans (b2.mono HB.out.size))
            have HW1 := Lib.hid hW1
            have HW2 := Lib.hid hW2
            have HG := Lib.hid g1
            have hle : ta + tt.size ≤ s.size := r3
            clear y0 y1 y2 y3 hW1 hW2 g1 g2 b2 g3 hT HO r1 r2 r3
            go_wp2_with (rw [HW1.out]; refine wpList_store_row rfl TTk (.tmp 8) (.tmp 34) rfl wr.heap.size #[.int .i64 tk, .string tt, .int .i64 tv, .int .i64 (ta : Int)] rfl rfl _ _ HG.out (by kernel_rfl) rfl (by simp [Value.oneCell']) ?_; rw [HW2.out])
            go_quiet (first
              | (go_at_call 18; exact Calls.quiet_of_same (HH.out _))
              | (go_at_call 19; exact Calls.quiet_of (HSP.out _)))
            go_wp2
            go_roundw
            case rel => exact ⟨k + 1, ta + tt.size, by go_num, by go_num, by omega, hle, HN, Lib.hid ⟨HB2.out.os, HB2.out.tape, HB2.out.output, HB2.out.size, HB2.out.block⟩⟩
            case measure => simp [intOf]; omega
        · obtain rfl : k = ts.length := by omega
          have hE := HO.out.2 rfl
          have z1 : (0 : Int) < (ts.length : Int) := by omega
          obtain ⟨z2, z3⟩ := ieq (show (en : Int) = (s.size : Int) by omega)
          have HA := Lib.hid (awake_any wr (HV.out.below (HB1.out.trans (HB.out.mono HB1.out.size)) (Nat.le_refl _)) (HT.out.below (HB1.out.trans (HB.out.mono HB1.out.size))))
          have HBB := Lib.hid (HB1.out.trans (HB.out.mono HB1.out.size))
          clear hE
          go_wp2_with fail
          refine HA.out.mono ?_
          rintro e w3 ⟨rfl, b3⟩
          have HB3 := Lib.hid (HBB.out.trans (b3.mono HBB.out.size))
          clear b3
          go_wp2
          go_ret
          exact ⟨rfl, HB3.out⟩
    · have k1 : (q0 != 0) = true := by simpa using hq
      obtain rfl := lexT_err hl hq
      clear hl hq
      go_enter Tryd.func5, Tryd.ntmps5
      go_wp2_with fail
      refine HC.out.mono ?_
      rintro e w1 ⟨a, c, rfl, hK, b1⟩
      have HA := Lib.hid (awake_any w1 (HV.out.below b1 (Nat.le_refl _)) (HT.out.below b1))
      have HB1 := Lib.hid b1
      clear hK b1 HC
      go_wp2_with fail
      refine HA.out.mono ?_
      rintro e w3 ⟨rfl, b3⟩
      have HB3 := Lib.hid (HB1.out.trans (b3.mono HB1.out.size))
      clear b3
      go_wp2
      go_ret
      exact ⟨rfl, HB3.out⟩
end Go.Proofs.YtdgphhdkeikbaaaDoor
