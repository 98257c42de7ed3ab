/-
  The program's reader: its memory; sign, giveUp.
-/
import Derived.Deep.QuietTactic
import Derived.BigQuiet
import Derived.RegionTactic
import Derived.Test.YtdgphhdkeikbaaaDoorLxTokens
import Derived.Test.YtdgphhdkeikbaaaDoorLxKw
namespace Go.Proofs.YtdgphhdkeikbaaaDoor
set_option linter.unusedSimpArgs false
set_option linter.unusedVariables false
open Go.RowKit

abbrev TRd : TypeId := 81
abbrev TUx : TypeId := 76
def RdA (w : World) (b : Nat) (sl : Value) (i : Nat) (m : Nat) : Prop := w.heap[b]? = some (.cells #[sl, .int .i64 (i : Int), .map (some m)] TRd (0, 0))
theorem RdA.c0 {w : World} {b i m : Nat} {sl : Value} (h : RdA w b sl i m) : w.cell? ⟨b, 0, none⟩ = some sl := by rw [Lib.cell_of_heap h]; rfl
theorem RdA.c1 {w : World} {b i m : Nat} {sl : Value} (h : RdA w b sl i m) : w.cell? ⟨b, 1, none⟩ = some (.int .i64 (i : Int)) := by rw [Lib.cell_of_heap h]; rfl
theorem RdA.c2 {w : World} {b i m : Nat} {sl : Value} (h : RdA w b sl i m) : w.cell? ⟨b, 2, none⟩ = some (.map (some m)) := by rw [Lib.cell_of_heap h]; rfl
theorem RdA.below {w w' : World} {b i m : Nat} {sl : Value} (h : RdA w b sl i m) (hb : Below w.heap.size w w') : RdA w' b sl i m := (hb.block _ (ltH h)).trans h
def sgT (l : List Tk) : ByteArray := if (hdT l).k = 3 then (hdT l).t else .empty
theorem hdT_drop {ts : List Tk} {i : Nat} (h : i < ts.length) : hdT (ts.drop i) = gk ts i := by rw [drop_consK ts i h]; rfl
theorem hdT_end {ts : List Tk} {i : Nat} (h : ts.length ≤ i) : hdT (ts.drop i) = zTk := by rw [List.drop_of_length_le h]; rfl
theorem TkA.at_ {φ : Nat → Prop} {w : World} {a : Option Addr} {ts : List Tk} (h : TkA φ w a ts) {j : Nat} (hj : j < ts.length) : ∃ b off, a = some ⟨b, off, none⟩ ∧ φ b ∧ b < w.heap.size ∧ w.cell? ⟨b, off + j * 4, none⟩ = some (.int .i64 (gk ts j).k) ∧ w.cell? ⟨b, off + j * 4 + 1, none⟩ = some (.string (gk ts j).t) ∧ w.cell? ⟨b, off + j * 4 + 2, none⟩ = some (.int .i64 (gk ts j).v) ∧ ∃ av : Int, w.cell? ⟨b, off + j * 4 + 3, none⟩ = some (.int .i64 av) := h j hj
set_option maxRecDepth 100000 in
set_option maxHeartbeats 4000000 in
theorem sign_any (b i m : Nat) (a : Option Addr) (c : Nat) (ts : List Tk) (w : World) (hr : RdA w b (.slice a ts.length c) i m) (hk : TkA anyB w a ts) (hi : i ≤ ts.length) (hl : ts.length ≤ 4001) (hc : ts.length ≤ c) :
    Calls Tryd.prog 68 #[.pointer (some ⟨b, 0, none⟩)] w fun x w' => x = .returned (.string (sgT (ts.drop i))) ∧ Below w.heap.size w w' := by
  have c0 := hr.c0
  have c1 := hr.c1
  have HD : Hid (∀ n k, Below w.heap.size w (w.drewN n) ∧ Below w.heap.size w ((w.drewN n).drewN k)) := Lib.hid (fun n k => ⟨below_drewN (Below.refl _ _) n, below_drewN (below_drewN (Below.refl _ _) n) k⟩)
  by_cases h : i < ts.length
  · have k1 : (i : Int) < (ts.length : Int) := by omega
    obtain ⟨kb, off, rfl, _, _, t0, t1, _⟩ := hk.at_ h
    obtain ⟨T, hT⟩ : ∃ T, gk ts i = T := ⟨_, rfl⟩
    have hdT := hdT_drop h
    rw [hT] at t0 t1 hdT
    by_cases h3 : T.k = 3
    · have HE : Hid (sgT (ts.drop i) = T.t) := Lib.hid (by unfold sgT; rw [hdT, if_pos h3])
      have k2 : (T.k == 3) = true := by simp [h3]
      rw [h3] at t0
      clear hr hk hT hdT h3 h
      go_enter Tryd.func68, Tryd.ntmps68
      go_wp2
      go_quiet (fail)
      go_wp2
      go_quiet (fail)
      go_wp2
      go_ret
      exact ⟨by rw [HE.out]; rfl, (HD.out _ _).2⟩
    · have HE : Hid (sgT (ts.drop i) = .empty) := Lib.hid (by unfold sgT; rw [hdT, if_neg h3])
      have k2 : (T.k == 3) = false := by simp [h3]
      obtain ⟨q, hq⟩ : ∃ q, T.k = q := ⟨_, rfl⟩
      rw [hq] at t0 k2
      clear hr hk hT hdT h3 h hq
      go_enter Tryd.func68, Tryd.ntmps68
      go_wp2
      go_quiet (fail)
      go_wp2
      go_ret
      exact ⟨by rw [HE.out]; rfl, (HD.out _ 0).1⟩
  · have k0 : ¬ (i : Int) < (ts.length : Int) := by omega
    have k1 : decide ((i : Int) < (ts.length : Int)) = false := by simpa using k0
    have k2 : decide (i < ts.length) = false := by simpa using h
    have k3 : ¬ i < ts.length := h
    have k4 : ts.length ≤ i := by omega
    have k5 : (ts.length : Int) ≤ (i : Int) := by omega
    have HE : Hid (sgT (ts.drop i) = .empty) := Lib.hid (by unfold sgT; rw [hdT_end (by omega)]; rfl)
    clear hr hk h
    go_enter Tryd.func68, Tryd.ntmps68
    go_wp2
    go_quiet (fail)
    go_wp2
    go_ret
    exact ⟨by rw [HE.out]; rfl, (HD.out _ 0).1⟩
theorem giveUp_any (b i m : Nat) (sl : Value) (w : World) (hr : RdA w b sl i m) :
    Calls Tryd.prog 102 #[.pointer (some ⟨b, 0, none⟩)] w fun x w' => x = .panicked [{ v := .iface TUx (.int .i64 (i : Int)), recovered := false }] ∧ w' = w := by
  have c1 := hr.c1
  clear hr
  go_enter Tryd.func102, Tryd.ntmps102
  go_wp2
  exact ⟨rfl, rfl, rfl⟩
end Go.Proofs.YtdgphhdkeikbaaaDoor
