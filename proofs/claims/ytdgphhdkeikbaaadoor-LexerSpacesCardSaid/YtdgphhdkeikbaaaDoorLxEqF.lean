/-
  The library's EqualFunc over tokens, with the statement's comparison.
-/
import Derived.Test.YtdgphhdkeikbaaaDoorLxTokB
namespace Go.Proofs.YtdgphhdkeikbaaaDoor
set_option linter.unusedSimpArgs false
set_option linter.unusedVariables false
open Go.RowKit

theorem enters23 : ∀ args w, (callFunc 23 args).run Tryd.prog w = .ok (.enter 23 args) w := enters_of Tryd.func23 (by kernel_rfl) rfl
set_option maxRecDepth 100000 in
theorem same_yesK (k v a b : Int) (t : ByteArray) (w : World) : Calls Tryd.prog 23 #[.agg #[.int .i64 k, .string t, .int .i64 v, .int .i64 a], .agg #[.int .i64 k, .string t, .int .i64 v, .int .i64 b]] w fun e w' => e = .returned (.bool true) ∧ Below w.heap.size w w' := by
  have HB : Hid (Below w.heap.size w ((w.alloc (.cells #[.int .i64 k, .string t, .int .i64 v, .int .i64 a] TTk)).alloc (.cells #[.int .i64 k, .string t, .int .i64 v, .int .i64 b] TTk))) := Lib.hid (twoBlocks w _ _).2.2
  have q1 := (ieq (show k = k from rfl)).1
  have q2 := (str_yes (show t = t from rfl)).2.2
  have q3 := (ieq (show v = v from rfl)).1
  go_enter Tryd.func23, Tryd.ntmps23
  go_wp2
  go_ret
  exact ⟨by simp, HB.out⟩
theorem st_at {x y : List Tk} (h : x.map st0 = y.map st0) : x.length = y.length ∧ ∀ k, k < x.length → (gk y k).k = (gk x k).k ∧ (gk y k).t = (gk x k).t ∧ (gk y k).v = (gk x k).v := by
  have hl : x.length = y.length := by have := congrArg List.length h; simpa using this
  refine ⟨hl, fun k hk => ?_⟩
  have hk2 : k < y.length := by omega
  have h1 : (x.map st0)[k]? = (y.map st0)[k]? := by rw [h]
  rw [List.getElem?_map, List.getElem?_map, List.getElem?_eq_getElem hk, List.getElem?_eq_getElem hk2] at h1
  have h2 : st0 x[k] = st0 y[k] := Option.some.inj h1
  rw [gk_in hk, gk_in hk2]
  have e1 : (st0 x[k]).k = (st0 y[k]).k := by rw [h2]
  have e2 : (st0 x[k]).t = (st0 y[k]).t := by rw [h2]
  have e3 : (st0 x[k]).v = (st0 y[k]).v := by rw [h2]
  exact ⟨e1.symm, e2.symm, e3.symm⟩
set_option maxRecDepth 100000 in
set_option maxHeartbeats 8000000 in
theorem equalF_any (a b : Option Addr) (c d : Nat) (za zb : List Tk) (w : World) (ha : TkA anyB w a za ∧ TkO anyB w a za) (hb : TkA anyB w b zb ∧ TkO anyB w b zb) (hla : za.length ≤ 9223372036854775807) (hst : za.map st0 = zb.map st0) :
    Calls Tryd.prog 24 #[.slice a za.length c, .slice b zb.length d, .func (.func 23) #[] #[]] w fun e w' => e = .returned (.bool true) ∧ Below w.heap.size w w' := by
  obtain ⟨hl, hst⟩ := st_at hst
  have hne : ((za.length : Int) != (zb.length : Int)) = false := by rw [hl]; simp
  have HA := Lib.hid ha
  have HBB := Lib.hid hb
  have HST := Lib.hid hst
  have HL := Lib.hid hl
  have HEG := enters23
  clear ha hb hst hl
  go_enter Tryd.func24, Tryd.ntmps24
  go_wp2
  go_loopw [17] (fun s17 wr => ∃ k : Nat, s17 = .int .i64 k ∧ k ≤ za.length ∧ Hid (Below w.heap.size w wr)) (fun s17 _ => za.length - (intOf s17).toNat)
  case atStart => exact ⟨0, rfl, Nat.zero_le _, Lib.hid (Below.refl _ _)⟩
  case round =>
    obtain ⟨k, rfl, hk, HB⟩ := hrel
    by_cases hlt : k < za.length
    · have k1 : (k : Int) < (za.length : Int) := by omega
      have k2 : (k : Int) < (zb.length : Int) := by have := HL.out; omega
      obtain ⟨b1, o1, rfl, _, hl1, p0, p1, p2, _⟩ := (HA.out.1.below HB.out) k hlt
      have p3 := (HA.out.2.below HB.out).at_ hlt
      obtain ⟨b2, o2, rfl, _, hl2, q0, q1, q2, _⟩ := (HBB.out.1.below HB.out) k (show k < zb.length by have := HL.out; omega)
      have q3 := (HBB.out.2.below HB.out).at_ (show k < zb.length by have := HL.out; omega)
      obtain ⟨s0, s1, s2⟩ := HST.out k hlt
      rw [s0] at q0
      rw [s1] at q1
      rw [s2] at q2
      obtain ⟨⟨x0, x1, x2, x3⟩, hx⟩ : ∃ x, gk za k = x := ⟨_, rfl⟩
      rw [hx] at p0 p1 p2 p3 q0 q1 q2
      obtain ⟨y3, hy⟩ : ∃ y, (gk zb k).a = y := ⟨_, rfl⟩
      rw [hy] at q3
      simp only [] at p0 p1 p2 p3 q0 q1 q2
      obtain ⟨W1, hW1⟩ : ∃ X, wr.alloc (.cells #[.int .i64 0, .string ⟨#[]⟩, .int .i64 0, .int .i64 0] TTk) = X := ⟨_, rfl⟩
      obtain ⟨g1, g2⟩ := varK wr ⟨x0, x1, x2, x3⟩ W1 hW1
      obtain ⟨X1, hX1⟩ : ∃ X, W1.setRow wr.heap.size #[.int .i64 x0, .string x1, .int .i64 x2, .int .i64 (x3 : Int)] = X := ⟨_, rfl⟩
      obtain ⟨bX1, g3⟩ := g2 X1 hX1
      obtain ⟨W2, hW2⟩ : ∃ X, X1.alloc (.cells #[.int .i64 0, .string ⟨#[]⟩, .int .i64 0, .int .i64 0] TTk) = X := ⟨_, rfl⟩
      obtain ⟨g4, g5⟩ := varK X1 ⟨x0, x1, x2, y3⟩ W2 hW2
      obtain ⟨X2, hX2⟩ : ∃ X, W2.setRow X1.heap.size #[.int .i64 x0, .string x1, .int .i64 x2, .int .i64 (y3 : Int)] = X := ⟨_, rfl⟩
      obtain ⟨bX2, g6⟩ := g5 X2 hX2
      have q0 := cell_laterZ bX1 q0
      have q1 := cell_laterZ bX1 q1
      have q2 := cell_laterZ bX1 q2
      have q3 := cell_laterZ bX1 q3
      have g7 := (bX2.block _ (ltH g3)).trans g3
      have u0 : X2.cell? ⟨wr.heap.size, 0, none⟩ = some (.int .i64 x0) := by rw [Lib.cell_of_heap g7]; rfl
      have u1 : X2.cell? ⟨wr.heap.size, 1, none⟩ = some (.string x1) := by rw [Lib.cell_of_heap g7]; rfl
      have u2 : X2.cell? ⟨wr.heap.size, 2, none⟩ = some (.int .i64 x2) := by rw [Lib.cell_of_heap g7]; rfl
      have u3 : X2.cell? ⟨wr.heap.size, 3, none⟩ = some (.int .i64 (x3 : Int)) := by rw [Lib.cell_of_heap g7]; rfl
      have v0 : X2.cell? ⟨X1.heap.size, 0, none⟩ = some (.int .i64 x0) := by rw [Lib.cell_of_heap g6]; rfl
      have v1 : X2.cell? ⟨X1.heap.size, 1, none⟩ = some (.string x1) := by rw [Lib.cell_of_heap g6]; rfl
      have v2 : X2.cell? ⟨X1.heap.size, 2, none⟩ = some (.int .i64 x2) := by rw [Lib.cell_of_heap g6]; rfl
      have v3 : X2.cell? ⟨X1.heap.size, 3, none⟩ = some (.int .i64 (y3 : Int)) := by rw [Lib.cell_of_heap g6]; rfl
      have HB2 := Lib.hid (HB.out.trans ((bX1.trans (bX2.mono bX1.size)).mono HB.out.size))
      have HC := Lib.hid (same_yesK x0 x2 (x3 : Int) (y3 : Int) x1 X2)
      have HG1 := Lib.hid g1
      have HG4 := Lib.hid g4
      have HW1 := Lib.hid hW1
      have HX1 := Lib.hid hX1
      have HW2 := Lib.hid hW2
      have HX2 := Lib.hid hX2
      clear s0 s1 s2 hx hy g1 g2 g3 g4 g5 g6 g7 hW1 hX1 hW2 hX2 bX1 bX2
      go_wp2_with (first
        | (rw [HW1.out]; refine wpList_store_row rfl TTk (.tmp 8) (.tmp 21) rfl wr.heap.size #[.int .i64 x0, .string x1, .int .i64 x2, .int .i64 (x3 : Int)] rfl rfl _ _ HG1.out (by kernel_rfl) rfl (by simp [Value.oneCell']) ?_; rw [HX1.out])
        | (rw [HW2.out]; refine wpList_store_row rfl TTk (.tmp 9) (.tmp 25) rfl X1.heap.size #[.int .i64 x0, .string x1, .int .i64 x2, .int .i64 (y3 : Int)] rfl rfl _ _ HG4.out (by kernel_rfl) rfl (by simp [Value.oneCell']) ?_; rw [HX2.out]))
      refine HC.out.mono ?_
      rintro e w4 ⟨rfl, b4⟩
      have HB4 := Lib.hid (HB2.out.trans (b4.mono HB2.out.size))
      clear b4
      go_wp2
      go_roundw
      case rel => exact ⟨k + 1, by go_num, by omega, HB4⟩
      case measure => simp [intOf]; omega
    · obtain rfl : k = za.length := by omega
      go_wp2
      go_ret
      exact ⟨rfl, HB.out⟩
end Go.Proofs.YtdgphhdkeikbaaaDoor
