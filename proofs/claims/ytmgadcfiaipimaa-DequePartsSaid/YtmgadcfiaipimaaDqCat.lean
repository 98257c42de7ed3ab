/-
  The library's Grow of no ints, and Concat of two slices of ints.
-/
import Derived.Lib.AppendZeros
import Derived.Test.YtmgadcfiaipimaaDqMem
namespace Go.Proofs.Ytmgadcfiaipimaa
open Go.RowKit

/-- The built-in append of so many zero values by a run equation. -/
theorem append_by_run0 {P : Program} (w : World) {ops : Array Oper} {rest : List Oper} {o : Oper} {a : Act} {Q : Exit → Act → World → Prop} (hgd : o.guard = none) (s x : Operand) (t u : TypeId)
    (ho : o.op = .call { callee := .builtin .append, args := #[s, x], argTypes := #[t, u] }) (vs vx : Value) (hs : a.eval s = vs) (hx : a.eval x = vx) (v' : Value) (w' : World)
    (hrun : (Builtin.append_ #[t, u] o.type #[vs, vx]).run P w = .ok v' w') (h : wpList P ops Q rest (a.put o.dst v') w') : wpList P ops Q (o :: rest) a w := by
  refine wpList_plain hgd fun K hK => ?_
  unfold Oper.wp
  simp [execOp, ho, resolve, invoke, builtin, hs, hx, hrun, Result.andThen]
  exact hK _ _ h

set_option maxRecDepth 100000 in
set_option maxHeartbeats 2000000 in
theorem zGrow_any (n : Nat) (w : World) (hn : n ≤ 1000) :
    Calls Try.prog 35 #[.slice none 0 0, .int .i64 n] w fun e w' => ∃ v, e = .returned v ∧ OwnZ w.heap.size [] v w' ∧ Below w.heap.size w w' := by
  obtain ⟨i3, ki, kz0, kz1, kz2⟩ := info_parts infoZ
  by_cases h0 : n = 0
  · subst h0
    go_enter Try.func35, Try.ntmps35
    go_wp2
    go_ret
    exact ⟨_, rfl, OwnZ.nil _ _, Below.refl _ _⟩
  · have hn0 : 0 < n := by omega
    have hn1 : (0 : Int) < (n : Int) := by omega
    have hn2 : (n : Int) ≤ 1000 := by omega
    have hrz : ∀ W : World, ∃ v', (Builtin.append_ #[22, 3] 22 #[.slice none 0 0, .int .i64 n]).run Try.prog W = .ok (.slice (some ⟨W.heap.size, 0, none⟩) n (grownCap W n 0 TZ)) v' ∧ (W.heap.size ≤ v'.heap.size) ∧ OwnZ W.heap.size [] (.slice (some ⟨W.heap.size, 0, none⟩) 0 (grownCap W n 0 TZ)) v' ∧ Below W.heap.size W v' := by
      intro W
      have happ := Lib.run_append_nil_zeros (P := Try.prog) W 22 3 22 TZ i3 _ .i64 .i64 Try.underlying22 Try.underlying3 ki kz0 n hn0 (by rw [kz1]; omega) (by omega) (by rw [kz2]; omega)
      refine ⟨_, happ, by simp, ⟨rfl, .inr ⟨W.heap.size, grownCap W n 0 TZ, _, rfl, Nat.le_refl _, heap_alloc_new _ _, Nat.zero_le _, grownCap_le_maxLen W n 0 TZ (by unfold maxLen; omega), ?_, ?_⟩⟩, (Below.refl _ W).drew.alloc (Nat.le_refl _) _⟩
      · have := grownCap_ge W n 0 TZ
        rw [Array.size_append, size_zeroCells, size_zeroCells, show (Value.int .i64 0).cells.size = 1 from rfl, ← Nat.add_mul]
        congr 1
        omega
      · rfl
    have hgc : ∀ W : World, (n : Int) ≤ ((grownCap W n 0 TZ : Nat) : Int) := fun W => by have := grownCap_ge W n 0 TZ; omega
    clear ki kz0 kz1 kz2
    obtain ⟨v', hr, hs, hO, hB⟩ := hrz w
    have hcap := hgc w
    generalize grownCap w n 0 TZ = C at hr hO hcap
    have HR := Lib.hid hr
    have HO := Lib.hid hO
    have HB := Lib.hid hB
    clear hr hO hB hs hrz hgc
    go_enter Try.func35, Try.ntmps35
    go_wp2_with (at_builtin; refine append_by_run0 _ rfl _ _ 22 3 rfl _ _ rfl rfl _ _ HR.out ?_)
    go_ret
    exact ⟨_, rfl, HO.out, HB.out⟩

/-- What lies in Concat's row after so many slices. -/
def catZ (xs ys : List Int) (k : Nat) : List Int := if k = 0 then [] else if k = 1 then xs else xs ++ ys

set_option maxRecDepth 100000 in
set_option maxHeartbeats 4000000 in
theorem zConcat_any (g : Nat) (u v : Value) (xs ys : List Int) (w : World) (h0 : w.cell? ⟨g, 0, none⟩ = some u) (h1 : w.cell? ⟨g, 1, none⟩ = some v) (hx : KZ w u xs) (hy : KZ w v ys) (hxl : xs.length ≤ 400) (hyl : ys.length ≤ 400) :
    Calls Try.prog 27 #[.slice (some ⟨g, 0, none⟩) 2 2] w fun e w' => ∃ r, e = .returned r ∧ FzC w.heap.size w' r (xs ++ ys) ∧ Below w.heap.size w w' := by
  obtain ⟨ax, cx, rfl, hcx, hcx2, hAx⟩ := hx
  obtain ⟨ay, cy, rfl, hcy, hcy2, hAy⟩ := hy
  have H0 := Lib.hid h0
  have H1 := Lib.hid h1
  have HAX := Lib.hid hAx
  have HAY := Lib.hid hAy
  have hbg : g < w.heap.size := World.block_lt_of_cell? _ _ h0
  have hxi : (xs.length : Int) ≤ 400 := by omega
  have hyi : (ys.length : Int) ≤ 400 := by omega
  have hxi0 : (0 : Int) ≤ (xs.length : Int) := by omega
  have hyi0 : (0 : Int) ≤ (ys.length : Int) := by omega
  have HG := zGrow_any (xs.length + ys.length)
  have HG := Lib.hid HG
  clear h0 h1 hAx hAy
  go_enter Try.func27, Try.ntmps27
  go_wp2
  go_loopw [3, 11] (fun s x wr => ∃ k : Nat, k ≤ 2 ∧ x = .int .i64 k ∧ s = .int .i64 ((if k = 0 then 0 else if k = 1 then xs.length else xs.length + ys.length : Nat)) ∧ Hid (Below w.heap.size w wr)) (fun _ x _ => 2 - (intOf x).toNat)
  case atStart => exact ⟨0, by omega, rfl, rfl, Lib.hid (Below.refl _ _)⟩
  case round =>
    obtain ⟨k, hk, rfl, rfl, HB⟩ := hrel
    have c0 := (HB.out.cell (p := ⟨g, 0, none⟩) hbg).trans H0.out
    have c1 := (HB.out.cell (p := ⟨g, 1, none⟩) hbg).trans H1.out
    obtain rfl | rfl | rfl : k = 0 ∨ k = 1 ∨ k = 2 := by omega
    · go_wp2
      go_roundw
      case rel => exact ⟨1, by omega, by go_num, by go_num, HB⟩
      case measure => simp [intOf]
    · go_wp2
      go_roundw
      case rel => exact ⟨2, by omega, by go_num, by go_num, HB⟩
      case measure => simp [intOf]
    · have HGr := Lib.hid (HG.out wr (by omega))
      go_wp2_with fail
      refine HGr.out.mono ?_
      rintro e w2 ⟨v2, rfl, ho2, b2⟩
      have HO2 := Lib.hid (show OwnZ w.heap.size (catZ xs ys 0) v2 w2 from ownZ_base HB.out.size ho2)
      have HB2 := Lib.hid (HB.out.trans (b2.mono HB.out.size))
      clear ho2 b2 c0 c1
      go_wp2
      go_loopw [6, 27] (fun s x wr => ∃ (k : Nat) (r : Value), k ≤ 2 ∧ x = .int .i64 k ∧ r = s ∧ Hid (OwnZ w.heap.size (catZ xs ys k) r wr) ∧ Hid (Below w.heap.size w wr)) (fun _ x _ => 2 - (intOf x).toNat)
      case atStart => exact ⟨0, _, by omega, rfl, rfl, HO2, HB2⟩
      case round =>
        obtain ⟨k, r, hk, rfl, rfl, HO, HB⟩ := hrel
        have c0 := (HB.out.cell (p := ⟨g, 0, none⟩) hbg).trans H0.out
        have c1 := (HB.out.cell (p := ⟨g, 1, none⟩) hbg).trans H1.out
        obtain rfl | rfl | rfl : k = 0 ∨ k = 1 ∨ k = 2 := by omega
        · obtain ⟨v4, V4, hr4, ho4, _, hb4⟩ := append_restZ wr w.heap.size w.heap.size r _ ax cx xs HO.out (HAX.out.below HB.out) (by unfold catZ; simp) (by omega) HB.out.size
          have HR4 := Lib.hid hr4
          have HO4 := Lib.hid (show OwnZ w.heap.size (catZ xs ys 1) v4 V4 from ho4)
          have HB4 := Lib.hid (HB.out.trans hb4)
          clear hr4 ho4 hb4
          go_wp2_with (at_builtin; refine append_by_run _ rfl _ _ 22 rfl _ _ rfl rfl _ _ HR4.out ?_)
          go_roundw
          case rel => exact ⟨1, _, by omega, by go_num, rfl, HO4, HB4⟩
          case measure => simp [intOf]
        · obtain ⟨v4, V4, hr4, ho4, _, hb4⟩ := append_restZ wr w.heap.size w.heap.size r _ ay cy ys HO.out (HAY.out.below HB.out) (by unfold catZ; simp; omega) (by omega) HB.out.size
          have HR4 := Lib.hid hr4
          have HO4 := Lib.hid (show OwnZ w.heap.size (catZ xs ys 2) v4 V4 from ho4)
          have HB4 := Lib.hid (HB.out.trans hb4)
          clear hr4 ho4 hb4
          go_wp2_with (at_builtin; refine append_by_run _ rfl _ _ 22 rfl _ _ rfl rfl _ _ HR4.out ?_)
          go_roundw
          case rel => exact ⟨2, _, by omega, by go_num, rfl, HO4, HB4⟩
          case measure => simp [intOf]
        · go_wp2
          go_ret
          exact ⟨_, rfl, OwnZ.fz HO.out, HB.out⟩

end Go.Proofs.Ytmgadcfiaipimaa
