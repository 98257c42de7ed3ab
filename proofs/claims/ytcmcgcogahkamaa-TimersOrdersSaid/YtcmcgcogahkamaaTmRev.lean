/-
  The library's Concat of two slices of timers (the row is the call's own), and Reverse of such a row.
-/
import Derived.Shelf.SlicesQ.Reverse
import Derived.Lib.OwnBridge
import Derived.Laws.OwnMore
import Derived.Test.YtcmcgcogahkamaaTmCat
namespace Go.Proofs.Ytcmcgcogahkamaa
open Go.RowKit Go.Shelf Go.Sort
def Try.reverseT_ren : Go.Shelf.Ren := ⟨fun | 35 => 33 | n => n, fun | 22 => 22 | 23 => 24 | 3 => 3 | 4 => 4 | 0 => 0 | n => n, fun | n => n⟩
theorem Try.reverseT : Go.Proofs.SlLaysE0.n35 Try.prog Try.reverseT_ren := {
  mixed := by kernel_rfl
  f35 := ⟨Try.f33.name, by decide, Try.func33.trans (congrArg some (by kernel_rfl))⟩
  t0 := Try.underlying0
  a0 := Try.isAgg0
  z0 := Try.sizeOf0
  v0 := Try.zeroValue0
  t3 := Try.underlying3
  a3 := Try.isAgg3
  z3 := Try.sizeOf3
  v3 := Try.zeroValue3
  t4 := Try.underlying4
  a4 := Try.isAgg4
  z4 := Try.sizeOf4
  v4 := Try.zeroValue4
  t22 := Try.underlying22
  a22 := Try.isAgg22
  z22 := Try.sizeOf22
  v22 := Try.zeroValue22 }
set_option maxRecDepth 100000 in
set_option maxHeartbeats 4000000 in
theorem tConcat_own (g : Nat) (u v : Value) (xs ys : List Tm) (w : World) (h0 : w.cell? ⟨g, 0, none⟩ = some u) (h1 : w.cell? ⟨g, 1, none⟩ = some v) (hx : KtC w u xs) (hy : KtC w v ys) (hxl : xs.length ≤ 400) (hyl : ys.length ≤ 400) :
    Calls Try.prog 32 #[.slice (some ⟨g, 0, none⟩) 2 2] w fun e w' => ∃ r, e = .returned r ∧ OwnT w.heap.size (xs ++ ys) r w' ∧ Below w.heap.size w w' := by
  obtain ⟨ax, cx, rfl, hcx, hcx2, hAx⟩ := hx
  obtain ⟨ay, cy, rfl, hcy, hcy2, hAy⟩ := hy
  have H0 := Lib.hid h0
  have H1 := Lib.hid h1
  have HAX := Lib.hid hAx
  have HAY := Lib.hid hAy
  have hbg : g < w.heap.size := World.block_lt_of_cell? _ _ h0
  have hxi : (xs.length : Int) ≤ 400 := by omega
  have hyi : (ys.length : Int) ≤ 400 := by omega
  have hxi0 : (0 : Int) ≤ (xs.length : Int) := by omega
  have hyi0 : (0 : Int) ≤ (ys.length : Int) := by omega
  have HG := tGrow_any (xs.length + ys.length)
  have HG := Lib.hid HG
  clear h0 h1 hAx hAy
  go_enter Try.func32, Try.ntmps32
  go_wp2
  go_loopw [3, 11] (fun s x wr => ∃ k : Nat, k ≤ 2 ∧ x = .int .i64 k ∧ s = .int .i64 ((if k = 0 then 0 else if k = 1 then xs.length else xs.length + ys.length : Nat)) ∧ Hid (Below w.heap.size w wr)) (fun _ x _ => 2 - (intOf x).toNat)
  case atStart => exact ⟨0, by omega, rfl, rfl, Lib.hid (Below.refl _ _)⟩
  case round =>
    obtain ⟨k, hk, rfl, rfl, HB⟩ := hrel
    have c0 := (HB.out.cell (p := ⟨g, 0, none⟩) hbg).trans H0.out
    have c1 := (HB.out.cell (p := ⟨g, 1, none⟩) hbg).trans H1.out
    obtain rfl | rfl | rfl : k = 0 ∨ k = 1 ∨ k = 2 := by omega
    · go_wp2
      go_roundw
      case rel => exact ⟨1, by omega, by go_num, by go_num, HB⟩
      case measure => simp [intOf]
    · go_wp2
      go_roundw
      case rel => exact ⟨2, by omega, by go_num, by go_num, HB⟩
      case measure => simp [intOf]
    · have HGr := Lib.hid (HG.out wr (by omega))
      go_wp2_with fail
      refine HGr.out.mono ?_
      rintro e w2 ⟨v2, rfl, ho2, b2⟩
      have HO2 := Lib.hid (show OwnT w.heap.size (catT xs ys 0) v2 w2 from ho2.lower HB.out.size)
      have HB2 := Lib.hid (HB.out.trans (b2.mono HB.out.size))
      clear ho2 b2 c0 c1
      go_wp2
      go_loopw [6, 27] (fun s x wr => ∃ (k : Nat) (r : Value), k ≤ 2 ∧ x = .int .i64 k ∧ r = s ∧ Hid (OwnT w.heap.size (catT xs ys k) r wr) ∧ Hid (Below w.heap.size w wr)) (fun _ x _ => 2 - (intOf x).toNat)
      case atStart => exact ⟨0, _, by omega, rfl, rfl, HO2, HB2⟩
      case round =>
        obtain ⟨k, r, hk, rfl, rfl, HO, HB⟩ := hrel
        have c0 := (HB.out.cell (p := ⟨g, 0, none⟩) hbg).trans H0.out
        have c1 := (HB.out.cell (p := ⟨g, 1, none⟩) hbg).trans H1.out
        obtain rfl | rfl | rfl : k = 0 ∨ k = 1 ∨ k = 2 := by omega
        · obtain ⟨v4, V4, hr4, ho4, hb4⟩ := append_rest wr w.heap.size r _ _ ax cx xs HO.out (HAX.out.below HB.out) (by unfold catT; simp) (by omega) HB.out.size
          have HR4 := Lib.hid hr4
          have HO4 := Lib.hid (show OwnT w.heap.size (catT xs ys 1) v4 V4 from ho4)
          have HB4 := Lib.hid (HB.out.trans hb4)
          clear hr4 ho4 hb4
          go_wp2_with (at_builtin; refine append_by_run _ rfl _ _ 22 rfl _ _ rfl rfl _ _ HR4.out ?_)
          go_roundw
          case rel => exact ⟨1, _, by omega, by go_num, rfl, HO4, HB4⟩
          case measure => simp [intOf]
        · obtain ⟨v4, V4, hr4, ho4, hb4⟩ := append_rest wr w.heap.size r _ _ ay cy ys HO.out (HAY.out.below HB.out) (by unfold catT; simp; omega) (by omega) HB.out.size
          have HR4 := Lib.hid hr4
          have HO4 := Lib.hid (show OwnT w.heap.size (catT xs ys 2) v4 V4 from ho4)
          have HB4 := Lib.hid (HB.out.trans hb4)
          clear hr4 ho4 hb4
          go_wp2_with (at_builtin; refine append_by_run _ rfl _ _ 22 rfl _ _ rfl rfl _ _ HR4.out ?_)
          go_roundw
          case rel => exact ⟨2, _, by omega, by go_num, rfl, HO4, HB4⟩
          case measure => simp [intOf]
        · go_wp2
          go_ret
          exact ⟨_, rfl, HO.out, HB.out⟩

theorem flat_tm (ts : List Tm) (j : Nat) (hj : j < ts.length * 3) : (tmV ts)[j]? = some (flatK encT 3 ts.toArray)[j]! := by
  have hi : j / 3 < ts.length := by omega
  rw [get_flatK encT 3 ts.toArray j (by simpa using hj)]
  have he : ts.toArray[j / 3]! = gt ts (j / 3) := by
    unfold gt
    rw [getElem!_pos _ _ (by simpa using hi), List.getElem_toArray, List.getElem?_eq_getElem hi]
    rfl
  rw [he]
  obtain ⟨h0, h1, h2⟩ := tmV_get ts (j / 3) hi
  have hj3 : j = j / 3 * 3 + j % 3 := by omega
  obtain hm | hm | hm : j % 3 = 0 ∨ j % 3 = 1 ∨ j % 3 = 2 := by omega
  · rw [hm] at hj3 ⊢
    conv => lhs; rw [hj3, Nat.add_zero]
    rw [h0]
    rfl
  · rw [hm] at hj3 ⊢
    conv => lhs; rw [hj3]
    rw [h1]
    rfl
  · rw [hm] at hj3 ⊢
    conv => lhs; rw [hj3]
    rw [h2]
    rfl
theorem OwnT.holds {B g cap : Nat} {ts : List Tm} {w : World} (h : OwnT B ts (.slice (some ⟨g, 0, none⟩) ts.length cap) w) : HoldsK encT 3 w g 0 ts.toArray := by
  have h : w.ownsRow B TT 3 (.slice (some ⟨g, 0, none⟩) ts.length cap) ts.length (tmV ts) := h
  intro j hj
  rw [size_flatK] at hj
  have hj' : j < ts.length * 3 := by simpa using hj
  rw [Nat.zero_add]
  exact ⟨by rw [World.ownsRow.cellAt h j hj', flat_tm ts j hj']; rfl, World.ownsRow.frozenAt h j⟩
theorem holds_tma {g : Nat} {ts : List Tm} {w : World} (h : HoldsK encT 3 w g 0 ts.toArray) : TmA (fun _ => True) w (some ⟨g, 0, none⟩) ts := by
  intro j hj
  have he : ts.toArray[j]! = gt ts j := by
    unfold gt
    rw [getElem!_pos _ _ (by simpa using hj), List.getElem_toArray, List.getElem?_eq_getElem hj]
    rfl
  have hc := fun c hc => (HoldsK.cell h (i := j) (c := c) (by simpa using hj) hc).1
  rw [he] at hc
  have h0 := hc 0 (by omega)
  have h1 := hc 1 (by omega)
  have h2 := hc 2 (by omega)
  exact ⟨g, 0, rfl, trivial, World.block_lt_of_cell? _ _ h0, h0, h1, h2⟩
set_option maxRecDepth 100000 in
theorem tReverse_any (B g cap : Nat) (ts : List Tm) (w : World) (hO : OwnT B ts (.slice (some ⟨g, 0, none⟩) ts.length cap) w) (hl : ts.length ≤ 1000) (hB : B ≤ g) (hcap : ts.length ≤ cap) (hcm : cap ≤ 9223372036854775807) :
    Calls Try.prog 33 #[.slice (some ⟨g, 0, none⟩) ts.length cap] w fun e w' => e = .returned (.tuple #[]) ∧ KtC w' (.slice (some ⟨g, 0, none⟩) ts.reverse.length cap) ts.reverse ∧ Below B w w' := by
  have hH := hO.holds
  have h := AnyQ.slices_Reverse Try.reverseT 3 Try.isAgg24 Try.sizeOf24 encT (fun _ => rfl) (fun x v hv => by simp [encT] at hv; rcases hv with rfl | rfl | rfl <;> rfl) g 0 cap ts.toArray w hH (by simp; omega)
  rw [show ts.toArray.size = ts.length by simp] at h
  refine h.mono ?_
  rintro e w' ⟨rfl, n, rfl⟩
  refine ⟨rfl, ⟨_, _, rfl, by rw [List.length_reverse]; exact hcap, hcm, holds_tma ?_⟩, Lib.below_putRow (Below.refl _ w) hB⟩
  rw [← List.reverse_toArray]
  exact holdsK_putRowK encT 3 _ g 0 _ _ (holdsK_ahead encT 3 w n g 0 _ hH) (by simp)

end Go.Proofs.Ytcmcgcogahkamaa
