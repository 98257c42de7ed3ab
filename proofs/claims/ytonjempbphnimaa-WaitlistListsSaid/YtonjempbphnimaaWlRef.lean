/-
  What the reference's Find, Remove and Tasks of waiters return.
-/
import Derived.Test.YtonjempbphnimaaWlApp
import Derived.Test.YtonjempbphnimaaWlIx
namespace Go.Proofs.Ytonjempbphnimaa
open Go.RowKit Go.Shelf

set_option maxRecDepth 100000 in
set_option maxHeartbeats 1000000 in
theorem rwFind_any (v : Value) (ts : List Wl) (t : Int) (w : World) (hK : KwC w v ts) :
    Calls Try.prog 19 #[v, .int .i64 t] w fun e w' => e = .returned (.tuple #[.int .i64 (fndI ts t), .bool (fndB ts t)]) ∧ w = w' := by
  obtain ⟨ad, cap, rfl, hc1, hc2, hA⟩ := hK
  have HA := Lib.hid hA
  clear hA
  go_enter Try.func19, Try.ntmps19
  go_wp2
  go_loopw [6] (fun x wr => ∃ k : Nat, k ≤ ts.length ∧ x = .int .i64 k ∧ wr = w ∧ Hid (∀ j, j < k → isTk t (gw ts j) = false)) (fun x _ => ts.length - (intOf x).toNat)
  case atStart => exact ⟨0, Nat.zero_le _, rfl, rfl, Lib.hid (fun j hj => by omega)⟩
  case round =>
    obtain ⟨k, hk, rfl, rfl, HI⟩ := hrel
    by_cases hkt : k < ts.length
    · have k1 : (k : Int) < (ts.length : Int) := by omega
      obtain ⟨bk, off, rfl, _, hb, c0, _, _, _, _⟩ := HA.out k hkt
      cases hp : isTk t (gw ts k) with
      | true =>
        have HR := Lib.hid (fnd_pos (t := t) (k := (k : Int)) (.inr ⟨k, hkt, rfl, hp, HI.out⟩) (by omega))
        have hq : ((gw ts k).1 == t) = true := by simpa [isTk] using hp
        obtain ⟨x, hx⟩ : ∃ x, (gw ts k).1 = x := ⟨_, rfl⟩
        rw [hx] at c0 hq
        clear hp hx
        go_wp2
        go_ret2
        exact ⟨by rw [HR.out.1, HR.out.2]; rfl, rfl⟩
      | false =>
        have HI' : Hid (∀ j, j < k + 1 → isTk t (gw ts j) = false) := Lib.hid (fun j hj => by
          by_cases e : j = k
          · rw [e]; exact hp
          · exact HI.out j (by omega))
        have hq : ((gw ts k).1 == t) = false := by simpa [isTk] using hp
        obtain ⟨x, hx⟩ : ∃ x, (gw ts k).1 = x := ⟨_, rfl⟩
        rw [hx] at c0 hq
        clear hp hx
        go_wp2
        go_roundw
        case rel => exact ⟨k + 1, by omega, by go_num, by trivial, HI'⟩
        case measure => simp [intOf]; omega
    · obtain rfl : k = ts.length := by omega
      have HR := Lib.hid (fnd_neg (t := t) (k := -1) (.inl ⟨rfl, HI.out⟩) (by omega))
      go_wp2
      go_ret2
      exact ⟨by rw [HR.out.1, HR.out.2]; rfl, rfl⟩

set_option maxRecDepth 100000 in
set_option maxHeartbeats 2000000 in
theorem rwRemove_any (v : Value) (ts : List Wl) (t : Int) (w : World) (hK : KwC w v ts) (hl : ts.length ≤ 900) :
    Calls Try.prog 23 #[v, .int .i64 t] w fun e w' => ∃ u, e = .returned u ∧ FwC w.heap.size w' u (rmW ts t) ∧ Below w.heap.size w w' := by
  obtain ⟨ad, cap, rfl, hc1, hc2, hA⟩ := hK
  have HA := Lib.hid hA
  clear hA
  go_enter Try.func23, Try.ntmps23
  go_wp2
  go_loopw [5, 6] (fun y x wr => ∃ (k : Nat) (c : Value), c = y ∧ k ≤ ts.length ∧ x = .int .i64 k ∧ Hid (OwnW w.heap.size (rmW (ts.take k) t) c wr) ∧ Hid (Below w.heap.size w wr)) (fun _ x _ => ts.length - (intOf x).toNat)
  case atStart => exact ⟨0, _, rfl, Nat.zero_le _, rfl, Lib.hid (made_rowW (heap_alloc_new w _) (Nat.le_refl _)), Lib.hid ((Below.refl _ _).alloc (Nat.le_refl _) _)⟩
  case round =>
    obtain ⟨k, c, rfl, hk, rfl, HC, HB⟩ := hrel
    by_cases hkt : k < ts.length
    · have k1 : (k : Int) < (ts.length : Int) := by omega
      obtain ⟨bk, off, rfl, _, hb, c0, c1, c2, c3, c4⟩ := HA.out.below HB.out k hkt
      obtain ⟨⟨x0, x1, x2, x3, x4⟩, ht⟩ : ∃ t, gw ts k = t := ⟨_, rfl⟩
      rw [ht] at c0 c1 c2 c3 c4
      simp only [] at c0 c1 c2 c3 c4
      have hlen : (rmW (ts.take k) t).length ≤ 900 := by have := rmW_length (ts.take k) t; rw [List.length_take] at this; omega
      cases hp : isTk t (x0, x1, x2, x3, x4) with
      | true =>
        have HE : Hid (rmW (ts.take (k + 1)) t = rmW (ts.take k) t) := Lib.hid (by rw [take_snocW ts k hkt, ht, rmW_snoc, if_pos hp])
        have hq : (x0 != t) = false := by
          have : x0 = t := by simpa [isTk] using hp
          simp [this]
        clear hp ht
        go_wp2
        go_roundw
        case rel => exact ⟨k + 1, c, rfl, by omega, by go_num, Lib.hid (by rw [HE.out]; exact HC.out), HB⟩
        case measure => simp [intOf]; omega
      | false =>
        have HE : Hid (rmW (ts.take (k + 1)) t = rmW (ts.take k) t ++ [(x0, x1, x2, x3, x4)]) := Lib.hid (by rw [take_snocW ts k hkt, ht, rmW_snoc, if_neg (by rw [hp]; simp)])
        have hq : (x0 != t) = true := by
          have : ¬ x0 = t := by simpa [isTk] using hp
          simp [this]
        obtain ⟨W3, hW3⟩ : ∃ W, wr.alloc (.cells #[.int .i64 x0, .int .i64 x1, .int .i64 x2, .int .i64 x3, .int .i64 x4] TW) = W := ⟨_, rfl⟩
        have hb3 : Below wr.heap.size wr W3 := by rw [← hW3]; exact (Below.refl _ wr).alloc (Nat.le_refl _) _
        have hn3 : W3.heap[wr.heap.size]? = some (.cells (encW (x0, x1, x2, x3, x4)).toArray TW (0, 0)) := by rw [← hW3]; exact heap_alloc_new wr _
        obtain ⟨v4, W4, gn, hr4, ho4, hg4, _⟩ := append_oneW W3 w.heap.size c _ (x0, x1, x2, x3, x4) wr.heap.size (HC.out.below hb3) hn3 (by omega) (Nat.le_trans HB.out.size hb3.size)
        have HR4 := Lib.hid hr4
        have HC4 : Hid (OwnW w.heap.size (rmW (ts.take (k + 1)) t) v4 W4) := Lib.hid (by rw [HE.out]; exact ho4)
        have HB4 : Hid (Below w.heap.size w W4) := Lib.hid ((HB.out.trans (hb3.mono HB.out.size)).grown hg4 (Nat.le_trans HB.out.size hb3.size) (fun g hg => (HC.out.lt g hg).1))
        have HW3 := Lib.hid hW3
        clear hp ht hW3 hb3 hn3 hr4 ho4 hg4
        go_wp2_with (rw [HW3.out]; at_builtin; refine append_by_run _ rfl _ _ 22 rfl _ _ rfl rfl _ _ HR4.out ?_)
        go_roundw
        case rel => exact ⟨k + 1, v4, rfl, by omega, by go_num, HC4, HB4⟩
        case measure => simp [intOf]; omega
    · obtain rfl : k = ts.length := by omega
      have HE : Hid (FwC w.heap.size wr c (rmW ts t)) := Lib.hid (by have := HC.out.fresh; rwa [List.take_length] at this)
      go_wp2
      go_ret
      exact ⟨_, rfl, HE.out, HB.out⟩

theorem fnd_first {ts : List Wl} {k : Nat} (h : k < ts.length) : (fndI ts (gw ts k).1 == (k : Int)) = !decide ((gw ts k).1 ∈ tskL (ts.take k)) := by
  have hs := ixN_spec ts (isTk (gw ts k).1)
  have hk : isTk (gw ts k).1 (gw ts k) = true := by simp [isTk]
  rcases hs with ⟨_, hn⟩ | ⟨i, hi, hie, hp, hmin⟩
  · rw [hn k h] at hk; cases hk
  · have h0 : ¬ ixN ts (isTk (gw ts k).1) < 0 := by rw [hie]; omega
    have hf : fndI ts (gw ts k).1 = i := by unfold fndI; rw [if_neg h0, hie]
    rw [hf]
    by_cases hik : i = k
    · subst hik
      have hne : ¬ (gw ts i).1 ∈ tskL (ts.take i) := by
        rw [tskL_mem]
        rintro ⟨x, hx, e⟩
        obtain ⟨j, hj, rfl⟩ := mem_gw hx
        rw [List.length_take] at hj
        rw [gw_take (by omega)] at e
        have := hmin j (by omega)
        unfold isTk at this
        rw [decide_eq_false_iff_not] at this
        exact this e
      rw [decide_eq_false hne]
      simp
    · have hlt : i < k := by
        by_cases h1 : i < k
        · exact h1
        · have := hmin k (by omega)
          rw [hk] at this
          cases this
      have hm : (gw ts k).1 ∈ tskL (ts.take k) := by
        rw [tskL_mem]
        refine ⟨gw ts i, ?_, by simpa [isTk] using hp⟩
        have := gw_mem (ts := ts.take k) (k := i) (by rw [List.length_take]; omega)
        rwa [gw_take hlt] at this
      rw [decide_eq_true hm]
      have : ¬ (i : Int) = (k : Int) := by omega
      simpa using this

set_option maxRecDepth 100000 in
set_option maxHeartbeats 2000000 in
theorem rwTasks_any (v : Value) (ts : List Wl) (w : World) (hK : KwC w v ts) (hl : ts.length ≤ 900) :
    Calls Try.prog 26 #[v] w fun e w' => ∃ u, e = .returned u ∧ KlC w' u (tskL ts) ∧ Below w.heap.size w w' := by
  have HK := Lib.hid hK
  obtain ⟨ad, cap, rfl, hc1, hc2, hA⟩ := hK
  have HA := Lib.hid hA
  clear hA
  go_enter Try.func26, Try.ntmps26
  go_wp2
  go_loopw [3, 4] (fun y x wr => ∃ (k : Nat) (c : Value), c = y ∧ k ≤ ts.length ∧ x = .int .i64 k ∧ Hid (OwnZ w.heap.size (tskL (ts.take k)) c wr) ∧ Hid (Below w.heap.size w wr)) (fun _ x _ => ts.length - (intOf x).toNat)
  case atStart => exact ⟨0, _, rfl, Nat.zero_le _, rfl, Lib.hid (made_rowZ (heap_alloc_new w _) (Nat.le_refl _)), Lib.hid ((Below.refl _ _).alloc (Nat.le_refl _) _)⟩
  case round =>
    obtain ⟨k, c, rfl, hk, rfl, HC, HB⟩ := hrel
    by_cases hkt : k < ts.length
    · have k1 : (k : Int) < (ts.length : Int) := by omega
      have hF := rwFind_any _ ts (gw ts k).1 wr (HK.out.below HB.out)
      obtain ⟨bk, off, rfl, _, hb, c0, _, _, _, _⟩ := HA.out.below HB.out k hkt
      have hlen : (tskL (ts.take k)).length ≤ 900 := by have := tskL_length (ts.take k); rw [List.length_take] at this; omega
      have hE := fnd_first hkt
      have HN : Hid (tskL (ts.take (k + 1)) = if (gw ts k).1 ∈ tskL (ts.take k) then tskL (ts.take k) else tskL (ts.take k) ++ [(gw ts k).1]) := Lib.hid (by rw [take_snocW ts k hkt, tskL_snoc])
      obtain ⟨x, hx⟩ : ∃ x, (gw ts k).1 = x := ⟨_, rfl⟩
      rw [hx] at c0 hE HN hF
      obtain ⟨y, hy⟩ : ∃ y, fndI ts x = y := ⟨_, rfl⟩
      rw [hy] at hE hF
      have HF := Lib.hid hF
      generalize hS : tskL (ts.take k) = S at HC HN hlen hE
      clear hx hy hS hF
      by_cases hin : x ∈ S
      · rw [decide_eq_true hin] at hE
        have hE : (y == (k : Int)) = false := hE
        have HE : Hid (tskL (ts.take (k + 1)) = S) := Lib.hid (HN.out.trans (if_pos hin))
        clear hin
        go_wp2_with fail
        refine HF.out.mono ?_
        rintro e w2 ⟨rfl, rfl⟩
        go_wp2
        go_roundw
        case rel => exact ⟨k + 1, c, rfl, by omega, by go_num, Lib.hid (by rw [HE.out]; exact HC.out), HB⟩
        case measure => simp [intOf]; omega
      · rw [decide_eq_false hin] at hE
        have hE : (y == (k : Int)) = true := hE
        have HE : Hid (tskL (ts.take (k + 1)) = S ++ [x]) := Lib.hid (HN.out.trans (if_neg hin))
        obtain ⟨W3, hW3⟩ : ∃ W, wr.alloc (.cells #[.int .i64 x] TZ) = W := ⟨_, rfl⟩
        have hb3 : Below wr.heap.size wr W3 := by rw [← hW3]; exact (Below.refl _ wr).alloc (Nat.le_refl _) _
        have hn3 : W3.heap[wr.heap.size]? = some (.cells #[.int .i64 x] TZ (0, 0)) := by rw [← hW3]; exact heap_alloc_new wr _
        obtain ⟨v4, W4, hr4, ho4, hg4⟩ := appZ W3 w.heap.size c S x wr.heap.size (HC.out.below hb3) hn3 (by omega) (Nat.le_trans HB.out.size hb3.size)
        have HR4 := Lib.hid hr4
        have HC4 : Hid (OwnZ w.heap.size (tskL (ts.take (k + 1))) v4 W4) := Lib.hid (by rw [HE.out]; exact ho4)
        have HB4 : Hid (Below w.heap.size w W4) := Lib.hid ((HB.out.trans (hb3.mono HB.out.size)).grown hg4 (Nat.le_trans HB.out.size hb3.size) (fun g hg => (HC.out.lt g hg).1))
        have HW3 := Lib.hid hW3
        clear hin hW3 hb3 hn3 hr4 ho4 hg4
        go_wp2_with fail
        refine HF.out.mono ?_
        rintro e w2 ⟨rfl, rfl⟩
        go_wp2_with (rw [HW3.out]; at_builtin; refine append_by_run _ rfl _ _ 39 rfl _ _ rfl rfl _ _ HR4.out ?_)
        go_roundw
        case rel => exact ⟨k + 1, v4, rfl, by omega, by go_num, HC4, HB4⟩
        case measure => simp [intOf]; omega
    · obtain rfl : k = ts.length := by omega
      have HE : Hid (KlC wr c (tskL ts)) := Lib.hid (by have := HC.out.known; rwa [List.take_length] at this)
      go_wp2
      go_ret
      exact ⟨_, rfl, HE.out, HB.out⟩

end Go.Proofs.Ytonjempbphnimaa
