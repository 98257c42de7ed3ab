/-
  What the program's split of waiters returns, by a function that may change some blocks of its own.
-/
import Derived.Test.YtonjempbphnimaaWlSeq
namespace Go.Proofs.Ytonjempbphnimaa
open Go.RowKit Go.Shelf

/-- All that was there stays, but for the blocks of S. -/
structure KeepS (S : Nat → Prop) (w w' : World) : Prop where
  os : w'.os = w.os
  tape : w'.tape = w.tape
  output : w'.output = w.output
  size : w.heap.size ≤ w'.heap.size
  block : ∀ b, b < w.heap.size → ¬ S b → w'.heap[b]? = w.heap[b]?
theorem KeepS.refl (S : Nat → Prop) (w : World) : KeepS S w w := ⟨rfl, rfl, rfl, Nat.le_refl _, fun _ _ _ => rfl⟩
theorem KeepS.trans {S : Nat → Prop} {a b c : World} (h : KeepS S a b) (k : KeepS S b c) : KeepS S a c :=
  ⟨k.os.trans h.os, k.tape.trans h.tape, k.output.trans h.output, Nat.le_trans h.size k.size, fun j hj hs => (k.block j (Nat.lt_of_lt_of_le hj h.size) hs).trans (h.block j hj hs)⟩
theorem KeepS.of {S : Nat → Prop} {a b : World} (h : Below a.heap.size a b) : KeepS S a b := ⟨h.os, h.tape, h.output, h.size, fun j hj _ => h.block j hj⟩
theorem KeepS.grown {S : Nat → Prop} {a b c : World} (h : KeepS S a b) {r : Option Nat} (k : b.grownBy c r) (hr : ∀ g, r = some g → a.heap.size ≤ g) : KeepS S a c :=
  ⟨k.os.trans h.os, k.tape.trans h.tape, k.output.trans h.output, Nat.le_trans h.size k.size, fun j hj hs => (k.block j (Nat.lt_of_lt_of_le hj h.size) (fun e => by have := hr j e.symm; omega)).trans (h.block j hj hs)⟩
theorem KeepS.below {a b : World} (h : KeepS (fun _ => False) a b) : Below a.heap.size a b := ⟨h.os, h.tape, h.output, h.size, fun j hj => h.block j hj (fun h => h)⟩
theorem KeepS.belowN {S : Nat → Prop} {n : Nat} {a b : World} (h : KeepS S a b) (hn : n ≤ a.heap.size) (hS : ∀ b, S b → n ≤ b) : Below n a b := ⟨h.os, h.tape, h.output, h.size, fun j hj => h.block j (Nat.lt_of_lt_of_le hj hn) (fun h => by have := hS j h; omega)⟩

/-- The waiters at those places up to k at which p is b. -/
def selN (p : Nat → Bool) (b : Bool) (ts : List Wl) (k : Nat) : List Wl := ((List.range k).filter fun j => p j == b).map (gw ts)
theorem selN_succ (p : Nat → Bool) (b : Bool) (ts : List Wl) (k : Nat) : selN p b ts (k + 1) = if p k = b then selN p b ts k ++ [gw ts k] else selN p b ts k := by
  unfold selN
  rw [List.range_succ, List.filter_append, List.map_append]
  by_cases h : p k = b <;> simp [h]
theorem selN_length (p : Nat → Bool) (b : Bool) (ts : List Wl) (k : Nat) : (selN p b ts k).length ≤ k := by
  unfold selN
  rw [List.length_map]
  exact Nat.le_trans (List.length_filter_le _ _) (by simp)
theorem selN_filter (q : Wl → Bool) (b : Bool) (ts : List Wl) : selN (fun j => q (gw ts j)) b ts ts.length = ts.filter fun w => q w == b := by
  have key : ∀ k, k ≤ ts.length → selN (fun j => q (gw ts j)) b ts k = (ts.take k).filter fun w => q w == b := by
    intro k
    induction k with
    | zero => intro _; simp [selN]
    | succ k ih =>
      intro hk
      rw [selN_succ, take_snocW ts k (by omega), List.filter_append, ih (by omega)]
      by_cases h : q (gw ts k) = b <;> simp [h]
  have := key ts.length (Nat.le_refl _)
  rwa [List.take_length] at this
theorem own_keepS {S : Nat → Prop} {B : Nat} {o : List Wl} {v : Value} {a b : World} (h : OwnW B o v a) (hS : ∀ b, S b → b < B) (k : KeepS S a b) : OwnW B o v b :=
  ownZ_block h (fun g hg => by have := h.lt g hg; exact k.block g this.2 (fun hs => by have := hS g hs; omega))

set_option maxRecDepth 100000 in
set_option maxHeartbeats 4000000 in
theorem split_any (φ S : Nat → Prop) (I : Nat → World → Prop) (fn : Nat) (bnd caps : Array Value) (p : Nat → Bool) (ad : Option Addr) (cap : Nat) (ts : List Wl) (w : World) (heg : ∀ args w, (callFunc fn args).run Try.prog w = .ok (.enter fn args) w) (hA : WlA φ w ad ts) (hl : ts.length ≤ 1000)
    (hφ : ∀ b, φ b → ¬ S b) (hS : ∀ b, S b → b < w.heap.size) (hI0 : I 0 w) (hI : ∀ k W W', I k W → (∀ b, S b → W'.heap[b]? = W.heap[b]?) → I k W')
    (hp : ∀ k W, k < ts.length → I k W → KeepS S w W → ∀ (a b c d f : Int), gw ts k = (a, b, c, d, f) → Calls Try.prog fn (bnd.push (.agg #[.int .i64 a, .int .i64 b, .int .i64 c, .int .i64 d, .int .i64 f]) ++ caps) W fun e W' => e = .returned (.bool (p k)) ∧ I (k + 1) W' ∧ KeepS S W W') :
    Calls Try.prog 47 #[.slice ad ts.length cap, .func (.func fn) bnd caps] w fun e w' => ∃ u v, e = .returned (.tuple #[u, v]) ∧ FwC w.heap.size w' u (selN p true ts ts.length) ∧ FwC w.heap.size w' v (selN p false ts ts.length) ∧ I ts.length w' ∧ KeepS S w w' := by
  have HA := Lib.hid hA
  have HP := Lib.hid hp
  have HPHI := Lib.hid hφ
  have HS := Lib.hid hS
  have HI := Lib.hid hI
  have HI0 := Lib.hid hI0
  clear hA hp hφ hS hI hI0
  go_enter Try.func47, Try.ntmps47
  go_wp2
  go_loopw [4, 5, 10] (fun x y z wr => ∃ (k : Nat) (c o : Value), c = x ∧ o = y ∧ k ≤ ts.length ∧ z = .int .i64 k ∧ Hid (OwnW w.heap.size (selN p true ts k) c wr) ∧ Hid (OwnW w.heap.size (selN p false ts k) o wr) ∧ Hid (∀ b, c.ownBlock = some b → o.ownBlock ≠ some b) ∧ Hid (I k wr) ∧ Hid (KeepS S w wr)) (fun _ _ z _ => ts.length - (intOf z).toNat)
  case atStart => exact ⟨0, _, _, rfl, rfl, Nat.zero_le _, rfl, Lib.hid (OwnW.nil _ _), Lib.hid (OwnW.nil _ _), Lib.hid (fun b h => by simp [Value.ownBlock] at h), HI0, Lib.hid (KeepS.refl _ _)⟩
  case round =>
    obtain ⟨k, c, o, rfl, rfl, hk, rfl, HC, HO, HD, HIK, HK⟩ := hrel
    by_cases hkt : k < ts.length
    · have k1 : (k : Int) < (ts.length : Int) := by omega
      have hAr := HA.out.keep HK.out.size (fun b hb hp => HK.out.block b hb (HPHI.out b hp))
      obtain ⟨bk, off, rfl, _, hb, c0, c1, c2, c3, c4⟩ := hAr k hkt
      obtain ⟨⟨x0, x1, x2, x3, x4⟩, ht⟩ : ∃ t, gw ts k = t := ⟨_, rfl⟩
      rw [ht] at c0 c1 c2 c3 c4
      simp only [] at c0 c1 c2 c3 c4
      have hba : Below wr.heap.size wr (wr.alloc (.cells #[.int .i64 x0, .int .i64 x1, .int .i64 x2, .int .i64 x3, .int .i64 x4] TW)) := (Below.refl _ wr).alloc (Nat.le_refl _) _
      have HKA := Lib.hid (HK.out.trans (KeepS.of (S := S) hba))
      have HIA : Hid (I k (wr.alloc (.cells #[.int .i64 x0, .int .i64 x1, .int .i64 x2, .int .i64 x3, .int .i64 x4] TW))) := Lib.hid (HI.out k wr _ HIK.out (fun b hb => hba.block b (Nat.lt_of_lt_of_le (HS.out b hb) HK.out.size)))
      have HX := Lib.hid (box5 wr x0 x1 x2 x3 x4)
      have HCL := Lib.hid (HP.out k _ hkt HIA.out HKA.out x0 x1 x2 x3 x4 ht)
      have HCA := Lib.hid (HC.out.below hba)
      have HOA := Lib.hid (HO.out.below hba)
      have HT := Lib.hid ht
      have HLC := Lib.hid (selN_length p true ts k)
      have HLO := Lib.hid (selN_length p false ts k)
      have HGE := HK.out.size
      have HGE := Lib.hid HGE
      clear hba ht hAr
      cases hpk : p k with
      | true =>
        have HCL := HCL.out
        rw [hpk] at HCL
        have HCL := Lib.hid HCL
        have HE1 : Hid (selN p true ts (k + 1) = selN p true ts k ++ [(x0, x1, x2, x3, x4)]) := Lib.hid (by rw [selN_succ, if_pos hpk, HT.out])
        have HE2 : Hid (selN p false ts (k + 1) = selN p false ts k) := Lib.hid (by rw [selN_succ, if_neg (by rw [hpk]; simp)])
        clear hpk
        go_wp2_with fail
        refine HCL.out.mono ?_
        rintro e w2 ⟨rfl, hi2, hk2⟩
        have HI2 := Lib.hid hi2
        have HK2 := Lib.hid (HKA.out.trans hk2)
        have HC2 := Lib.hid (own_keepS HCA.out HS.out hk2)
        have HO2 := Lib.hid (own_keepS HOA.out HS.out hk2)
        clear c0 c1 c2 c3 c4
        obtain ⟨c0, c1, c2, c3, c4⟩ := HX.out.keep (hk2.block _ (by simp) (fun h => by have := HS.out _ h; have := HGE.out; omega))
        simp only [Nat.zero_add] at c0 c1 c2 c3 c4
        obtain ⟨W3, hW3⟩ : ∃ W, w2.alloc (.cells #[.int .i64 x0, .int .i64 x1, .int .i64 x2, .int .i64 x3, .int .i64 x4] TW) = W := ⟨_, rfl⟩
        have hb3 : Below w2.heap.size w2 W3 := by rw [← hW3]; exact (Below.refl _ w2).alloc (Nat.le_refl _) _
        have hn3 : W3.heap[w2.heap.size]? = some (.cells (encW (x0, x1, x2, x3, x4)).toArray TW (0, 0)) := by rw [← hW3]; exact heap_alloc_new w2 _
        obtain ⟨v4, W4, gn, hr4, ho4, hg4, hb4, he4, hl4, hd4⟩ := append_oneW W3 w.heap.size c _ (x0, x1, x2, x3, x4) w2.heap.size (HC2.out.below hb3) hn3 (by have := HLC.out; omega) (Nat.le_trans HK2.out.size hb3.size)
        have HR4 := Lib.hid hr4
        have HC4 : Hid (OwnW w.heap.size (selN p true ts (k + 1)) v4 W4) := Lib.hid (by rw [HE1.out]; exact ho4)
        have HO4 : Hid (OwnW w.heap.size (selN p false ts (k + 1)) o W4) := Lib.hid (by
          rw [HE2.out]
          exact World.ownsRow.kept (show W3.ownsRow _ TW 5 o _ _ from HO2.out.below hb3) hg4 (by
            cases ho : o.ownBlock with
            | none => exact .inl rfl
            | some g => exact .inr (fun e => HD.out g e.symm ho)))
        have HD4 : Hid (∀ b, v4.ownBlock = some b → o.ownBlock ≠ some b) := Lib.hid (fun b h1 h2 => by
          rw [he4] at h1
          cases h1
          rcases hd4 with h | h
          · exact HD.out gn h h2
          · have := (HO2.out.lt gn h2).2
            have := hb3.size
            omega)
        have HI4 : Hid (I (k + 1) W4) := Lib.hid (HI.out _ _ _ (HI.out _ _ _ HI2.out (fun b hb => hb3.block b (Nat.lt_of_lt_of_le (HS.out b hb) HK2.out.size))) (fun b hb => hb4.block b (HS.out b hb)))
        have HK4 : Hid (KeepS S w W4) := Lib.hid ((HK2.out.trans (KeepS.of hb3)).grown hg4 (fun g hg => (HC2.out.lt g hg).1))
        have HW3 := Lib.hid hW3
        clear hi2 hk2 hW3 hb3 hn3 hr4 ho4 hg4 hb4 he4 hl4 hd4
        go_wp2_with (rw [HW3.out]; at_builtin; refine append_by_run _ rfl _ _ 22 rfl _ _ rfl rfl _ _ HR4.out ?_)
        go_roundw
        case rel => exact ⟨k + 1, v4, o, rfl, rfl, by omega, by go_num, HC4, HO4, HD4, HI4, HK4⟩
        case measure => simp [intOf]; omega
      | false =>
        have HCL := HCL.out
        rw [hpk] at HCL
        have HCL := Lib.hid HCL
        have HE1 : Hid (selN p false ts (k + 1) = selN p false ts k ++ [(x0, x1, x2, x3, x4)]) := Lib.hid (by rw [selN_succ, if_pos hpk, HT.out])
        have HE2 : Hid (selN p true ts (k + 1) = selN p true ts k) := Lib.hid (by rw [selN_succ, if_neg (by rw [hpk]; simp)])
        clear hpk
        go_wp2_with fail
        refine HCL.out.mono ?_
        rintro e w2 ⟨rfl, hi2, hk2⟩
        have HI2 := Lib.hid hi2
        have HK2 := Lib.hid (HKA.out.trans hk2)
        have HC2 := Lib.hid (own_keepS HCA.out HS.out hk2)
        have HO2 := Lib.hid (own_keepS HOA.out HS.out hk2)
        clear c0 c1 c2 c3 c4
        obtain ⟨c0, c1, c2, c3, c4⟩ := HX.out.keep (hk2.block _ (by simp) (fun h => by have := HS.out _ h; have := HGE.out; omega))
        simp only [Nat.zero_add] at c0 c1 c2 c3 c4
        obtain ⟨W3, hW3⟩ : ∃ W, w2.alloc (.cells #[.int .i64 x0, .int .i64 x1, .int .i64 x2, .int .i64 x3, .int .i64 x4] TW) = W := ⟨_, rfl⟩
        have hb3 : Below w2.heap.size w2 W3 := by rw [← hW3]; exact (Below.refl _ w2).alloc (Nat.le_refl _) _
        have hn3 : W3.heap[w2.heap.size]? = some (.cells (encW (x0, x1, x2, x3, x4)).toArray TW (0, 0)) := by rw [← hW3]; exact heap_alloc_new w2 _
        obtain ⟨v4, W4, gn, hr4, ho4, hg4, hb4, he4, hl4, hd4⟩ := append_oneW W3 w.heap.size o _ (x0, x1, x2, x3, x4) w2.heap.size (HO2.out.below hb3) hn3 (by have := HLO.out; omega) (Nat.le_trans HK2.out.size hb3.size)
        have HR4 := Lib.hid hr4
        have HC4 : Hid (OwnW w.heap.size (selN p false ts (k + 1)) v4 W4) := Lib.hid (by rw [HE1.out]; exact ho4)
        have HO4 : Hid (OwnW w.heap.size (selN p true ts (k + 1)) c W4) := Lib.hid (by
          rw [HE2.out]
          exact World.ownsRow.kept (show W3.ownsRow _ TW 5 c _ _ from HC2.out.below hb3) hg4 (by
            cases ho : c.ownBlock with
            | none => exact .inl rfl
            | some g => exact .inr (fun e => HD.out g ho e.symm)))
        have HD4 : Hid (∀ b, c.ownBlock = some b → v4.ownBlock ≠ some b) := Lib.hid (fun b h1 h2 => by
          rw [he4] at h2
          cases h2
          rcases hd4 with h | h
          · exact HD.out gn h1 h
          · have := (HC2.out.lt gn h1).2
            have := hb3.size
            omega)
        have HI4 : Hid (I (k + 1) W4) := Lib.hid (HI.out _ _ _ (HI.out _ _ _ HI2.out (fun b hb => hb3.block b (Nat.lt_of_lt_of_le (HS.out b hb) HK2.out.size))) (fun b hb => hb4.block b (HS.out b hb)))
        have HK4 : Hid (KeepS S w W4) := Lib.hid ((HK2.out.trans (KeepS.of hb3)).grown hg4 (fun g hg => (HO2.out.lt g hg).1))
        have HW3 := Lib.hid hW3
        clear hi2 hk2 hW3 hb3 hn3 hr4 ho4 hg4 hb4 he4 hl4 hd4
        go_wp2_with (rw [HW3.out]; at_builtin; refine append_by_run _ rfl _ _ 22 rfl _ _ rfl rfl _ _ HR4.out ?_)
        go_roundw
        case rel => exact ⟨k + 1, c, v4, rfl, rfl, by omega, by go_num, HO4, HC4, HD4, HI4, HK4⟩
        case measure => simp [intOf]; omega
    · obtain rfl : k = ts.length := by omega
      go_wp2
      go_ret2
      exact ⟨_, _, rfl, HC.out.fresh, HO.out.fresh, HIK.out, HK.out⟩

end Go.Proofs.Ytonjempbphnimaa
