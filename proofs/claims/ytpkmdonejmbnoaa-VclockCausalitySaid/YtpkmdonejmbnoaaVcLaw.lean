/-
  The statements' own functions of vclock: awake, great and valid; the library's ContainsFunc over clocks and Equal.
-/
import Derived.Test.YtpkmdonejmbnoaaVcRefB
namespace Go.Proofs.Ytpkmdonejmbnoaa
open Go.RowKit

theorem vJoin_at (u v : Value) (xs ys : List Int) (w : World) (hu : KlC w u xs) (hv : KlC w v ys) : Calls Try.prog 25 #[u, v] w (RetK (joinL xs ys) (pairE xs ys) w) := by
  obtain ⟨a, c, rfl, h1, l1⟩ := hu
  obtain ⟨b, d, rfl, h2, l2⟩ := hv
  exact vJoin_any a b c d xs ys w h1 h2 l1 l2
theorem rJoin_at (u v : Value) (xs ys : List Int) (w : World) (hu : KlC w u xs) (hv : KlC w v ys) : Calls Try.prog 26 #[u, v] w (RetK (joinL xs ys) (pairE xs ys) w) := by
  obtain ⟨a, c, rfl, h1, l1⟩ := hu
  obtain ⟨b, d, rfl, h2, l2⟩ := hv
  exact rJoin_any a b c d xs ys w h1 h2 l1 l2
theorem vMeet_at (u v : Value) (xs ys : List Int) (w : World) (hu : KlC w u xs) (hv : KlC w v ys) : Calls Try.prog 27 #[u, v] w (RetK (meetL xs ys) (pairE xs ys) w) := by
  obtain ⟨a, c, rfl, h1, l1⟩ := hu
  obtain ⟨b, d, rfl, h2, l2⟩ := hv
  exact vMeet_any a b c d xs ys w h1 h2 l1 l2
theorem rMeet_at (u v : Value) (xs ys : List Int) (w : World) (hu : KlC w u xs) (hv : KlC w v ys) : Calls Try.prog 28 #[u, v] w (RetK (meetL xs ys) (pairE xs ys) w) := by
  obtain ⟨a, c, rfl, h1, l1⟩ := hu
  obtain ⟨b, d, rfl, h2, l2⟩ := hv
  exact rMeet_any a b c d xs ys w h1 h2 l1 l2
theorem vCompare_at (u v : Value) (xs ys : List Int) (w : World) (hu : KlC w u xs) (hv : KlC w v ys) : Calls Try.prog 29 #[u, v] w fun e w' => e = .returned (.int .i64 (cmpK xs ys)) ∧ w = w' := by
  obtain ⟨a, c, rfl, h1, l1⟩ := hu
  obtain ⟨b, d, rfl, h2, l2⟩ := hv
  exact vCompare_any w.heap.size a b c d xs ys w h1 h2 l1 l2
theorem rCompare_at (u v : Value) (xs ys : List Int) (w : World) (hu : KlC w u xs) (hv : KlC w v ys) : Calls Try.prog 30 #[u, v] w fun e w' => e = .returned (.int .i64 (cmpK xs ys)) ∧ Below w.heap.size w w' := by
  obtain ⟨a, c, rfl, h1, l1⟩ := hu
  obtain ⟨b, d, rfl, h2, l2⟩ := hv
  exact rCompare_any a b c d xs ys w h1 h2 l1 l2
theorem vTick_at (u : Value) (xs : List Int) (i : Int) (w : World) (hu : KlC w u xs) : Calls Try.prog 19 #[u, .int .i64 i] w (RetK (tickL xs i) (tickE xs i) w) := by
  obtain ⟨a, c, rfl, h1, l1⟩ := hu
  exact vTick_any a c xs i w h1 l1
theorem rTick_at (u : Value) (xs : List Int) (i : Int) (w : World) (hu : KlC w u xs) : Calls Try.prog 20 #[u, .int .i64 i] w (RetK (tickL xs i) (tickE xs i) w) := by
  obtain ⟨a, c, rfl, h1, l1⟩ := hu
  exact rTick_any a c xs i w h1 l1
theorem vCheck_at (u : Value) (xs : List Int) (w : World) (hu : KlC w u xs) : Calls Try.prog 15 #[u] w fun e w' => e = .returned (.int .i64 (vcE xs)) ∧ w = w' := by
  obtain ⟨a, c, rfl, h1, l1⟩ := hu
  exact vCheck_any w.heap.size a c xs w h1 l1
theorem rCheck_at (u : Value) (xs : List Int) (w : World) (hu : KlC w u xs) : Calls Try.prog 16 #[u] w fun e w' => e = .returned (.int .i64 (vcE xs)) ∧ w = w' := by
  obtain ⟨a, c, rfl, h1, l1⟩ := hu
  exact rCheck_any w.heap.size a c xs w h1 l1
theorem vCovers_at (u : Value) (xs : List Int) (i n : Int) (w : World) (hu : KlC w u xs) : Calls Try.prog 17 #[u, .int .i64 i, .int .i64 n] w fun e w' => e = .returned (.bool (kovB xs i n)) ∧ w = w' := by
  obtain ⟨a, c, rfl, h1, l1⟩ := hu
  exact vKovers_any w.heap.size a c xs i n w h1 l1
theorem rCovers_at (u : Value) (xs : List Int) (i n : Int) (w : World) (hu : KlC w u xs) : Calls Try.prog 18 #[u, .int .i64 i, .int .i64 n] w fun e w' => e = .returned (.bool (kovB xs i n)) ∧ w = w' := by
  obtain ⟨a, c, rfl, h1, l1⟩ := hu
  exact rKovers_any w.heap.size a c xs i n w h1 l1

theorem kl2 (w : World) (x y : Int) : KlC (w.alloc (.cells #[.int .i64 x, .int .i64 y] TZ)) (.slice (some ⟨w.heap.size, 0, none⟩) 2 2) [x, y] := by
  refine ⟨_, 2, rfl, fun j hj => ⟨w.heap.size, 0, rfl, by simp, ?_⟩, by simp⟩
  have hj : j < 2 := hj
  match j, hj with
  | 0, _ => simp
  | 1, _ => simp
theorem kl_new (w : World) (x y : Int) (W : World) (h : w.alloc (.cells #[.int .i64 x, .int .i64 y] TZ) = W) : KlC W (.slice (some ⟨w.heap.size, 0, none⟩) 2 2) [x, y] ∧ Below w.heap.size w W := by
  rw [← h]
  exact ⟨kl2 w x y, (Below.refl _ w).alloc (Nat.le_refl _) _⟩

set_option maxRecDepth 100000 in
set_option maxHeartbeats 4000000 in
theorem awake_any (w : World) : Calls Try.prog 11 #[] w fun e w' => e = .returned (.bool true) ∧ Below w.heap.size w w' := by
  obtain ⟨w0, hw0⟩ : ∃ W, w.alloc (.cells #[.int .i64 1, .int .i64 2] TZ) = W := ⟨_, rfl⟩
  obtain ⟨w1, hw1⟩ : ∃ W, w0.alloc (.cells #[.int .i64 2, .int .i64 1] TZ) = W := ⟨_, rfl⟩
  obtain ⟨ka, ba⟩ := kl_new w 1 2 w0 hw0
  obtain ⟨kb, bb⟩ := kl_new w0 2 1 w1 hw1
  have hz : w0.heap.size = w.heap.size + 1 := by rw [← hw0]; simp
  rw [hz] at kb
  have ka1 := ka.below bb
  have b1 : Below w.heap.size w w1 := ba.trans (bb.mono (by omega))
  have h1 := vJoin_at _ _ _ _ w1 ka1 kb
  rw [show joinL [1, 2] [2, 1] = [2, 2] by decide +kernel, show pairE [1, 2] [2, 1] = 0 by decide +kernel] at h1
  have H1 := Lib.hid h1
  have KA1 := Lib.hid ka1
  have KB1 := Lib.hid kb
  have B1 := Lib.hid b1
  have HW : Hid ((w.alloc (.cells #[.int .i64 1, .int .i64 2] TZ)).alloc (.cells #[.int .i64 2, .int .i64 1] TZ) = w1) := Lib.hid (by rw [hw0]; exact hw1)
  clear hw0 hw1 ka ba kb bb hz ka1 b1 h1
  go_enter Try.func11, Try.ntmps11
  go_wp2_with fail
  rw [HW.out]
  refine H1.out.mono ?_
  rintro e w2 ⟨v2, rfl, k2, b2⟩
  have B2 := Lib.hid (B1.out.trans (b2.mono B1.out.size))
  have KA2 := Lib.hid (KA1.out.below b2)
  have KB2 := Lib.hid (KB1.out.below b2)
  have K2 := Lib.hid k2
  have h2 := vMeet_at _ _ _ _ w2 KA2.out KB2.out
  rw [show meetL [1, 2] [2, 1] = [1, 1] by decide +kernel, show pairE [1, 2] [2, 1] = 0 by decide +kernel] at h2
  have H2 := Lib.hid h2
  clear k2 b2 h2 H1 HW KA1 KB1 B1
  go_wp2_with fail
  refine H2.out.mono ?_
  rintro e w3 ⟨v3, rfl, k3, b3⟩
  have B3 := Lib.hid (B2.out.trans (b3.mono B2.out.size))
  have KA3 := Lib.hid (KA2.out.below b3)
  have KB3 := Lib.hid (KB2.out.below b3)
  have J3 := Lib.hid (K2.out.below b3)
  have M3 := Lib.hid k3
  obtain ⟨w4, hw4⟩ : ∃ W, w3.alloc (.cells #[.int .i64 2, .int .i64 2] TZ) = W := ⟨_, rfl⟩
  obtain ⟨kc, bc⟩ := kl_new w3 2 2 w4 hw4
  have H4 := Lib.hid (rSame_yes v2 _ _ w4 (J3.out.below bc) kc)
  have B4 := Lib.hid (B3.out.trans (bc.mono B3.out.size))
  have KA4 := Lib.hid (KA3.out.below bc)
  have KB4 := Lib.hid (KB3.out.below bc)
  have M4 := Lib.hid (M3.out.below bc)
  have W4 := Lib.hid hw4
  clear k3 b3 hw4 kc bc H2 KA2 KB2 K2 B2 B3 KA3 KB3 J3 M3
  go_wp2_with fail
  rw [W4.out]
  refine H4.out.mono ?_
  rintro e w5 ⟨rfl, b5⟩
  obtain ⟨w6, hw6⟩ : ∃ W, w5.alloc (.cells #[.int .i64 1, .int .i64 1] TZ) = W := ⟨_, rfl⟩
  obtain ⟨kc, bc⟩ := kl_new w5 1 1 w6 hw6
  have b6 : Below w4.heap.size w4 w6 := b5.trans (bc.mono b5.size)
  have H6 := Lib.hid (rSame_yes v3 _ _ w6 (M4.out.below b6) kc)
  have B6 := Lib.hid (B4.out.trans (b6.mono B4.out.size))
  have KA6 := Lib.hid (KA4.out.below b6)
  have KB6 := Lib.hid (KB4.out.below b6)
  have W6 := Lib.hid hw6
  clear b5 hw6 kc bc b6 H4 W4 B4 KA4 KB4 M4
  go_wp2_with fail
  rw [W6.out]
  refine H6.out.mono ?_
  rintro e w7 ⟨rfl, b7⟩
  have KA7 := Lib.hid (KA6.out.below b7)
  have KB7 := Lib.hid (KB6.out.below b7)
  have B7 := Lib.hid (B6.out.trans (b7.mono B6.out.size))
  have h7 := vCompare_at _ _ _ _ w7 KA7.out KB7.out
  rw [show cmpK [1, 2] [2, 1] = 3 by decide +kernel] at h7
  have H7 := Lib.hid h7
  clear b7 h7 H6 W6 B6 KA6 KB6
  go_wp2_with fail
  refine H7.out.mono ?_
  rintro e w8 ⟨rfl, rfl⟩
  obtain ⟨w9, hw9⟩ : ∃ W, w7.alloc (.cells #[.int .i64 1, .int .i64 3] TZ) = W := ⟨_, rfl⟩
  obtain ⟨kc, bc⟩ := kl_new w7 1 3 w9 hw9
  have h9 := vCompare_at _ _ _ _ w9 (KA7.out.below bc) kc
  rw [show cmpK [1, 2] [1, 3] = 1 by decide +kernel] at h9
  have H9 := Lib.hid h9
  have B9 := Lib.hid (B7.out.trans (bc.mono B7.out.size))
  have W9 := Lib.hid hw9
  clear hw9 kc bc h9 H7 KA7 KB7 B7
  go_wp2_with fail
  rw [W9.out]
  refine H9.out.mono ?_
  rintro e w10 ⟨rfl, rfl⟩
  go_wp2
  go_ret
  exact ⟨rfl, B9.out⟩

/-! ### Lists of clocks -/

abbrev TC : TypeId := 23
def elK (ll : List (List Int)) (i : Nat) : List Int := ll[i]?.getD []
/-- A slice value that leads to these clocks. -/
def KlL (w : World) (v : Value) (ll : List (List Int)) : Prop := ∃ a c, v = .slice a ll.length c ∧ ll.length ≤ 9223372036854775807 ∧ ∀ i, i < ll.length → ∃ b off u, a = some ⟨b, off, none⟩ ∧ b < w.heap.size ∧ w.cell? ⟨b, off + i, none⟩ = some u ∧ KlC w u (elK ll i)
theorem KlL.below {w w' : World} {v : Value} {ll : List (List Int)} (h : KlL w v ll) (hb : Below w.heap.size w w') : KlL w' v ll := by
  obtain ⟨a, c, e, hl, hi⟩ := h
  refine ⟨a, c, e, hl, fun i hh => ?_⟩
  obtain ⟨b, off, u, e1, e2, e3, e4⟩ := hi i hh
  exact ⟨b, off, u, e1, Nat.lt_of_lt_of_le e2 hb.size, (hb.cell (p := ⟨b, off + i, none⟩) e2).trans e3, e4.below hb⟩
theorem klL1 (w : World) (u : Value) (x : List Int) (h : KlC w u x) : KlL (w.alloc (.cells #[u] TC)) (.slice (some ⟨w.heap.size, 0, none⟩) 1 1) [x] := by
  have hb : Below w.heap.size w (w.alloc (.cells #[u] TC)) := (Below.refl _ w).alloc (Nat.le_refl _) _
  refine ⟨_, 1, rfl, by simp, fun i hi => ?_⟩
  have hi : i < 1 := hi
  match i, hi with
  | 0, _ => exact ⟨_, 0, u, rfl, by simp, by simp, h.below hb⟩
theorem klL2 (w : World) (u v : Value) (x y : List Int) (h : KlC w u x) (k : KlC w v y) : KlL (w.alloc (.cells #[u, v] TC)) (.slice (some ⟨w.heap.size, 0, none⟩) 2 2) [x, y] := by
  have hb : Below w.heap.size w (w.alloc (.cells #[u, v] TC)) := (Below.refl _ w).alloc (Nat.le_refl _) _
  refine ⟨_, 2, rfl, by simp, fun i hi => ?_⟩
  have hi : i < 2 := hi
  match i, hi with
  | 0, _ => exact ⟨_, 0, u, rfl, by simp, by simp, h.below hb⟩
  | 1, _ => exact ⟨_, 0, v, rfl, by simp, by simp, k.below hb⟩
theorem klL3 (w : World) (u v z : Value) (x y q : List Int) (h : KlC w u x) (k : KlC w v y) (g : KlC w z q) : KlL (w.alloc (.cells #[u, v, z] TC)) (.slice (some ⟨w.heap.size, 0, none⟩) 3 3) [x, y, q] := by
  have hb : Below w.heap.size w (w.alloc (.cells #[u, v, z] TC)) := (Below.refl _ w).alloc (Nat.le_refl _) _
  refine ⟨_, 3, rfl, by simp, fun i hi => ?_⟩
  have hi : i < 3 := hi
  match i, hi with
  | 0, _ => exact ⟨_, 0, u, rfl, by simp, by simp, h.below hb⟩
  | 1, _ => exact ⟨_, 0, v, rfl, by simp, by simp, k.below hb⟩
  | 2, _ => exact ⟨_, 0, z, rfl, by simp, by simp, g.below hb⟩

set_option maxRecDepth 100000 in
set_option maxHeartbeats 2000000 in
theorem indexFuncK_any (f : Nat) (caps : Array Value) (v : Value) (ll : List (List Int)) (p : List Int → Bool) (w : World) (heg : ∀ args w, (callFunc f args).run Try.prog w = .ok (.enter f args) w) (hv : KlL w v ll) (hp : ∀ i u, i < ll.length → KlC w u (elK ll i) → Calls Try.prog f (#[u] ++ caps) w fun e w' => e = .returned (.bool (p (elK ll i))) ∧ w = w') :
    Calls Try.prog 60 #[v, .func (.func f) #[] caps] w fun e w' => ∃ k : Int, e = .returned (.int .i64 k) ∧ (decide (0 ≤ k) = ll.any p) ∧ w = w' := by
  obtain ⟨a, c, rfl, hl, hL⟩ := hv
  have HL := Lib.hid hL
  have HP := Lib.hid hp
  have HY : Hid (∀ k : Nat, k < ll.length → p (elK ll k) = true → ll.any p = true) := Lib.hid (fun k hk h => List.any_eq_true.2 ⟨_, List.getElem_mem hk, by unfold elK at h; simpa [hk] using h⟩)
  have HZ : Hid ((ll.take ll.length).any p = false → ll.any p = false) := Lib.hid (fun h => by rwa [List.take_length] at h)
  have HN : Hid (∀ k : Nat, k < ll.length → (ll.take k).any p = false → p (elK ll k) = false → (ll.take (k + 1)).any p = false) := Lib.hid (fun k hk h1 h2 => by
    rw [List.take_succ_eq_append_getElem hk, List.any_append, h1]
    unfold elK at h2
    simpa [hk] using h2)
  clear hL hp
  go_enter Try.func60, Try.ntmps60
  go_wp2
  go_loopw [8] (fun x wr => ∃ k : Nat, k ≤ ll.length ∧ x = .int .i64 k ∧ Hid ((ll.take k).any p = false) ∧ w = wr) (fun x _ => ll.length - (intOf x).toNat)
  case atStart => exact ⟨0, Nat.zero_le _, rfl, Lib.hid (by simp), rfl⟩
  case round =>
    obtain ⟨k, hk, rfl, HA, rfl⟩ := hrel
    by_cases hkt : k < ll.length
    · have k1 : (k : Int) < (ll.length : Int) := by omega
      obtain ⟨b, off, u, rfl, hb, p1, hK⟩ := HL.out k hkt
      have HC := HP.out k u hkt hK
      cases hpk : p (elK ll k) with
      | true =>
        rw [hpk] at HC
        have HANY := Lib.hid (HY.out k hkt hpk)
        have HC := Lib.hid HC
        clear hK hpk
        go_wp2_with fail
        refine HC.out.mono ?_
        rintro e w4 ⟨rfl, rfl⟩
        go_wp2
        go_ret
        exact ⟨_, rfl, by rw [HANY.out]; simp, rfl⟩
      | false =>
        rw [hpk] at HC
        have HA' := Lib.hid (HN.out k hkt HA.out hpk)
        have HC := Lib.hid HC
        clear hK hpk
        go_wp2_with fail
        refine HC.out.mono ?_
        rintro e w4 ⟨rfl, rfl⟩
        go_wp2
        go_roundw
        case rel => exact ⟨k + 1, by omega, by go_num, HA', trivial⟩
        case measure => simp [intOf]; omega
    · obtain rfl : k = ll.length := by omega
      have HF := Lib.hid (HZ.out HA.out)
      go_wp2
      go_ret
      exact ⟨_, rfl, by rw [HF.out]; simp, rfl⟩

theorem containsFuncK_any (f : Nat) (caps : Array Value) (v : Value) (ll : List (List Int)) (p : List Int → Bool) (w : World) (heg : ∀ args w, (callFunc f args).run Try.prog w = .ok (.enter f args) w) (hv : KlL w v ll) (hp : ∀ i u, i < ll.length → KlC w u (elK ll i) → Calls Try.prog f (#[u] ++ caps) w fun e w' => e = .returned (.bool (p (elK ll i))) ∧ w = w') :
    Calls Try.prog 39 #[v, .func (.func f) #[] caps] w fun e w' => e = .returned (.bool (ll.any p)) ∧ w = w' := by
  have HI := Lib.hid (indexFuncK_any f caps v ll p w heg hv hp)
  clear hv hp
  go_enter Try.func39, Try.ntmps39
  go_wp2_with fail
  refine HI.out.mono ?_
  rintro e w1 ⟨k, rfl, hk, rfl⟩
  go_wp2
  go_ret
  exact ⟨by rw [← hk]; rfl, rfl⟩

def bigK (x : List Int) : Bool := decide (34 < x.length)
theorem great_one (u : Value) (x : List Int) (w : World) (h : KlC w u x) : Calls Try.prog 40 (#[u] ++ #[]) w fun e w' => e = .returned (.bool (bigK x)) ∧ w = w' := by
  obtain ⟨a, c, rfl, _, _⟩ := h
  have hd : bigK x = decide ((34 : Int) < (x.length : Int)) := by unfold bigK; rw [decide_eq_decide]; omega
  rw [hd]
  simp only [Array.append_empty]
  go_enter Try.func40, Try.ntmps40
  go_wp2
  go_ret
  exact ⟨rfl, rfl⟩
/-- great. -/
theorem greatK_any (v : Value) (ll : List (List Int)) (w : World) (hv : KlL w v ll) : Calls Try.prog 10 #[v] w fun e w' => e = .returned (.bool (ll.any bigK)) ∧ w = w' := by
  have HC := Lib.hid (containsFuncK_any 40 #[] v ll bigK w (fun args w => by kernel_rfl) hv (fun i u _ hu => great_one u _ w hu))
  clear hv
  go_enter Try.func10, Try.ntmps10
  go_wp2_with fail
  refine HC.out.mono ?_
  rintro e w4 ⟨rfl, rfl⟩
  go_wp2
  go_ret
  exact ⟨rfl, rfl⟩

def badK (n : Nat) (x : List Int) : Bool := !decide (vcE x = 0) || !decide (x.length = n)
theorem valid_one (u v : Value) (x : List Int) (ll : List (List Int)) (B : Nat) (w : World) (h : KlC w u x) (hv : KlL w v ll) (h0 : 0 < ll.length) (hB : w.cell? ⟨B, 0, none⟩ = some v) :
    Calls Try.prog 58 (#[u] ++ #[.pointer (some ⟨B, 0, none⟩)]) w fun e w' => e = .returned (.bool (badK (elK ll 0).length x)) ∧ w = w' := by
  have HC := rCheck_at u x w h
  obtain ⟨a, c, rfl, _, _⟩ := h
  obtain ⟨a1, c1, rfl, _, hi⟩ := hv
  obtain ⟨b, off, u2, rfl, hb, p1, ⟨a2, c2, rfl, _, _⟩⟩ := hi 0 h0
  have k1 : (0 : Int) < (ll.length : Int) := by omega
  rw [Nat.add_zero] at p1
  rw [show (#[Value.slice a x.length c] ++ #[Value.pointer (some ⟨B, 0, none⟩)] : Array Value) = #[.slice a x.length c, .pointer (some ⟨B, 0, none⟩)] from rfl]
  by_cases hv : vcE x = 0
  · rw [hv] at HC
    have HC := Lib.hid HC
    have hd : badK (elK ll 0).length x = ((x.length : Int) != ((elK ll 0).length : Int)) := by
      unfold badK
      rw [hv]
      by_cases e : x.length = (elK ll 0).length
      · rw [e]; simp
      · have : ((x.length : Int) != ((elK ll 0).length : Int)) = true := by rw [bne_iff_ne]; omega
        rw [this]; simp [e]
    rw [hd]
    clear hi hv hd
    generalize (elK ll 0).length = q at *
    go_enter Try.func58, Try.ntmps58
    go_wp2_with fail
    refine HC.out.mono ?_
    rintro e w4 ⟨rfl, rfl⟩
    go_wp2
    go_ret
    exact ⟨rfl, rfl⟩
  · rw [show badK (elK ll 0).length x = true by unfold badK; simp [hv]]
    have hb2 : (vcE x != 0) = true := by simpa using hv
    have HC := Lib.hid HC
    clear hi hv
    generalize vcE x = y at *
    go_enter Try.func58, Try.ntmps58
    go_wp2_with fail
    refine HC.out.mono ?_
    rintro e w4 ⟨rfl, rfl⟩
    go_wp2
    go_ret
    exact ⟨rfl, rfl⟩
/-- valid. -/
theorem validK_any (v : Value) (ll : List (List Int)) (w : World) (hv : KlL w v ll) (h0 : 0 < ll.length) : Calls Try.prog 31 #[v] w fun e w' => e = .returned (.bool (!ll.any (badK (elK ll 0).length))) ∧ Below w.heap.size w w' := by
  obtain ⟨w1, hw1⟩ : ∃ W, w.alloc (.cells #[v] 46) = W := ⟨_, rfl⟩
  have hb : Below w.heap.size w w1 := by rw [← hw1]; exact (Below.refl _ w).alloc (Nat.le_refl _) _
  have hv1 := hv.below hb
  have hc : w1.cell? ⟨w.heap.size, 0, none⟩ = some v := by rw [← hw1]; simp
  have HC := Lib.hid (containsFuncK_any 58 #[.pointer (some ⟨w.heap.size, 0, none⟩)] v ll (badK (elK ll 0).length) w1 (fun args w => by kernel_rfl) hv1 (fun i u _ hu => valid_one u v _ ll w.heap.size w1 hu hv1 h0 hc))
  have HW := Lib.hid hw1
  have HB := Lib.hid hb
  obtain ⟨a, c, rfl, _, _⟩ := hv
  clear hw1 hb hv1 hc h0
  go_enter Try.func31, Try.ntmps31
  go_wp2_with fail
  rw [HW.out]
  refine HC.out.mono ?_
  rintro e w4 ⟨rfl, rfl⟩
  go_wp2
  go_ret
  exact ⟨rfl, HB.out⟩

end Go.Proofs.Ytpkmdonejmbnoaa
