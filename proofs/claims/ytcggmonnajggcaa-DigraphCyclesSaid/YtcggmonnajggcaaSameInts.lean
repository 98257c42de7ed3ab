/-
  What the reference's SameInts of digraph returns.
-/
import Derived.Test.YtcggmonnajggcaaMarked
import Derived.Test.YtcggmonnajggcaaIntsA
namespace Go.Proofs.Ytcggmonnajggcaa
open Go.RowKit

set_option maxRecDepth 100000 in
set_option maxHeartbeats 1000000 in
theorem sameInts_any (n m : Nat) (a b : Option Addr) (c d : Nat) (za zb : List Int) (w : World) (ha : IntsA n w a za) (hb : IntsA m w b zb) (hla : za.length ≤ 9223372036854775807) (hlb : zb.length ≤ 9223372036854775807) :
    Calls Try.prog 46 #[.slice a za.length c, .slice b zb.length d] w fun e w' => e = .returned (.bool (decide (za = zb))) ∧ ∃ q, w' = w.drewN q := by
  by_cases hl : za.length = zb.length
  · have hne : ((za.length : Int) != (zb.length : Int)) = false := by rw [hl]; simp
    have HL := Lib.hid hl
    have hsz : zb.length ≤ za.length := by omega
    by_cases h0 : za.length = 0
    · have e1 : za = [] := List.eq_nil_of_length_eq_zero h0
      have e2 : zb = [] := List.eq_nil_of_length_eq_zero (by omega)
      subst e1; subst e2
      clear hl hne ha hb
      go_enter Try.func46, Try.ntmps46
      go_wp2
      go_loopw [5] (fun i wr => i = .int .i64 0 ∧ wr = w) (fun _ _ => 0)
      case atStart => exact ⟨rfl, rfl⟩
      case round =>
        obtain ⟨rfl, rfl⟩ := hrel
        go_wp2
        go_ret
        exact ⟨rfl, 0, rfl⟩
    · obtain ⟨b1, o1, rfl, _, hc1⟩ := ha.some_ (by omega)
      obtain ⟨b2, o2, rfl, _, hc2⟩ := hb.some_ (by omega)
      have H1 := Lib.hid hc1
      have H2 := Lib.hid hc2
      clear hl ha hb hc1 hc2 h0
      go_enter Try.func46, Try.ntmps46
      go_wp2
      go_loopw [5] (fun i wr => ∃ k q : Nat, k ≤ za.length ∧ i = .int .i64 k ∧ wr = w.drewN q ∧ Hid (∀ j, j < k → za[j]?.getD 0 = zb[j]?.getD 0)) (fun i _ => za.length - (intOf i).toNat)
      case atStart => exact ⟨0, 0, Nat.zero_le _, rfl, rfl, Lib.hid (by omega)⟩
      case round =>
        obtain ⟨k, q, hk, rfl, rfl, HK⟩ := hrel
        by_cases hlt : k < za.length
        · have hkb : k < zb.length := by have := HL.out; omega
          have x1 : w.cell? ⟨b1, o1 + k, none⟩ = some (.int .i64 (za[k]?.getD 0)) := H1.out k hlt
          have x2 : w.cell? ⟨b2, o2 + k, none⟩ = some (.int .i64 (zb[k]?.getD 0)) := H2.out k hkb
          obtain ⟨x, hx⟩ : ∃ x, za[k]?.getD 0 = x := ⟨_, rfl⟩
          obtain ⟨y, hy⟩ : ∃ y, zb[k]?.getD 0 = y := ⟨_, rfl⟩
          rw [hx] at x1
          rw [hy] at x2
          have hkI : (k : Int) < (za.length : Int) := by omega
          have hkJ : (k : Int) < (zb.length : Int) := by omega
          have hk0 : (0 : Int) ≤ (k : Int) := by omega
          have HX := Lib.hid hx
          have HY := Lib.hid hy
          clear hx hy
          by_cases hxy : x = y
          · have hb' : (x != y) = false := by simp [hxy]
            have HXY := Lib.hid hxy
            clear hxy
            go_wp2
            go_quiet (fail)
            go_wp2
            go_roundw
            case rel =>
              refine ⟨k + 1, _, by omega, by go_num, rfl, Lib.hid ?_⟩
              intro j hj
              by_cases hjk : j = k
              · rw [hjk, HX.out, HY.out]; exact HXY.out
              · exact HK.out j (by omega)
            case measure => simp [intOf]; omega
          · have hb' : (x != y) = true := by simp [hxy]
            have hd : decide (za = zb) = false := by
              rw [decide_eq_false_iff_not]
              rintro rfl
              exact hxy (HX.out.symm.trans HY.out)
            have HDD := Lib.hid hd
            clear hxy hd
            go_wp2
            go_quiet (fail)
            go_wp2
            go_ret
            rw [HDD.out]
            exact ⟨rfl, _, World.drewN_drewN _ _ _⟩
        · have hd : decide (za = zb) = true := by
            rw [decide_eq_true_eq]
            exact list_ext_take za zb HL.out (fun j hj => HK.out j (by omega))
          have HDD := Lib.hid hd
          clear hd
          go_wp2
          go_ret
          rw [HDD.out]
          exact ⟨rfl, _, rfl⟩
  · have hne : ((za.length : Int) != (zb.length : Int)) = true := by rw [bne_iff_ne]; omega
    have hd : decide (za = zb) = false := by
      rw [decide_eq_false_iff_not]
      rintro rfl
      exact hl rfl
    rw [hd]
    clear hl ha hb hd
    go_enter Try.func46, Try.ntmps46
    go_wp2
    go_ret
    exact ⟨rfl, 0, rfl⟩

/-! ### Lists of lists -/

def elL (ll : List (List Int)) (i : Nat) : List Int := ll[i]?.getD []
/-- A slice's address leads to the lists ll, all in blocks below n. -/
def ListsA (n : Nat) (W : World) (ad : Option Addr) (ll : List (List Int)) : Prop :=
  ∀ i, i < ll.length → ∃ b off a c, ad = some ⟨b, off, none⟩ ∧ b < n ∧ W.cell? ⟨b, off + i, none⟩ = some (.slice a (elL ll i).length c) ∧ IntsA n W a (elL ll i) ∧ (elL ll i).length ≤ 9223372036854775807
theorem ListsA.below {n : Nat} {A B : World} (h : Below n A B) {ad : Option Addr} {ll : List (List Int)} (hI : ListsA n A ad ll) : ListsA n B ad ll := fun i hi => by
  obtain ⟨b, off, a, c, e, hb, hc, hA, hl⟩ := hI i hi
  exact ⟨b, off, a, c, e, hb, (h.cell (p := ⟨b, off + i, none⟩) hb).trans hc, hA.below h, hl⟩
theorem ListsA.mono {n m : Nat} {A : World} (hnm : n ≤ m) {ad : Option Addr} {ll : List (List Int)} (hI : ListsA n A ad ll) : ListsA m A ad ll := fun i hi => by
  obtain ⟨b, off, a, c, e, hb, hc, hA, hl⟩ := hI i hi
  exact ⟨b, off, a, c, e, by omega, hc, hA.mono hnm, hl⟩
theorem IntsA.drewN {n q : Nat} {W : World} {ad : Option Addr} {zs : List Int} (h : IntsA n W ad zs) : IntsA n (W.drewN q) ad zs := h
theorem lists_ext (a b : List (List Int)) (h : a.length = b.length) (hh : ∀ j, j < a.length → elL a j = elL b j) : a = b := by
  apply List.ext_getElem h
  intro i h1 h2
  have := hh i h1
  unfold elL at this
  simpa [h1, h2] using this

set_option maxRecDepth 100000 in
set_option maxHeartbeats 2000000 in
theorem sameLists_any (n m : Nat) (a b : Option Addr) (c d : Nat) (la lb : List (List Int)) (w : World) (ha : ListsA n w a la) (hb : ListsA m w b lb) (hla : la.length ≤ 9223372036854775807) (hlb : lb.length ≤ 9223372036854775807) :
    Calls Try.prog 18 #[.slice a la.length c, .slice b lb.length d] w fun e w' => e = .returned (.bool (decide (la = lb))) ∧ ∃ q, w' = w.drewN q := by
  by_cases hl : la.length = lb.length
  · have hne : ((la.length : Int) != (lb.length : Int)) = false := by rw [hl]; simp
    have HL := Lib.hid hl
    have H1 := Lib.hid ha
    have H2 := Lib.hid hb
    clear hl ha hb
    go_enter Try.func18, Try.ntmps18
    go_wp2
    go_loopw [5] (fun i wr => ∃ k q : Nat, k ≤ la.length ∧ i = .int .i64 k ∧ wr = w.drewN q ∧ Hid (∀ j, j < k → elL la j = elL lb j)) (fun i _ => la.length - (intOf i).toNat)
    case atStart => exact ⟨0, 0, Nat.zero_le _, rfl, rfl, Lib.hid (by omega)⟩
    case round =>
      obtain ⟨k, q, hk, rfl, rfl, HK⟩ := hrel
      by_cases hlt : k < la.length
      · have hkb : k < lb.length := by have := HL.out; omega
        obtain ⟨b1, o1, a1, c1, rfl, _, x1, i1, l1⟩ := H1.out k hlt
        obtain ⟨b2, o2, a2, c2, rfl, _, x2, i2, l2⟩ := H2.out k hkb
        obtain ⟨x, hx⟩ : ∃ x, elL la k = x := ⟨_, rfl⟩
        obtain ⟨y, hy⟩ : ∃ y, elL lb k = y := ⟨_, rfl⟩
        rw [hx] at x1 i1 l1
        rw [hy] at x2 i2 l2
        obtain ⟨wq, hwq⟩ : ∃ wq, w.drewN q = wq := ⟨_, rfl⟩
        have y1 : wq.cell? ⟨b1, o1 + k, none⟩ = some (.slice a1 x.length c1) := by rw [← hwq]; exact x1
        have y2 : wq.cell? ⟨b2, o2 + k, none⟩ = some (.slice a2 y.length c2) := by rw [← hwq]; exact x2
        have j1 : IntsA n wq a1 x := by rw [← hwq]; exact i1
        have j2 : IntsA m wq a2 y := by rw [← hwq]; exact i2
        rw [hwq]
        have HW := Lib.hid hwq
        clear x1 x2 i1 i2 hwq
        have hkI : (k : Int) < (la.length : Int) := by omega
        have hkJ : (k : Int) < (lb.length : Int) := by omega
        have hk0 : (0 : Int) ≤ (k : Int) := by omega
        have HX := Lib.hid hx
        have HY := Lib.hid hy
        by_cases hxy : x = y
        · have hd : decide (x = y) = true := by simp [hxy]
          have HC : Hid (∀ q', Calls Try.prog 46 #[.slice a1 x.length c1, .slice a2 y.length c2] (wq.drewN q') fun e w' => e = .returned (.bool true) ∧ ∃ r, w' = (wq.drewN q').drewN r) := Lib.hid (fun q' => by
            have := sameInts_any n m a1 a2 c1 c2 x y (wq.drewN q') j1.drewN j2.drewN l1 l2
            rwa [hd] at this)
          have HXY := Lib.hid hxy
          clear hx hy hxy hd j1 j2
          go_wp2_with fail
          go_quiet ((go_at_call 46; exact Calls.quiet_of (HC.out _)))
          go_wp2
          go_roundw
          case rel =>
            refine ⟨k + 1, q + nq, by omega, by go_num, by rw [← HW.out, World.drewN_drewN], Lib.hid ?_⟩
            intro j hj
            by_cases hjk : j = k
            · rw [hjk, HX.out, HY.out]; exact HXY.out
            · exact HK.out j (by omega)
          case measure => simp [intOf]; omega
        · have hd : decide (x = y) = false := by simp [hxy]
          have HC : Hid (∀ q', Calls Try.prog 46 #[.slice a1 x.length c1, .slice a2 y.length c2] (wq.drewN q') fun e w' => e = .returned (.bool false) ∧ ∃ r, w' = (wq.drewN q').drewN r) := Lib.hid (fun q' => by
            have := sameInts_any n m a1 a2 c1 c2 x y (wq.drewN q') j1.drewN j2.drewN l1 l2
            rwa [hd] at this)
          have HDD : Hid (decide (la = lb) = false) := Lib.hid (by
            rw [decide_eq_false_iff_not]
            rintro rfl
            exact hxy (hx.symm.trans hy))
          clear hx hy hxy hd j1 j2
          go_wp2_with fail
          go_quiet ((go_at_call 46; exact Calls.quiet_of (HC.out _)))
          go_wp2
          go_ret
          rw [HDD.out]
          exact ⟨rfl, q + nq, by rw [← HW.out, World.drewN_drewN]⟩
      · have HDD : Hid (decide (la = lb) = true) := Lib.hid (by
          rw [decide_eq_true_eq]
          exact lists_ext la lb HL.out (fun j hj => HK.out j (by omega)))
        go_wp2
        go_ret
        rw [HDD.out]
        exact ⟨rfl, _, rfl⟩
  · have hne : ((la.length : Int) != (lb.length : Int)) = true := by rw [bne_iff_ne]; omega
    have HDD : Hid (decide (la = lb) = false) := Lib.hid (by
      rw [decide_eq_false_iff_not]
      rintro rfl
      exact hl rfl)
    clear hl ha hb
    go_enter Try.func18, Try.ntmps18
    go_wp2
    go_ret
    rw [HDD.out]
    exact ⟨rfl, 0, rfl⟩

end Go.Proofs.Ytcggmonnajggcaa
