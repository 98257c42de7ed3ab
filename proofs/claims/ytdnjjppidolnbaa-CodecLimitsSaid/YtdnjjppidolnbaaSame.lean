/-
  What the reference's Same and Compare, and the law's great, return.
-/
import Derived.Test.YtdnjjppidolnbaaEncList
import Derived.Deep.QuietTactic
import Derived.BigQuiet
namespace Go.Proofs.Ytdnjjppidolnbaa
open Go.RowKit

/-- A slice's address leads to the ints zs, in a block below n₀. -/
def IntsA (n₀ : Nat) (W : World) (ad : Option Addr) (zs : List Int) : Prop :=
  ∀ j, j < zs.length → ∃ b off, ad = some ⟨b, off, none⟩ ∧ b < n₀ ∧ W.cell? ⟨b, off + j, none⟩ = some (.int .i64 (zs[j]?.getD 0))
theorem IntsA.below {n₀ : Nat} {A B : World} (h : Below n₀ A B) {ad : Option Addr} {zs : List Int} (hI : IntsA n₀ A ad zs) : IntsA n₀ B ad zs := fun j hj => by
  obtain ⟨b, off, e, hb, hc⟩ := hI j hj
  exact ⟨b, off, e, hb, (h.cell (p := ⟨b, off + j, none⟩) hb).trans hc⟩
theorem IntsA.mono {n m : Nat} {A : World} (hnm : n ≤ m) {ad : Option Addr} {zs : List Int} (hI : IntsA n A ad zs) : IntsA m A ad zs := fun j hj => by
  obtain ⟨b, off, e, hb, hc⟩ := hI j hj
  exact ⟨b, off, e, by omega, hc⟩
theorem IntsA.some_ {n : Nat} {A : World} {ad : Option Addr} {zs : List Int} (hI : IntsA n A ad zs) (h : 0 < zs.length) : ∃ b off, ad = some ⟨b, off, none⟩ ∧ b < n ∧ ∀ j, j < zs.length → A.cell? ⟨b, off + j, none⟩ = some (.int .i64 (zs[j]?.getD 0)) := by
  obtain ⟨b, off, e, hb, _⟩ := hI 0 h
  refine ⟨b, off, e, hb, fun j hj => ?_⟩
  obtain ⟨b', off', e', _, hc⟩ := hI j hj
  rw [e] at e'
  cases e'
  exact hc
theorem IntsA.ints {n : Nat} {A : World} {ad : Option Addr} {zs : List Int} {cap : Nat} (hI : IntsA n A ad zs) (h : ad = none → zs.length = 0 ∧ cap = 0) (hb : ∀ b off, ad = some ⟨b, off, none⟩ → b < n) (hw : ∀ x : Addr, ad = some x → ∃ b off, x = ⟨b, off, none⟩) : Ints n A (.slice ad zs.length cap) zs := by
  cases ad with
  | none =>
    obtain ⟨h1, h2⟩ := h rfl
    rw [h1, h2]
    exact .inl ⟨rfl, List.eq_nil_of_length_eq_zero h1⟩
  | some x =>
    obtain ⟨b, off, rfl⟩ := hw x rfl
    refine .inr ⟨b, off, cap, rfl, hb b off rfl, fun j hj => ?_⟩
    obtain ⟨b', off', e', _, hc⟩ := hI j hj
    cases e'
    exact hc

theorem list_ext_take (a b : List Int) (h : a.length = b.length) : (∀ j, j < a.length → a[j]?.getD 0 = b[j]?.getD 0) → a = b := fun hh => by
  apply List.ext_getElem h
  intro i h1 h2
  have := hh i h1
  simpa [h1, h2] using this

set_option maxRecDepth 100000 in
set_option maxHeartbeats 1000000 in
theorem same_any (n m : Nat) (a b : Option Addr) (c d : Nat) (za zb : List Int) (w : World) (ha : IntsA n w a za) (hb : IntsA m w b zb) (hla : za.length ≤ 9223372036854775807) (hlb : zb.length ≤ 9223372036854775807) :
    Calls Try.prog 27 #[.slice a za.length c, .slice b zb.length d] w fun e w' => e = .returned (.bool (decide (za = zb))) ∧ Below w.heap.size w w' := by
  by_cases hl : za.length = zb.length
  · have hne : ((za.length : Int) != (zb.length : Int)) = false := by rw [hl]; simp
    have HL := Lib.hid hl
    have hsz : zb.length ≤ za.length := by omega
    by_cases h0 : za.length = 0
    · have e1 : za = [] := List.eq_nil_of_length_eq_zero h0
      have e2 : zb = [] := List.eq_nil_of_length_eq_zero (by omega)
      subst e1; subst e2
      clear hl hne ha hb
      go_enter Try.func27, Try.ntmps27
      go_wp2
      go_loopw [5] (fun i wr => i = .int .i64 0 ∧ wr = w) (fun _ _ => 0)
      case atStart => exact ⟨rfl, rfl⟩
      case round =>
        obtain ⟨rfl, rfl⟩ := hrel
        go_wp2
        go_ret
        exact ⟨rfl, Below.refl _ _⟩
    · obtain ⟨b1, o1, rfl, _, hc1⟩ := ha.some_ (by omega)
      obtain ⟨b2, o2, rfl, _, hc2⟩ := hb.some_ (by omega)
      have H1 := Lib.hid hc1
      have H2 := Lib.hid hc2
      clear hl ha hb hc1 hc2 h0
      go_enter Try.func27, Try.ntmps27
      go_wp2
      go_loopw [5] (fun i wr => ∃ k q : Nat, k ≤ za.length ∧ i = .int .i64 k ∧ wr = w.drewN q ∧ Hid (∀ j, j < k → za[j]?.getD 0 = zb[j]?.getD 0)) (fun i _ => za.length - (intOf i).toNat)
      case atStart => exact ⟨0, 0, Nat.zero_le _, rfl, rfl, Lib.hid (by omega)⟩
      case round =>
        obtain ⟨k, q, hk, rfl, rfl, HK⟩ := hrel
        by_cases hlt : k < za.length
        · have hkb : k < zb.length := by have := HL.out; omega
          have x1 : w.cell? ⟨b1, o1 + k, none⟩ = some (.int .i64 (za[k]?.getD 0)) := H1.out k hlt
          have x2 : w.cell? ⟨b2, o2 + k, none⟩ = some (.int .i64 (zb[k]?.getD 0)) := H2.out k hkb
          obtain ⟨x, hx⟩ : ∃ x, za[k]?.getD 0 = x := ⟨_, rfl⟩
          obtain ⟨y, hy⟩ : ∃ y, zb[k]?.getD 0 = y := ⟨_, rfl⟩
          rw [hx] at x1
          rw [hy] at x2
          have hkI : (k : Int) < (za.length : Int) := by omega
          have hkJ : (k : Int) < (zb.length : Int) := by omega
          have hk0 : (0 : Int) ≤ (k : Int) := by omega
          have HX := Lib.hid hx
          have HY := Lib.hid hy
          clear hx hy
          by_cases hxy : x = y
          · have hb' : (x != y) = false := by simp [hxy]
            have HXY := Lib.hid hxy
            clear hxy
            go_wp2
            go_quiet (fail)
            go_wp2
            go_roundw
            case rel =>
              refine ⟨k + 1, _, by omega, by go_num, rfl, Lib.hid ?_⟩
              intro j hj
              by_cases hjk : j = k
              · rw [hjk, HX.out, HY.out]; exact HXY.out
              · exact HK.out j (by omega)
            case measure => simp [intOf]; omega
          · have hb' : (x != y) = true := by simp [hxy]
            have hd : decide (za = zb) = false := by
              rw [decide_eq_false_iff_not]
              rintro rfl
              exact hxy (HX.out.symm.trans HY.out)
            have HDD := Lib.hid hd
            clear hxy hd
            go_wp2
            go_quiet (fail)
            go_wp2
            go_ret
            rw [HDD.out]
            exact ⟨rfl, below_drewN (below_drewN (Below.refl _ w) _) _⟩
        · have hd : decide (za = zb) = true := by
            rw [decide_eq_true_eq]
            exact list_ext_take za zb HL.out (fun j hj => HK.out j (by omega))
          have HDD := Lib.hid hd
          clear hd
          go_wp2
          go_ret
          rw [HDD.out]
          exact ⟨rfl, below_drewN (Below.refl _ w) _⟩
  · have hne : ((za.length : Int) != (zb.length : Int)) = true := by rw [bne_iff_ne]; omega
    have hd : decide (za = zb) = false := by
      rw [decide_eq_false_iff_not]
      rintro rfl
      exact hl rfl
    rw [hd]
    clear hl ha hb hd
    go_enter Try.func27, Try.ntmps27
    go_wp2
    go_ret
    exact ⟨rfl, Below.refl _ _⟩

/-- One list of at most 40 elements, or a longer one. -/
theorem great1_no (g n cap : Nat) (ad : Option Addr) (w : World) (hc : w.cell? ⟨g, 0, none⟩ = some (.slice ad n cap)) (hn : n ≤ 40) :
    Calls Try.prog 22 #[.slice (some ⟨g, 0, none⟩) 1 1] w fun e w' => e = .returned (.bool false) ∧ w = w' := by
  have hn' : (n : Int) ≤ 40 := by omega
  go_enter Try.func22, Try.ntmps22
  go_wp2
  go_loop [7] (fun i => ∃ k : Nat, k ≤ 1 ∧ i = .int .i64 k) (fun i => 1 - (intOf i).toNat)
  case atStart => exact ⟨0, by omega, rfl⟩
  case round =>
    obtain ⟨k, hk, rfl⟩ := hrel
    rcases (by omega : k = 0 ∨ k = 1) with rfl | rfl
    · go_wp2
      go_round
      case rel => exact ⟨1, by omega, rfl⟩
      case measure => simp [intOf]
    · go_wp2
      go_ret
      exact ⟨rfl, rfl⟩
theorem great1_yes (g n cap : Nat) (ad : Option Addr) (w : World) (hc : w.cell? ⟨g, 0, none⟩ = some (.slice ad n cap)) (hn : 40 < n) :
    Calls Try.prog 22 #[.slice (some ⟨g, 0, none⟩) 1 1] w fun e w' => e = .returned (.bool true) ∧ w = w' := by
  have hn' : 40 < (n : Int) := by omega
  go_enter Try.func22, Try.ntmps22
  go_wp2
  go_loop [7] (fun i => i = .int .i64 0) (fun _ => 0)
  case atStart => rfl
  case round =>
    subst hrel
    go_wp2
    go_ret
    exact ⟨rfl, rfl⟩
theorem great2_no (g n cap m dap : Nat) (ad bd : Option Addr) (w : World) (hc : w.cell? ⟨g, 0, none⟩ = some (.slice ad n cap)) (hd : w.cell? ⟨g, 1, none⟩ = some (.slice bd m dap)) (hn : n ≤ 40) (hm : m ≤ 40) :
    Calls Try.prog 22 #[.slice (some ⟨g, 0, none⟩) 2 2] w fun e w' => e = .returned (.bool false) ∧ w = w' := by
  have hn' : (n : Int) ≤ 40 := by omega
  have hm' : (m : Int) ≤ 40 := by omega
  go_enter Try.func22, Try.ntmps22
  go_wp2
  go_loop [7] (fun i => ∃ k : Nat, k ≤ 2 ∧ i = .int .i64 k) (fun i => 2 - (intOf i).toNat)
  case atStart => exact ⟨0, by omega, rfl⟩
  case round =>
    obtain ⟨k, hk, rfl⟩ := hrel
    rcases (by omega : k = 0 ∨ k = 1 ∨ k = 2) with rfl | rfl | rfl
    · go_wp2
      go_round
      case rel => exact ⟨1, by omega, rfl⟩
      case measure => simp [intOf]
    · go_wp2
      go_round
      case rel => exact ⟨2, by omega, rfl⟩
      case measure => simp [intOf]
    · go_wp2
      go_ret
      exact ⟨rfl, rfl⟩
theorem great2_yes1 (g n cap m dap : Nat) (ad bd : Option Addr) (w : World) (hc : w.cell? ⟨g, 0, none⟩ = some (.slice ad n cap)) (_hd : w.cell? ⟨g, 1, none⟩ = some (.slice bd m dap)) (hn : 40 < n) :
    Calls Try.prog 22 #[.slice (some ⟨g, 0, none⟩) 2 2] w fun e w' => e = .returned (.bool true) ∧ w = w' := by
  have hn' : 40 < (n : Int) := by omega
  go_enter Try.func22, Try.ntmps22
  go_wp2
  go_loop [7] (fun i => i = .int .i64 0) (fun _ => 0)
  case atStart => rfl
  case round =>
    subst hrel
    go_wp2
    go_ret
    exact ⟨rfl, rfl⟩
theorem great2_yes2 (g n cap m dap : Nat) (ad bd : Option Addr) (w : World) (hc : w.cell? ⟨g, 0, none⟩ = some (.slice ad n cap)) (hd : w.cell? ⟨g, 1, none⟩ = some (.slice bd m dap)) (hn : n ≤ 40) (hm : 40 < m) :
    Calls Try.prog 22 #[.slice (some ⟨g, 0, none⟩) 2 2] w fun e w' => e = .returned (.bool true) ∧ w = w' := by
  have hn' : (n : Int) ≤ 40 := by omega
  have hm' : 40 < (m : Int) := by omega
  go_enter Try.func22, Try.ntmps22
  go_wp2
  go_loop [7] (fun i => ∃ k : Nat, k ≤ 1 ∧ i = .int .i64 k) (fun i => 1 - (intOf i).toNat)
  case atStart => exact ⟨0, by omega, rfl⟩
  case round =>
    obtain ⟨k, hk, rfl⟩ := hrel
    rcases (by omega : k = 0 ∨ k = 1) with rfl | rfl
    · go_wp2
      go_round
      case rel => exact ⟨1, by omega, rfl⟩
      case measure => simp [intOf]
    · go_wp2
      go_ret
      exact ⟨rfl, rfl⟩

end Go.Proofs.Ytdnjjppidolnbaa
