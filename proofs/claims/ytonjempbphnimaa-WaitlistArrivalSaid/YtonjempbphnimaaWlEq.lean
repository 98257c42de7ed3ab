/-
  The library's Equal over waiters and over ints, and Contains over ints.
-/
import Derived.Test.YtonjempbphnimaaWlMem
namespace Go.Proofs.Ytonjempbphnimaa
open Go.RowKit

set_option maxRecDepth 100000 in
set_option maxHeartbeats 2000000 in
theorem eqW_any (φ ψ : Nat → Prop) (a b : Option Addr) (c d : Nat) (za zb : List Wl) (w : World) (ha : WlA φ w a za) (hb : WlA ψ w b zb) (hla : za.length ≤ 9223372036854775807) (_hlb : zb.length ≤ 9223372036854775807) :
    Calls Try.prog 17 #[.slice a za.length c, .slice b zb.length d] w fun e w' => e = .returned (.bool (decide (za = zb))) ∧ ∃ q, w' = w.drewN q := by
  by_cases hl : za.length = zb.length
  · have hne : ((za.length : Int) != (zb.length : Int)) = false := by rw [hl]; simp
    have HA := Lib.hid ha
    have HB := Lib.hid hb
    have HL := Lib.hid hl
    have HE : Hid ((∀ j, j < za.length → gw za j = gw zb j) → decide (za = zb) = true) := Lib.hid (fun h => decide_eq_true (wls_ext hl h))
    have HF : Hid (∀ k, gw za k ≠ gw zb k → decide (za = zb) = false) := Lib.hid (fun k h => decide_eq_false (fun e => h (by rw [e])))
    clear ha hb hl
    go_enter Try.func17, Try.ntmps17
    go_wp2
    go_loopw [13] (fun i wr => ∃ k q : Nat, k ≤ za.length ∧ i = .int .i64 k ∧ wr = w.drewN q ∧ Hid (∀ j, j < k → gw za j = gw zb j)) (fun i _ => za.length - (intOf i).toNat)
    case atStart => exact ⟨0, 0, Nat.zero_le _, rfl, rfl, Lib.hid (fun j hj => by omega)⟩
    case round =>
      obtain ⟨k, q, hk, rfl, rfl, HK⟩ := hrel
      by_cases hlt : k < za.length
      · have k1 : (k : Int) < (za.length : Int) := by omega
        have k2 : (k : Int) < (zb.length : Int) := by have := HL.out; omega
        have k3 : (0 : Int) ≤ (k : Int) := by omega
        obtain ⟨b1, o1, rfl, _, _, p0, p1, p2, p3, p4⟩ := HA.out k hlt
        obtain ⟨b2, o2, rfl, _, _, q0, q1, q2, q3, q4⟩ := HB.out k (by have := HL.out; omega)
        have HNO := Lib.hid (HF.out k)
        have HYES : Hid (gw za k = gw zb k → ∀ j, j < k + 1 → gw za j = gw zb j) := Lib.hid (fun h1 j hj => by
          by_cases e : j = k
          · rw [e]; exact h1
          · exact HK.out j (by omega))
        obtain ⟨⟨x0, x1, x2, x3, x4⟩, hx⟩ : ∃ x, gw za k = x := ⟨_, rfl⟩
        obtain ⟨⟨y0, y1, y2, y3, y4⟩, hy⟩ : ∃ y, gw zb k = y := ⟨_, rfl⟩
        rw [hx] at p0 p1 p2 p3 p4 HNO HYES
        rw [hy] at q0 q1 q2 q3 q4 HNO HYES
        simp only [] at p0 p1 p2 p3 p4 q0 q1 q2 q3 q4
        have hneq := run_neW x0 x1 x2 x3 x4 y0 y1 y2 y3 y4
        clear hx hy
        by_cases hxy : (x0, x1, x2, x3, x4) = (y0, y1, y2, y3, y4)
        · have hb' : (!decide ((x0, x1, x2, x3, x4) = (y0, y1, y2, y3, y4))) = false := by simp [hxy]
          rw [hb'] at hneq
          have HK' := Lib.hid (HYES.out hxy)
          clear hxy hb'
          go_wp2
          go_quiet (fail)
          go_wp2
          go_roundw
          case rel => exact ⟨k + 1, _, by omega, by go_num, rfl, HK'⟩
          case measure => simp [intOf]; omega
        · have hb' : (!decide ((x0, x1, x2, x3, x4) = (y0, y1, y2, y3, y4))) = true := by simp [hxy]
          rw [hb'] at hneq
          have HR := Lib.hid (HNO.out hxy)
          clear hxy hb'
          go_wp2
          go_quiet (fail)
          go_wp2
          go_ret
          exact ⟨by rw [HR.out]; rfl, _, World.drewN_drewN _ _ _⟩
      · obtain rfl : k = za.length := by omega
        have HR := Lib.hid (HE.out HK.out)
        go_wp2
        go_ret
        exact ⟨by rw [HR.out]; rfl, _, rfl⟩
  · have hne : ((za.length : Int) != (zb.length : Int)) = true := by rw [bne_iff_ne]; omega
    have hd : decide (za = zb) = false := decide_eq_false (fun e => hl (by rw [e]))
    rw [hd]
    clear hl ha hb hd
    go_enter Try.func17, Try.ntmps17
    go_wp2
    go_ret
    exact ⟨rfl, 0, rfl⟩
/-- Equal, of values. -/
theorem eqW_at (u v : Value) (x y : List Wl) (w : World) (hu : KwC w u x) (hv : KwC w v y) : Calls Try.prog 17 #[u, v] w fun e w' => e = .returned (.bool (decide (x = y))) ∧ Below w.heap.size w w' := by
  obtain ⟨a, c, rfl, h1, h2, h3⟩ := hu
  obtain ⟨b, d, rfl, k1, k2, k3⟩ := hv
  refine (eqW_any _ _ a b c d x y w h3 k3 (by omega) (by omega)).mono ?_
  rintro e w' ⟨rfl, q, rfl⟩
  exact ⟨rfl, rfl, rfl, rfl, Nat.le_refl _, fun _ _ => rfl⟩

end Go.Proofs.Ytonjempbphnimaa
