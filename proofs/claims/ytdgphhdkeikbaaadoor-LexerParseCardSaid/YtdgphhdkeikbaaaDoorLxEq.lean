/-
  The library's Equal over tokens.
-/
import Derived.Test.YtdgphhdkeikbaaaDoorLxParse2
namespace Go.Proofs.YtdgphhdkeikbaaaDoor
set_option linter.unusedSimpArgs false
set_option linter.unusedVariables false
open Go.RowKit

theorem tks_ext {a b : List Tk} (hl : a.length = b.length) (h : ∀ j, j < a.length → gk a j = gk b j) : a = b := by
  refine List.ext_getElem hl fun j h1 h2 => ?_
  have := h j h1
  unfold gk at this
  rw [List.getElem?_eq_getElem h1, List.getElem?_eq_getElem h2] at this
  exact this
theorem run_neK (a : Int) (b : ByteArray) (c : Int) (d : Nat) (x0 : Int) (x1 : ByteArray) (x2 : Int) (x3 : Nat) (w : World) : (binOp .neq TTk (.agg #[.int .i64 a, .string b, .int .i64 c, .int .i64 (d : Int)]) (.agg #[.int .i64 x0, .string x1, .int .i64 x2, .int .i64 (x3 : Int)])).run Tryd.prog w = .ok (.bool (!decide ((⟨a, b, c, d⟩ : Tk) = ⟨x0, x1, x2, x3⟩))) w := by
  have h := run_sameK ⟨a, b, c, d⟩ ⟨x0, x1, x2, x3⟩ w
  simp only [encK, sameK_eq] at h
  rw [run_neq_struct, h]
  rfl
set_option maxRecDepth 100000 in
set_option maxHeartbeats 2000000 in
theorem eqK_any (φ ψ : Nat → Prop) (a b : Option Addr) (c d : Nat) (za zb : List Tk) (w : World) (ha : TkA φ w a za ∧ TkO φ w a za) (hb : TkA ψ w b zb ∧ TkO ψ w b zb) (hla : za.length ≤ 9223372036854775807) (_hlb : zb.length ≤ 9223372036854775807) :
    Calls Tryd.prog 32 #[.slice a za.length c, .slice b zb.length d] w fun e w' => e = .returned (.bool (decide (za = zb))) ∧ ∃ q, w' = w.drewN q := by
  by_cases hl : za.length = zb.length
  · have hne : ((za.length : Int) != (zb.length : Int)) = false := by rw [hl]; simp
    have HA := Lib.hid ha
    have HB := Lib.hid hb
    have HL := Lib.hid hl
    have HE : Hid ((∀ j, j < za.length → gk za j = gk zb j) → decide (za = zb) = true) := Lib.hid (fun h => decide_eq_true (tks_ext hl h))
    have HF : Hid (∀ k, gk za k ≠ gk zb k → decide (za = zb) = false) := Lib.hid (fun k h => decide_eq_false (fun e => h (by rw [e])))
    clear ha hb hl
    go_enter Tryd.func32, Tryd.ntmps32
    go_wp2
    go_loopw [13] (fun i wr => ∃ k q : Nat, k ≤ za.length ∧ i = .int .i64 k ∧ wr = w.drewN q ∧ Hid (∀ j, j < k → gk za j = gk zb j)) (fun i _ => za.length - (intOf i).toNat)
    case atStart => exact ⟨0, 0, Nat.zero_le _, rfl, rfl, Lib.hid (fun j hj => by omega)⟩
    case round =>
      obtain ⟨k, q, hk, rfl, rfl, HK⟩ := hrel
      by_cases hlt : k < za.length
      · have k1 : (k : Int) < (za.length : Int) := by omega
        have k2 : (k : Int) < (zb.length : Int) := by have := HL.out; omega
        have k3 : (0 : Int) ≤ (k : Int) := by omega
        obtain ⟨b1, o1, rfl, _, _, p0, p1, p2, _⟩ := HA.out.1.at_ hlt
        have p3 := HA.out.2.at_ hlt
        obtain ⟨b2, o2, rfl, _, _, q0, q1, q2, _⟩ := HB.out.1.at_ (show k < zb.length by have := HL.out; omega)
        have q3 := HB.out.2.at_ (show k < zb.length by have := HL.out; omega)
        have HNO := Lib.hid (HF.out k)
        have HYES : Hid (gk za k = gk zb k → ∀ j, j < k + 1 → gk za j = gk zb j) := Lib.hid (fun h1 j hj => by
          by_cases e : j = k
          · rw [e]; exact h1
          · exact HK.out j (by omega))
        obtain ⟨⟨x0, x1, x2, x3⟩, hx⟩ : ∃ x, gk za k = x := ⟨_, rfl⟩
        obtain ⟨⟨y0, y1, y2, y3⟩, hy⟩ : ∃ y, gk zb k = y := ⟨_, rfl⟩
        rw [hx] at p0 p1 p2 p3 HNO HYES
        rw [hy] at q0 q1 q2 q3 HNO HYES
        simp only [] at p0 p1 p2 p3 q0 q1 q2 q3
        have hneq := run_neK x0 x1 x2 x3 y0 y1 y2 y3
        clear hx hy
        by_cases hxy : (⟨x0, x1, x2, x3⟩ : Tk) = ⟨y0, y1, y2, y3⟩
        · have hb' : (!decide ((⟨x0, x1, x2, x3⟩ : Tk) = ⟨y0, y1, y2, y3⟩)) = false := by simp [hxy]
          rw [hb'] at hneq
          have HK' := Lib.hid (HYES.out hxy)
          clear hxy hb'
          go_wp2
          go_quiet (fail)
          go_wp2
          go_roundw
          case rel => exact ⟨k + 1, _, by omega, by go_num, rfl, HK'⟩
          case measure => simp [intOf]; omega
        · have hb' : (!decide ((⟨x0, x1, x2, x3⟩ : Tk) = ⟨y0, y1, y2, y3⟩)) = true := by simp [hxy]
          rw [hb'] at hneq
          have HR := Lib.hid (HNO.out hxy)
          clear hxy hb'
          go_wp2
          go_quiet (fail)
          go_wp2
          go_ret
          exact ⟨by rw [HR.out]; rfl, _, World.drewN_drewN _ _ _⟩
      · obtain rfl : k = za.length := by omega
        have HR := Lib.hid (HE.out HK.out)
        go_wp2
        go_ret
        exact ⟨by rw [HR.out]; rfl, _, rfl⟩
  · have hne : ((za.length : Int) != (zb.length : Int)) = true := by rw [bne_iff_ne]; omega
    have hd : decide (za = zb) = false := decide_eq_false (fun e => hl (by rw [e]))
    rw [hd]
    clear hl ha hb hd
    go_enter Tryd.func32, Tryd.ntmps32
    go_wp2
    go_ret
    exact ⟨rfl, 0, rfl⟩
/-- Equal, of values. -/
theorem eqK_at (φ ψ : Nat → Prop) (u v : Value) (x y : List Tk) (w : World) (hu : LkC φ w u x) (hv : LkC ψ w v y) : Calls Tryd.prog 32 #[u, v] w fun e w' => e = .returned (.bool (decide (x = y))) ∧ Below w.heap.size w w' := by
  obtain ⟨a, c, rfl, h1, h2, h3⟩ := hu
  obtain ⟨b, d, rfl, k1, k2, k3⟩ := hv
  refine (eqK_any _ _ a b c d x y w h3 k3 (by omega) (by omega)).mono ?_
  rintro e w' ⟨rfl, q, rfl⟩
  exact ⟨rfl, rfl, rfl, rfl, Nat.le_refl _, fun _ _ => rfl⟩

end Go.Proofs.YtdgphhdkeikbaaaDoor
