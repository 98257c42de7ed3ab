/-
  The reference's Position and Same.
-/
import Derived.Test.YtdgphhdkeikbaaaGreatDoorLxRef4
import Derived.Test.YtdgphhdkeikbaaaGreatDoorLxEq
import Derived.Test.YtdgphhdkeikbaaaGreatDoorLxPos
namespace Go.Proofs.YtdgphhdkeikbaaaGreatDoor
set_option linter.unusedSimpArgs false
set_option linter.unusedVariables false
open Go.RowKit

/-- Bounds of lines and columns. -/
theorem pos_bnd (s : ByteArray) (k : Nat) (hk : k ≤ s.size) : 0 ≤ (posL (s.data.toList.take k)).1 ∧ (posL (s.data.toList.take k)).1 ≤ k + 1 ∧ 0 ≤ (posL (s.data.toList.take k)).2 ∧ (posL (s.data.toList.take k)).2 ≤ k + 1 := by
  rw [pos_take s k hk]
  have := lastIdx_ge s 10 k
  have h2 := List.count_le_length (a := (10 : UInt8)) (l := s.data.toList.take k)
  rw [List.length_take] at h2
  simp only
  omega
set_option maxRecDepth 100000 in
set_option maxHeartbeats 4000000 in
theorem rPosition_any (s : ByteArray) (at_ : Int) (w : World) (hs : s.size ≤ 4611686018427387903) :
    Calls Tryz.prog 10 #[.string s, .int .i64 at_] w fun x w' => x = .returned (.tuple #[.int .i64 (posF s at_).1, .int .i64 (posF s at_).2]) ∧ w' = w := by
  by_cases h : 0 ≤ at_ ∧ at_ ≤ s.size
  · obtain ⟨h0, h1⟩ := h
    obtain ⟨n, rfl⟩ := Int.eq_ofNat_of_zero_le h0
    have hP : posF s (n : Int) = posL (s.data.toList.take n) := by unfold posF; rw [if_pos ⟨h0, h1⟩]; rfl
    have hn : n ≤ s.size := by omega
    have a0 : ¬ (n : Int) < 0 := by omega
    have a1 : ¬ (s.size : Int) < (n : Int) := by omega
    rw [hP]
    clear h0 h1 hP
    go_enter Tryz.func10, Tryz.ntmps10
    go_wp2
    go_loopw [6, 7, 8] (fun s6 s7 s8 wr => ∃ k : Nat, s6 = .int .i64 (posL (s.data.toList.take k)).1 ∧ s7 = .int .i64 (posL (s.data.toList.take k)).2 ∧ s8 = .int .i64 k ∧ k ≤ n ∧ wr = w) (fun _ _ s8 _ => n - (intOf s8).toNat)
    case atStart => exact ⟨0, rfl, rfl, rfl, Nat.zero_le _, rfl⟩
    case round =>
      obtain ⟨k, rfl, rfl, rfl, hk, rfl⟩ := hrel
      obtain ⟨b1, b2, b3, b4⟩ := pos_bnd s k (by omega)
      by_cases hlt : k < n
      · have k1 : (k : Int) < (n : Int) := by omega
        have hks : k < s.size := by omega
        have k2 : (k : Int) < (s.size : Int) := by omega
        have j10 := chr_is3 (s[k]'hks) 10
        change ((s[k]'hks).toNat == (10 : Int)) = _ at j10
        have hst : posL (s.data.toList.take (k + 1)) = if s[k]'hks = 10 then ((posL (s.data.toList.take k)).1 + 1, 1) else ((posL (s.data.toList.take k)).1, (posL (s.data.toList.take k)).2 + 1) := by rw [take_next s k hks, posL_snoc]
        obtain ⟨b5, hb5⟩ : ∃ b, (s[k]'hks == 10) = b := ⟨_, rfl⟩
        rw [hb5] at j10
        obtain ⟨l, hl⟩ : ∃ l, (posL (s.data.toList.take k)).1 = l := ⟨_, rfl⟩
        obtain ⟨m, hm⟩ : ∃ l, (posL (s.data.toList.take k)).2 = l := ⟨_, rfl⟩
        rw [hl, hm] at hst
        rw [hl] at b1 b2
        rw [hm] at b3 b4
        simp only [hl, hm]
        clear hl hm
        cases b5 with
        | true =>
          rw [if_pos (by simpa using hb5)] at hst
          have HS := Lib.hid hst
          clear hst hb5
          go_wp2
          go_roundw
          case rel => exact ⟨k + 1, by rw [HS.out], by rw [HS.out], by go_num, by omega, by first | rfl | trivial⟩
          case measure => simp [intOf]; omega
        | false =>
          rw [if_neg (by simpa using hb5)] at hst
          have HS := Lib.hid hst
          clear hst hb5
          go_wp2
          go_roundw
          case rel => exact ⟨k + 1, by rw [HS.out], by rw [HS.out], by go_num, by omega, by first | rfl | trivial⟩
          case measure => simp [intOf]; omega
      · obtain rfl : k = n := by omega
        go_wp2
        go_ret2
        exact ⟨rfl, rfl⟩
  · have hP : posF s at_ = (0, 0) := by unfold posF; rw [if_neg h]
    rw [hP]
    go_enter Tryz.func10, Tryz.ntmps10
    by_cases h0 : at_ < 0
    · go_wp2
      go_ret2
      exact ⟨rfl, rfl⟩
    · have h1 : (s.size : Int) < at_ := by omega
      go_wp2
      go_ret2
      exact ⟨rfl, rfl⟩
set_option maxRecDepth 100000 in
set_option maxHeartbeats 2000000 in
theorem rSameK_any (φ ψ : Nat → Prop) (a b : Option Addr) (c d : Nat) (za zb : List Tk) (w : World) (ha : TkA φ w a za ∧ TkO φ w a za) (hb : TkA ψ w b zb ∧ TkO ψ w b zb) (hla : za.length ≤ 9223372036854775807) (_hlb : zb.length ≤ 9223372036854775807) :
    Calls Tryz.prog 11 #[.slice a za.length c, .slice b zb.length d] w fun e w' => e = .returned (.bool (decide (za = zb))) ∧ ∃ q, w' = w.drewN q := by
  by_cases hl : za.length = zb.length
  · have hne : ((za.length : Int) != (zb.length : Int)) = false := by rw [hl]; simp
    have HA := Lib.hid ha
    have HB := Lib.hid hb
    have HL := Lib.hid hl
    have HE : Hid ((∀ j, j < za.length → gk za j = gk zb j) → decide (za = zb) = true) := Lib.hid (fun h => decide_eq_true (tks_ext hl h))
    have HF : Hid (∀ k, gk za k ≠ gk zb k → decide (za = zb) = false) := Lib.hid (fun k h => decide_eq_false (fun e => h (by rw [e])))
    clear ha hb hl
    go_enter Tryz.func11, Tryz.ntmps11
    go_wp2
    go_loopw [5] (fun i wr => ∃ k q : Nat, k ≤ za.length ∧ i = .int .i64 k ∧ wr = w.drewN q ∧ Hid (∀ j, j < k → gk za j = gk zb j)) (fun i _ => za.length - (intOf i).toNat)
    case atStart => exact ⟨0, 0, Nat.zero_le _, rfl, rfl, Lib.hid (fun j hj => by omega)⟩
    case round =>
      obtain ⟨k, q, hk, rfl, rfl, HK⟩ := hrel
      by_cases hlt : k < za.length
      · have k1 : (k : Int) < (za.length : Int) := by omega
        have k2 : (k : Int) < (zb.length : Int) := by have := HL.out; omega
        have k3 : (0 : Int) ≤ (k : Int) := by omega
        obtain ⟨b1, o1, rfl, _, _, p0, p1, p2, _⟩ := HA.out.1.at_ hlt
        have p3 := HA.out.2.at_ hlt
        obtain ⟨b2, o2, rfl, _, _, q0, q1, q2, _⟩ := HB.out.1.at_ (show k < zb.length by have := HL.out; omega)
        have q3 := HB.out.2.at_ (show k < zb.length by have := HL.out; omega)
        have HNO := Lib.hid (HF.out k)
        have HYES : Hid (gk za k = gk zb k → ∀ j, j < k + 1 → gk za j = gk zb j) := Lib.hid (fun h1 j hj => by
          by_cases e : j = k
          · rw [e]; exact h1
          · exact HK.out j (by omega))
        obtain ⟨⟨x0, x1, x2, x3⟩, hx⟩ : ∃ x, gk za k = x := ⟨_, rfl⟩
        obtain ⟨⟨y0, y1, y2, y3⟩, hy⟩ : ∃ y, gk zb k = y := ⟨_, rfl⟩
        rw [hx] at p0 p1 p2 p3 HNO HYES
        rw [hy] at q0 q1 q2 q3 HNO HYES
        simp only [] at p0 p1 p2 p3 q0 q1 q2 q3
        have hneq := run_neK x0 x1 x2 x3 y0 y1 y2 y3
        clear hx hy
        by_cases hxy : (⟨x0, x1, x2, x3⟩ : Tk) = ⟨y0, y1, y2, y3⟩
        · have hb' : (!decide ((⟨x0, x1, x2, x3⟩ : Tk) = ⟨y0, y1, y2, y3⟩)) = false := by simp [hxy]
          rw [hb'] at hneq
          have HK' := Lib.hid (HYES.out hxy)
          clear hxy hb'
          go_wp2
          go_quiet (fail)
          go_wp2
          go_roundw
          case rel => exact ⟨k + 1, _, by omega, by go_num, rfl, HK'⟩
          case measure => simp [intOf]; omega
        · have hb' : (!decide ((⟨x0, x1, x2, x3⟩ : Tk) = ⟨y0, y1, y2, y3⟩)) = true := by simp [hxy]
          rw [hb'] at hneq
          have HR := Lib.hid (HNO.out hxy)
          clear hxy hb'
          go_wp2
          go_quiet (fail)
          go_wp2
          go_ret
          exact ⟨by rw [HR.out]; rfl, _, World.drewN_drewN _ _ _⟩
      · obtain rfl : k = za.length := by omega
        have HR := Lib.hid (HE.out HK.out)
        go_wp2
        go_ret
        exact ⟨by rw [HR.out]; rfl, _, rfl⟩
  · have hne : ((za.length : Int) != (zb.length : Int)) = true := by rw [bne_iff_ne]; omega
    have hd : decide (za = zb) = false := decide_eq_false (fun e => hl (by rw [e]))
    rw [hd]
    clear hl ha hb hd
    go_enter Tryz.func11, Tryz.ntmps11
    go_wp2
    go_ret
    exact ⟨rfl, 0, rfl⟩
/-- Equal, of values. -/
theorem rSame_at (φ ψ : Nat → Prop) (u v : Value) (x y : List Tk) (w : World) (hu : LkC φ w u x) (hv : LkC ψ w v y) : Calls Tryz.prog 11 #[u, v] w fun e w' => e = .returned (.bool (decide (x = y))) ∧ Below w.heap.size w w' := by
  obtain ⟨a, c, rfl, h1, h2, h3⟩ := hu
  obtain ⟨b, d, rfl, k1, k2, k3⟩ := hv
  refine (rSameK_any _ _ a b c d x y w h3 k3 (by omega) (by omega)).mono ?_
  rintro e w' ⟨rfl, q, rfl⟩
  exact ⟨rfl, rfl, rfl, rfl, Nat.le_refl _, fun _ _ => rfl⟩


end Go.Proofs.YtdgphhdkeikbaaaGreatDoor
