/-
  LexerPositions: what the statement returns.
-/
import Derived.Test.YtdgphhdkeikbaaaDoorLxAwake
import Derived.Test.YtdgphhdkeikbaaaDoorLxPos
namespace Go.Proofs.YtdgphhdkeikbaaaDoor
set_option linter.unusedSimpArgs false
set_option linter.unusedVariables false
open Go.RowKit

theorem posF_in (s : ByteArray) (i : Nat) (h : i ≤ s.size) : posF s (i : Int) = posL (s.data.toList.take i) := by
  unfold posF; rw [if_pos ⟨by omega, by omega⟩]; rfl
theorem posF_out (s : ByteArray) (i : Int) (h : (s.size : Int) < i) : posF s i = (0, 0) := by
  unfold posF; rw [if_neg (by omega)]
theorem byte_at (s : ByteArray) (i : Nat) (h : i < s.size) : s.data.toList.take (i + 1) = s.data.toList.take i ++ [s[i]'h] := by
  have hl : i < s.data.toList.length := by rw [Array.length_toList]; exact h
  rw [List.take_succ_eq_append_getElem hl]
  rfl
set_option maxRecDepth 100000 in
set_option maxHeartbeats 8000000 in
theorem lexerPositions_walk (s : ByteArray) (w : World) (hV : LxV w) (hT : TabJ w) :
    Calls Tryd.prog 8 #[.string s] w fun e w' => e = .returned (.bool true) ∧ Below w.heap.size w w' := by
  have HA := Lib.hid (awake_any w hV hT)
  by_cases h : 400 < s.size
  · have h1 : (400 : Int) < (s.size : Int) := by omega
    clear h hV hT
    go_enter Tryd.func8, Tryd.ntmps8
    go_wp2_with fail
    refine HA.out.mono ?_
    rintro e w1 ⟨rfl, b1⟩
    go_wp2
    go_ret
    exact ⟨rfl, b1⟩
  · have h1 : ¬ (400 : Int) < (s.size : Int) := by omega
    have hs : s.size ≤ 400 := by omega
    have HP := Lib.hid (fun at_ => Position_any s at_ w (by omega))
    have HP0 : Hid (posF s 0 = (1, 1)) := Lib.hid (by
      have := posF_in s 0 (Nat.zero_le _)
      rw [show ((0 : Nat) : Int) = 0 from rfl] at this
      rw [this]; rfl)
    have HPN : Hid (posF s ((s.size : Int) + 1) = (0, 0)) := Lib.hid (posF_out s _ (by omega))
    have hC := HP.out 0
    rw [HP0.out] at hC
    replace hC := Lib.hid hC
    clear h hV hT
    go_enter Tryd.func8, Tryd.ntmps8
    go_wp2_with fail
    refine hC.out.mono ?_
    rintro e w1 ⟨rfl, rfl⟩
    clear hC
    have HST : Hid (∀ k (h : k < s.size), posF s ((k : Int) + 1) = if s[k]'h = 10 then ((posL (s.data.toList.take k)).1 + 1, 1) else ((posL (s.data.toList.take k)).1, (posL (s.data.toList.take k)).2 + 1)) := Lib.hid (fun k h => by
      have := posF_in s (k + 1) h
      rw [show ((k + 1 : Nat) : Int) = (k : Int) + 1 by omega] at this
      rw [this, byte_at s k h, posL_snoc])
    have HSB : Hid (∀ k, k ≤ s.size → 0 ≤ (posL (s.data.toList.take k)).1 ∧ (posL (s.data.toList.take k)).1 ≤ k + 1 ∧ 0 ≤ (posL (s.data.toList.take k)).2 ∧ (posL (s.data.toList.take k)).2 ≤ k + 1) := Lib.hid (fun k hk => by
      rw [pos_take s k hk]
      have := lastIdx_ge s 10 k
      have h2 := List.count_le_length (a := (10 : UInt8)) (l := s.data.toList.take k)
      rw [List.length_take] at h2
      simp only
      omega)
    go_wp2
    go_loopw [3, 4, 28] (fun s3 s4 s28 wr => ∃ k : Nat, s3 = .int .i64 (posL (s.data.toList.take k)).1 ∧ s4 = .int .i64 (posL (s.data.toList.take k)).2 ∧ s28 = .int .i64 k ∧ k ≤ s.size ∧ wr = w1) (fun _ _ s28 _ => s.size - (intOf s28).toNat)
    case atStart => exact ⟨0, rfl, rfl, rfl, Nat.zero_le _, rfl⟩
    case round =>
      obtain ⟨k, rfl, rfl, rfl, hk, rfl⟩ := hrel
      obtain ⟨b1, b2, b3, b4⟩ := HSB.out k hk
      by_cases hlt : k < s.size
      · have k1 : (k : Int) < (s.size : Int) := by omega
        have hC := HP.out ((k : Int) + 1)
        have hst := HST.out k hlt
        have hnx : posF s ((k : Int) + 1) = posL (s.data.toList.take (k + 1)) := by
          have := posF_in s (k + 1) hlt
          rwa [show ((k + 1 : Nat) : Int) = (k : Int) + 1 by omega] at this
        have HNX := Lib.hid hnx
        obtain ⟨c, hc⟩ : ∃ c, s[k]'hlt = c := ⟨_, rfl⟩
        obtain ⟨l, hl⟩ : ∃ l, (posL (s.data.toList.take k)).1 = l := ⟨_, rfl⟩
        obtain ⟨m, hm⟩ : ∃ l, (posL (s.data.toList.take k)).2 = l := ⟨_, rfl⟩
        rw [hc, hl, hm] at hst
        rw [hl] at b1 b2
        rw [hm] at b3 b4
        simp only [hl, hm]
        by_cases h10 : c = 10
        · have e10 : (((s[k]'hlt).toNat : Int) == 10) = true := by rw [hc, h10]; rfl
          rw [if_pos h10] at hst
          rw [hst] at hC
          have HC := Lib.hid hC
          have HN := Lib.hid (hnx.symm.trans hst)
          clear hC hst hnx hl hm hc h10 HNX
          go_wp2_with fail
          refine HC.out.mono ?_
          rintro e w2 ⟨rfl, rfl⟩
          go_wp2
          go_roundw
          case rel => exact ⟨k + 1, by rw [HN.out], by rw [HN.out], by go_num, by omega, by first | rfl | trivial⟩
          case measure => simp [intOf]; omega
        · have e10 : (((s[k]'hlt).toNat : Int) == 10) = false := by
            rw [hc]
            refine beq_eq_false_iff_ne.2 (fun e => h10 ?_)
            have : c.toNat = 10 := by omega
            exact UInt8.toNat_inj.1 (by simpa using this)
          rw [if_neg h10] at hst
          rw [hst] at hC
          have HC := Lib.hid hC
          have HN := Lib.hid (hnx.symm.trans hst)
          clear hC hst hnx hl hm hc h10 HNX
          go_wp2_with fail
          refine HC.out.mono ?_
          rintro e w2 ⟨rfl, rfl⟩
          go_wp2
          go_roundw
          case rel => exact ⟨k + 1, by rw [HN.out], by rw [HN.out], by go_num, by omega, by first | rfl | trivial⟩
          case measure => simp [intOf]; omega
      · obtain rfl : k = s.size := by omega
        have hC := HP.out ((s.size : Int) + 1)
        rw [HPN.out] at hC
        have HC := Lib.hid hC
        clear hC
        go_wp2_with fail
        refine HC.out.mono ?_
        rintro e w2 ⟨rfl, rfl⟩
        go_wp2_with fail
        refine HA.out.mono ?_
        rintro e w3 ⟨rfl, b1⟩
        go_wp2
        go_ret
        exact ⟨rfl, b1⟩
end Go.Proofs.YtdgphhdkeikbaaaDoor
