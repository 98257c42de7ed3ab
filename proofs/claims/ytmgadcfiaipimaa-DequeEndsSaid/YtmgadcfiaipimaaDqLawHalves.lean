/-
  The walk of DequeHalves.
-/
import Derived.Test.YtmgadcfiaipimaaDqAwake
import Derived.Test.YtmgadcfiaipimaaDqOpen
namespace Go.Proofs.Ytmgadcfiaipimaa
open Go.RowKit

theorem steal_drop {l : List Int} {k : Nat} (h : dqE l = 0) (hk : k < l.length) : takeE (l.drop k) = 0 ∧ stealQ (l.drop k) = l.drop (k + 1) ∧ stealX (l.drop k) = gz l k := by
  have h0 : takeE (l.drop k) = 0 := takeE_iff.2 ⟨dqE_drop h _, fun e => by have := congrArg List.length e; rw [List.length_drop] at this; simp at this; omega⟩
  refine ⟨h0, ?_, ?_⟩
  · rw [show stealQ (l.drop k) = (l.drop k).drop 1 from if_pos h0, List.drop_drop]
  · rw [show stealX (l.drop k) = gz (l.drop k) 0 from if_pos h0, gz_drop, Nat.add_zero]
theorem pop_take {l : List Int} {k : Nat} (h : dqE l = 0) (hk : k < l.length) : takeE (l.take (k + 1)) = 0 ∧ popQ (l.take (k + 1)) = l.take k ∧ popX (l.take (k + 1)) = gz l k := by
  have hlen : (l.take (k + 1)).length = k + 1 := by rw [List.length_take]; omega
  have h0 : takeE (l.take (k + 1)) = 0 := takeE_iff.2 ⟨dqE_take h _, fun e => by rw [e] at hlen; simp at hlen⟩
  refine ⟨h0, ?_, ?_⟩
  · rw [show popQ (l.take (k + 1)) = (l.take (k + 1)).take ((l.take (k + 1)).length - 1) from if_pos h0, hlen, List.take_take]
    congr 1
    omega
  · rw [show popX (l.take (k + 1)) = gz (l.take (k + 1)) ((l.take (k + 1)).length - 1) from if_pos h0, hlen, gz_take (by omega)]
    rfl

set_option maxRecDepth 100000 in
set_option maxHeartbeats 8000000 in
theorem dequeHalves_walk (v : Value) (l : List Int) (w : World) (hK : KZ w v l) :
    Calls Try.prog 8 #[v] w fun e w' => e = .returned (.bool true) ∧ Below w.heap.size w w' := by
  have HB0 : Hid (Below w.heap.size w w) := Lib.hid (Below.refl _ w)
  have K0 := Lib.hid hK
  have HHF := Lib.hid (half_any v l w hK)
  have HCK := check_any v l w hK
  obtain ⟨ad, cap, rfl, hc1, hc2, hA⟩ := hK
  by_cases hg : 40 < l.length
  · clear hA
    have hgI : (40 : Int) < (l.length : Int) := by omega
    clear HCK
    go_enter Try.func8, Try.ntmps8
    have hC1 := awake_any w
    have HC1 := Lib.hid hC1
    clear hC1
    go_wp2_with fail
    refine HC1.out.mono ?_
    rintro e w1 ⟨rfl, b1⟩
    have HB1 := Lib.hid (HB0.out.trans (b1.mono HB0.out.size))
    clear b1
    go_wp2
    go_ret
    exact ⟨rfl, HB1.out⟩
  · have hgI : ¬ (40 : Int) < (l.length : Int) := by omega
    by_cases hd : dqE l = 0
    · have hlen := dqE_len hd
      rw [hd] at HCK
      have HCK := Lib.hid HCK
      have HDL := Lib.hid hd
      have hr1 : halfR l = l.drop ((l.length + 1) / 2) := if_pos hd
      have hr2 : halfU l = l.take ((l.length + 1) / 2) := if_pos hd
      obtain ⟨m, hm⟩ : ∃ m, (l.length + 1) / 2 = m := ⟨_, rfl⟩
      have hml : m ≤ l.length := by omega
      have hpar : m = l.length - m ∨ m = l.length - m + 1 := by omega
      rw [hm] at hr1 hr2
      rw [hr1, hr2] at HHF
      have HUL : Hid ((l.take m).length = m) := Lib.hid (by rw [List.length_take]; omega)
      have HRL : Hid ((l.drop m).length = l.length - m) := Lib.hid (by rw [List.length_drop])
      have HPAR := Lib.hid hpar
      clear hA hd hr1 hr2 hm hpar
      go_enter Try.func8, Try.ntmps8
      go_wp2_with fail
      refine HCK.out.mono ?_
      rintro e w0 ⟨rfl, rfl⟩
      go_wp2_with fail
      refine HHF.out.mono ?_
      rintro e w1 ⟨ur, uu, rfl, kr, ku, b1⟩
      have HB1 := Lib.hid (HB0.out.trans (b1.mono HB0.out.size))
      have KL := Lib.hid (KZ.below K0.out b1)
      have KR := Lib.hid kr.kz
      have KU := Lib.hid ku.kz
      obtain ⟨au, cu, rfl, hu1, hu2, hu3⟩ := ku.kz
      have HU3 := Lib.hid hu3
      rw [HUL.out] at KU hu1 ⊢
      clear kr ku b1 hu3
      go_wp2
      go_loopw [5, 28] (fun x i wr => ∃ (k : Nat) (mv : Value), k ≤ m ∧ i = .int .i64 k ∧ mv = x ∧ Hid (KZ wr mv (l.drop k)) ∧ Hid (Below w1.heap.size w1 wr)) (fun _ i _ => m - (intOf i).toNat)
      case atStart => exact ⟨0, _, Nat.zero_le _, rfl, rfl, KL, Lib.hid (Below.refl _ _)⟩
      case round =>
        obtain ⟨k, mv, hk, rfl, rfl, HM, HBR⟩ := hrel
        by_cases hlt : k < m
        · have k1 : (k : Int) < (m : Int) := by omega
          obtain ⟨bu, off, rfl, hbu, c0⟩ := (HU3.out.below HBR.out) k (by rw [HUL.out]; exact hlt)
          change wr.cell? ⟨bu, off + k, none⟩ = some (.int .i64 (gz (l.take m) k)) at c0
          rw [gz_take hlt] at c0
          obtain ⟨t1, t2, t3⟩ := steal_drop HDL.out (show k < l.length by omega)
          have hC := steal_any mv (l.drop k) wr HM.out
          rw [t1, t2, t3] at hC
          obtain ⟨y, hy⟩ : ∃ y, gz l k = y := ⟨_, rfl⟩
          rw [hy] at c0 hC
          have nY : (y != y) = false := by simp
          have HC := Lib.hid hC
          clear t1 t2 t3 hy hC
          go_wp2_with fail
          refine HC.out.mono ?_
          rintro e w2 ⟨u2, rfl, k2, b2⟩
          have HM2 := Lib.hid k2.kz
          have HBR2 := Lib.hid (HBR.out.trans (b2.mono HBR.out.size))
          clear c0 k2 b2
          go_wp2
          go_roundw
          case rel => exact ⟨k + 1, u2, by omega, by go_num, rfl, HM2, HBR2⟩
          case measure => simp [intOf]; omega
        · obtain rfl : k = m := by omega
          have HB2 := Lib.hid (HB1.out.trans (HBR.out.mono HB1.out.size))
          have KR2 := Lib.hid (KZ.below KR.out HBR.out)
          obtain ⟨ar, cr, rfl, hr1, hr2, hr3⟩ := KR.out
          have HSM := Lib.hid (same_yes mv _ _ wr HM.out KR2.out)
          rw [HRL.out] at HSM ⊢
          obtain ⟨q, hq⟩ : ∃ q, l.length - k = q := ⟨_, rfl⟩
          rw [hq] at HSM HPAR ⊢
          have q3 : IntKind.i64.wrap ((q : Int) + 1) = (q : Int) + 1 := IntWalk.i64_in _ (by omega)
          clear hr1 hr3 hq
          rcases HPAR.out with h5 | h5
          · have e1 : ((k : Int) == (q : Int)) = true := by rw [h5]; simp
            clear h5
            go_wp2_with fail
            refine HSM.out.mono ?_
            rintro e w3 ⟨rfl, b3⟩
            have HB3 := Lib.hid (HB2.out.trans (b3.mono HB2.out.size))
            have HAW := Lib.hid (awake_any w3)
            clear b3
            go_wp2_with fail
            refine HAW.out.mono ?_
            rintro e w4 ⟨rfl, b4⟩
            have HB4 := Lib.hid (HB3.out.trans (b4.mono HB3.out.size))
            clear b4
            go_wp2
            go_ret
            exact ⟨rfl, HB4.out⟩
          · have e1 : ((k : Int) == (q : Int)) = false := by rw [beq_eq_false_iff_ne]; omega
            have e2 : ((k : Int) == (q : Int) + 1) = true := by rw [beq_iff_eq]; omega
            clear h5
            go_wp2_with fail
            refine HSM.out.mono ?_
            rintro e w3 ⟨rfl, b3⟩
            have HB3 := Lib.hid (HB2.out.trans (b3.mono HB2.out.size))
            have HAW := Lib.hid (awake_any w3)
            clear b3
            go_wp2_with fail
            refine HAW.out.mono ?_
            rintro e w4 ⟨rfl, b4⟩
            have HB4 := Lib.hid (HB3.out.trans (b4.mono HB3.out.size))
            clear b4
            go_wp2
            go_ret
            exact ⟨rfl, HB4.out⟩
    · clear hA
      obtain ⟨z, hz⟩ : ∃ z, dqE l = z := ⟨_, rfl⟩
      rw [hz] at HCK hd
      have h0' : (z != 0) = true := by simpa using hd
      have HCK := Lib.hid HCK
      clear hz hd
      go_enter Try.func8, Try.ntmps8
      go_wp2_with fail
      refine HCK.out.mono ?_
      rintro e w0 ⟨rfl, rfl⟩
      have hC1 := awake_any w
      have HC1 := Lib.hid hC1
      clear hC1
      go_wp2_with fail
      refine HC1.out.mono ?_
      rintro e w1 ⟨rfl, b1⟩
      have HB1 := Lib.hid (HB0.out.trans (b1.mono HB0.out.size))
      clear b1
      go_wp2
      go_ret
      exact ⟨rfl, HB1.out⟩

end Go.Proofs.Ytmgadcfiaipimaa
