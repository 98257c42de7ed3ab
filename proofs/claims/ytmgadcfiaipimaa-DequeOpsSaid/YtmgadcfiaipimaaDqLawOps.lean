/-
  The walk of DequeOps.
-/
import Derived.Test.YtmgadcfiaipimaaDqAwake
import Derived.Test.YtmgadcfiaipimaaDqRef
import Derived.Test.YtmgadcfiaipimaaDqOpen
namespace Go.Proofs.Ytmgadcfiaipimaa
open Go.RowKit

set_option maxRecDepth 100000 in
set_option maxHeartbeats 8000000 in
theorem dequeOps_walk (v : Value) (l : List Int) (x : Int) (w : World) (hK : KZ w v l) :
    Calls Try.prog 3 #[v, .int .i64 x] w fun e w' => e = .returned (.bool true) ∧ Below w.heap.size w w' := by
  have HB0 : Hid (Below w.heap.size w w) := Lib.hid (Below.refl _ w)
  have K0 := Lib.hid hK
  obtain ⟨ad, cap, rfl, hc1, hc2, hA⟩ := hK
  clear hA
  by_cases hg : 40 < l.length
  · have hgI : (40 : Int) < (l.length : Int) := by omega
    go_enter Try.func3, Try.ntmps3
    have hC1 := awake_any w
    have HC1 := Lib.hid hC1
    clear hC1
    go_wp2_with fail
    refine HC1.out.mono ?_
    rintro e w1 ⟨rfl, b1⟩
    have HB1 := Lib.hid (HB0.out.trans (b1.mono HB0.out.size))
    clear b1
    go_wp2
    go_ret
    exact ⟨rfl, HB1.out⟩
  · have hgI : ¬ (40 : Int) < (l.length : Int) := by omega
    obtain ⟨PQ, hPQ⟩ : ∃ q, pushQ l x = q := ⟨_, rfl⟩
    have HPQ := Lib.hid hPQ
    clear hPQ
    obtain ⟨PE, hPE⟩ : ∃ q, pushE l x = q := ⟨_, rfl⟩
    have HPE := Lib.hid hPE
    clear hPE
    obtain ⟨TE_, hTE_⟩ : ∃ q, takeE l = q := ⟨_, rfl⟩
    have HTE_ := Lib.hid hTE_
    clear hTE_
    obtain ⟨QQ, hQQ⟩ : ∃ q, popQ l = q := ⟨_, rfl⟩
    have HQQ := Lib.hid hQQ
    clear hQQ
    obtain ⟨QX, hQX⟩ : ∃ q, popX l = q := ⟨_, rfl⟩
    have HQX := Lib.hid hQX
    clear hQX
    obtain ⟨SQ, hSQ⟩ : ∃ q, stealQ l = q := ⟨_, rfl⟩
    have HSQ := Lib.hid hSQ
    clear hSQ
    obtain ⟨SX, hSX⟩ : ∃ q, stealX l = q := ⟨_, rfl⟩
    have HSX := Lib.hid hSX
    clear hSX
    obtain ⟨HR, hHR⟩ : ∃ q, halfR l = q := ⟨_, rfl⟩
    have HHR := Lib.hid hHR
    clear hHR
    obtain ⟨HU, hHU⟩ : ∃ q, halfU l = q := ⟨_, rfl⟩
    have HHU := Lib.hid hHU
    clear hHU
    obtain ⟨CE, hCE⟩ : ∃ q, dqE l = q := ⟨_, rfl⟩
    have HCE := Lib.hid hCE
    clear hCE
    have nPE : (PE != PE) = false := by simp
    have mPE : (PE == PE) = true := by simp
    have nTE_ : (TE_ != TE_) = false := by simp
    have mTE_ : (TE_ == TE_) = true := by simp
    have nQX : (QX != QX) = false := by simp
    have mQX : (QX == QX) = true := by simp
    have nSX : (SX != SX) = false := by simp
    have mSX : (SX == SX) = true := by simp
    have nCE : (CE != CE) = false := by simp
    have mCE : (CE == CE) = true := by simp
    go_enter Try.func3, Try.ntmps3
    have hC1 := push_any _ l x w K0.out
    rw [HPQ.out, HPE.out] at hC1
    have HC1 := Lib.hid hC1
    clear hC1
    go_wp2_with fail
    refine HC1.out.mono ?_
    rintro e w1 ⟨ua, rfl, ka, b1⟩
    have HB1 := Lib.hid (HB0.out.trans (b1.mono HB0.out.size))
    have Kl_1 := Lib.hid (KZ.below K0.out b1)
    have Ka_1 := Lib.hid (ka.kz)
    clear b1 ka
    have hC2 := rPush_any _ l x w1 Kl_1.out
    rw [HPQ.out, HPE.out] at hC2
    have HC2 := Lib.hid hC2
    clear hC2
    go_wp2_with fail
    refine HC2.out.mono ?_
    rintro e w2 ⟨ub, rfl, kb, b2⟩
    have HB2 := Lib.hid (HB1.out.trans (b2.mono HB1.out.size))
    have Kl_2 := Lib.hid (KZ.below Kl_1.out b2)
    have Ka_2 := Lib.hid (KZ.below Ka_1.out b2)
    have Kb_2 := Lib.hid (kb.kz)
    clear b2 kb
    have hC3 := pop_any _ l w2 Kl_2.out
    rw [HQQ.out, HQX.out, HTE_.out] at hC3
    have HC3 := Lib.hid hC3
    clear hC3
    go_wp2_with fail
    refine HC3.out.mono ?_
    rintro e w3 ⟨uc, rfl, kc, b3⟩
    have HB3 := Lib.hid (HB2.out.trans (b3.mono HB2.out.size))
    have Kl_3 := Lib.hid (KZ.below Kl_2.out b3)
    have Ka_3 := Lib.hid (KZ.below Ka_2.out b3)
    have Kb_3 := Lib.hid (KZ.below Kb_2.out b3)
    have Kc_3 := Lib.hid (kc.kz)
    clear b3 kc
    have hC4 := rPop_any _ l w3 Kl_3.out
    rw [HQQ.out, HQX.out, HTE_.out] at hC4
    have HC4 := Lib.hid hC4
    clear hC4
    go_wp2_with fail
    refine HC4.out.mono ?_
    rintro e w4 ⟨ud, rfl, kd, b4⟩
    have HB4 := Lib.hid (HB3.out.trans (b4.mono HB3.out.size))
    have Kl_4 := Lib.hid (KZ.below Kl_3.out b4)
    have Ka_4 := Lib.hid (KZ.below Ka_3.out b4)
    have Kb_4 := Lib.hid (KZ.below Kb_3.out b4)
    have Kc_4 := Lib.hid (KZ.below Kc_3.out b4)
    have Kd_4 := Lib.hid (kd.kz)
    clear b4 kd
    have hC5 := steal_any _ l w4 Kl_4.out
    rw [HSQ.out, HSX.out, HTE_.out] at hC5
    have HC5 := Lib.hid hC5
    clear hC5
    go_wp2_with fail
    refine HC5.out.mono ?_
    rintro e w5 ⟨up, rfl, kp, b5⟩
    have HB5 := Lib.hid (HB4.out.trans (b5.mono HB4.out.size))
    have Kl_5 := Lib.hid (KZ.below Kl_4.out b5)
    have Ka_5 := Lib.hid (KZ.below Ka_4.out b5)
    have Kb_5 := Lib.hid (KZ.below Kb_4.out b5)
    have Kc_5 := Lib.hid (KZ.below Kc_4.out b5)
    have Kd_5 := Lib.hid (KZ.below Kd_4.out b5)
    have Kp_5 := Lib.hid (kp.kz)
    clear b5 kp
    have hC6 := rSteal_any _ l w5 Kl_5.out
    rw [HSQ.out, HSX.out, HTE_.out] at hC6
    have HC6 := Lib.hid hC6
    clear hC6
    go_wp2_with fail
    refine HC6.out.mono ?_
    rintro e w6 ⟨uq, rfl, kq, b6⟩
    have HB6 := Lib.hid (HB5.out.trans (b6.mono HB5.out.size))
    have Kl_6 := Lib.hid (KZ.below Kl_5.out b6)
    have Ka_6 := Lib.hid (KZ.below Ka_5.out b6)
    have Kb_6 := Lib.hid (KZ.below Kb_5.out b6)
    have Kc_6 := Lib.hid (KZ.below Kc_5.out b6)
    have Kd_6 := Lib.hid (KZ.below Kd_5.out b6)
    have Kp_6 := Lib.hid (KZ.below Kp_5.out b6)
    have Kq_6 := Lib.hid (kq.kz)
    clear b6 kq
    have hC7 := half_any _ l w6 Kl_6.out
    rw [HHR.out, HHU.out] at hC7
    have HC7 := Lib.hid hC7
    clear hC7
    go_wp2_with fail
    refine HC7.out.mono ?_
    rintro e w7 ⟨us, ut, rfl, ks, kt, b7⟩
    have HB7 := Lib.hid (HB6.out.trans (b7.mono HB6.out.size))
    have Kl_7 := Lib.hid (KZ.below Kl_6.out b7)
    have Ka_7 := Lib.hid (KZ.below Ka_6.out b7)
    have Kb_7 := Lib.hid (KZ.below Kb_6.out b7)
    have Kc_7 := Lib.hid (KZ.below Kc_6.out b7)
    have Kd_7 := Lib.hid (KZ.below Kd_6.out b7)
    have Kp_7 := Lib.hid (KZ.below Kp_6.out b7)
    have Kq_7 := Lib.hid (KZ.below Kq_6.out b7)
    have Ks_7 := Lib.hid (ks.kz)
    have Kt_7 := Lib.hid (kt.kz)
    clear b7 ks kt
    have hC8 := rHalf_any _ l w7 Kl_7.out
    rw [HHR.out, HHU.out] at hC8
    have HC8 := Lib.hid hC8
    clear hC8
    go_wp2_with fail
    refine HC8.out.mono ?_
    rintro e w8 ⟨uu, uv, rfl, ku, kv, b8⟩
    have HB8 := Lib.hid (HB7.out.trans (b8.mono HB7.out.size))
    have Kl_8 := Lib.hid (KZ.below Kl_7.out b8)
    have Ka_8 := Lib.hid (KZ.below Ka_7.out b8)
    have Kb_8 := Lib.hid (KZ.below Kb_7.out b8)
    have Kc_8 := Lib.hid (KZ.below Kc_7.out b8)
    have Kd_8 := Lib.hid (KZ.below Kd_7.out b8)
    have Kp_8 := Lib.hid (KZ.below Kp_7.out b8)
    have Kq_8 := Lib.hid (KZ.below Kq_7.out b8)
    have Ks_8 := Lib.hid (KZ.below Ks_7.out b8)
    have Kt_8 := Lib.hid (KZ.below Kt_7.out b8)
    have Ku_8 := Lib.hid (ku.kz)
    have Kv_8 := Lib.hid (kv.kz)
    clear b8 ku kv
    have hC9 := same_yes _ _ PQ w8 Ka_8.out Kb_8.out
    have HC9 := Lib.hid hC9
    clear hC9
    go_wp2_with fail
    refine HC9.out.mono ?_
    rintro e w9 ⟨rfl, b9⟩
    have HB9 := Lib.hid (HB8.out.trans (b9.mono HB8.out.size))
    have Kl_9 := Lib.hid (KZ.below Kl_8.out b9)
    have Ka_9 := Lib.hid (KZ.below Ka_8.out b9)
    have Kb_9 := Lib.hid (KZ.below Kb_8.out b9)
    have Kc_9 := Lib.hid (KZ.below Kc_8.out b9)
    have Kd_9 := Lib.hid (KZ.below Kd_8.out b9)
    have Kp_9 := Lib.hid (KZ.below Kp_8.out b9)
    have Kq_9 := Lib.hid (KZ.below Kq_8.out b9)
    have Ks_9 := Lib.hid (KZ.below Ks_8.out b9)
    have Kt_9 := Lib.hid (KZ.below Kt_8.out b9)
    have Ku_9 := Lib.hid (KZ.below Ku_8.out b9)
    have Kv_9 := Lib.hid (KZ.below Kv_8.out b9)
    clear b9
    have hC10 := same_yes _ _ QQ w9 Kc_9.out Kd_9.out
    have HC10 := Lib.hid hC10
    clear hC10
    go_wp2_with fail
    refine HC10.out.mono ?_
    rintro e w10 ⟨rfl, b10⟩
    have HB10 := Lib.hid (HB9.out.trans (b10.mono HB9.out.size))
    have Kl_10 := Lib.hid (KZ.below Kl_9.out b10)
    have Kc_10 := Lib.hid (KZ.below Kc_9.out b10)
    have Kd_10 := Lib.hid (KZ.below Kd_9.out b10)
    have Kp_10 := Lib.hid (KZ.below Kp_9.out b10)
    have Kq_10 := Lib.hid (KZ.below Kq_9.out b10)
    have Ks_10 := Lib.hid (KZ.below Ks_9.out b10)
    have Kt_10 := Lib.hid (KZ.below Kt_9.out b10)
    have Ku_10 := Lib.hid (KZ.below Ku_9.out b10)
    have Kv_10 := Lib.hid (KZ.below Kv_9.out b10)
    clear b10
    have hC11 := (check_any _ l w10 Kl_10.out).mono (fun e w' (h : e = .returned (.int .i64 (dqE l)) ∧ w10 = w') => (show e = .returned (.int .i64 (dqE l)) ∧ Below w10.heap.size w10 w' from ⟨h.1, h.2 ▸ Below.refl _ _⟩))
    rw [HCE.out] at hC11
    have HC11 := Lib.hid hC11
    clear hC11
    go_wp2_with fail
    refine HC11.out.mono ?_
    rintro e w11 ⟨rfl, b11⟩
    have HB11 := Lib.hid (HB10.out.trans (b11.mono HB10.out.size))
    have Kl_11 := Lib.hid (KZ.below Kl_10.out b11)
    have Kp_11 := Lib.hid (KZ.below Kp_10.out b11)
    have Kq_11 := Lib.hid (KZ.below Kq_10.out b11)
    have Ks_11 := Lib.hid (KZ.below Ks_10.out b11)
    have Kt_11 := Lib.hid (KZ.below Kt_10.out b11)
    have Ku_11 := Lib.hid (KZ.below Ku_10.out b11)
    have Kv_11 := Lib.hid (KZ.below Kv_10.out b11)
    clear b11
    have hC12 := rCheck_any _ l w11 Kl_11.out
    rw [HCE.out] at hC12
    have HC12 := Lib.hid hC12
    clear hC12
    go_wp2_with fail
    refine HC12.out.mono ?_
    rintro e w12 ⟨rfl, b12⟩
    have HB12 := Lib.hid (HB11.out.trans (b12.mono HB11.out.size))
    have Kl_12 := Lib.hid (KZ.below Kl_11.out b12)
    have Kp_12 := Lib.hid (KZ.below Kp_11.out b12)
    have Kq_12 := Lib.hid (KZ.below Kq_11.out b12)
    have Ks_12 := Lib.hid (KZ.below Ks_11.out b12)
    have Kt_12 := Lib.hid (KZ.below Kt_11.out b12)
    have Ku_12 := Lib.hid (KZ.below Ku_11.out b12)
    have Kv_12 := Lib.hid (KZ.below Kv_11.out b12)
    clear b12
    have hC13 := same_yes _ _ SQ w12 Kp_12.out Kq_12.out
    have HC13 := Lib.hid hC13
    clear hC13
    go_wp2_with fail
    refine HC13.out.mono ?_
    rintro e w13 ⟨rfl, b13⟩
    have HB13 := Lib.hid (HB12.out.trans (b13.mono HB12.out.size))
    have Kp_13 := Lib.hid (KZ.below Kp_12.out b13)
    have Kq_13 := Lib.hid (KZ.below Kq_12.out b13)
    have Ks_13 := Lib.hid (KZ.below Ks_12.out b13)
    have Kt_13 := Lib.hid (KZ.below Kt_12.out b13)
    have Ku_13 := Lib.hid (KZ.below Ku_12.out b13)
    have Kv_13 := Lib.hid (KZ.below Kv_12.out b13)
    clear b13
    have hC14 := same_yes _ _ HR w13 Ks_13.out Ku_13.out
    have HC14 := Lib.hid hC14
    clear hC14
    go_wp2_with fail
    refine HC14.out.mono ?_
    rintro e w14 ⟨rfl, b14⟩
    have HB14 := Lib.hid (HB13.out.trans (b14.mono HB13.out.size))
    have Ks_14 := Lib.hid (KZ.below Ks_13.out b14)
    have Kt_14 := Lib.hid (KZ.below Kt_13.out b14)
    have Ku_14 := Lib.hid (KZ.below Ku_13.out b14)
    have Kv_14 := Lib.hid (KZ.below Kv_13.out b14)
    clear b14
    have hC15 := same_yes _ _ HU w14 Kt_14.out Kv_14.out
    have HC15 := Lib.hid hC15
    clear hC15
    go_wp2_with fail
    refine HC15.out.mono ?_
    rintro e w15 ⟨rfl, b15⟩
    have HB15 := Lib.hid (HB14.out.trans (b15.mono HB14.out.size))
    have Kt_15 := Lib.hid (KZ.below Kt_14.out b15)
    have Kv_15 := Lib.hid (KZ.below Kv_14.out b15)
    clear b15
    have hC16 := awake_any w15
    have HC16 := Lib.hid hC16
    clear hC16
    go_wp2_with fail
    refine HC16.out.mono ?_
    rintro e w16 ⟨rfl, b16⟩
    have HB16 := Lib.hid (HB15.out.trans (b16.mono HB15.out.size))
    clear b16
    go_wp2
    go_ret
    exact ⟨rfl, HB16.out⟩

end Go.Proofs.Ytmgadcfiaipimaa
