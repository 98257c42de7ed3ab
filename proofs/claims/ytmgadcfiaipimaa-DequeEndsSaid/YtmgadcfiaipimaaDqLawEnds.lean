/-
  The walk of DequeEnds.
-/
import Derived.Test.YtmgadcfiaipimaaDqAwake
import Derived.Test.YtmgadcfiaipimaaDqLawHalves
namespace Go.Proofs.Ytmgadcfiaipimaa
open Go.RowKit

theorem ends_push {l : List Int} {x : Int} (h : dqE l = 0) (hn : dnE l x = 0) : takeE (l ++ [x]) = 0 ∧ popQ (l ++ [x]) = l ∧ popX (l ++ [x]) = x ∧ (l ≠ [] → stealX (l ++ [x]) = gz l 0) := by
  have h0 : takeE (l ++ [x]) = 0 := takeE_iff.2 ⟨dqE_snoc h hn, by simp⟩
  refine ⟨h0, ?_, ?_, fun hne => ?_⟩
  · rw [show popQ (l ++ [x]) = (l ++ [x]).take ((l ++ [x]).length - 1) from if_pos h0]
    simp
  · rw [show popX (l ++ [x]) = gz (l ++ [x]) ((l ++ [x]).length - 1) from if_pos h0]
    simp [gz]
  · rw [show stealX (l ++ [x]) = gz (l ++ [x]) 0 from if_pos h0]
    have := List.length_pos_iff.2 hne
    unfold gz
    rw [List.getElem?_append_left this]
theorem takeE_nil : takeE [] = 23 := rfl

set_option maxRecDepth 100000 in
set_option maxHeartbeats 8000000 in
theorem dequeEnds_walk (v : Value) (l : List Int) (x : Int) (w : World) (hK : KZ w v l) :
    Calls Try.prog 6 #[v, .int .i64 x] w fun e w' => e = .returned (.bool true) ∧ Below w.heap.size w w' := by
  have HB0 : Hid (Below w.heap.size w w) := Lib.hid (Below.refl _ w)
  have K0 := Lib.hid hK
  have hPU := push_any v l x w hK
  have HCK := check_any v l w hK
  obtain ⟨ad, cap, rfl, hc1, hc2, hA⟩ := hK
  by_cases hg : 40 < l.length
  · clear hA hPU
    have hgI : (40 : Int) < (l.length : Int) := by omega
    clear HCK
    go_enter Try.func6, Try.ntmps6
    have hC1 := awake_any w
    have HC1 := Lib.hid hC1
    clear hC1
    go_wp2_with fail
    refine HC1.out.mono ?_
    rintro e w1 ⟨rfl, b1⟩
    have HB1 := Lib.hid (HB0.out.trans (b1.mono HB0.out.size))
    clear b1
    go_wp2
    go_ret
    exact ⟨rfl, HB1.out⟩
  · have hgI : ¬ (40 : Int) < (l.length : Int) := by omega
    by_cases hd : dqE l = 0
    · have hlen := dqE_len hd
      rw [hd] at HCK
      have HCK := Lib.hid HCK
      have HDL := Lib.hid hd
      have HA := Lib.hid hA
      clear hA
      by_cases hn : dnE l x = 0
      · have hE : pushE l x = 0 := pushE_iff.2 ⟨hd, hn⟩
        have hQ : pushQ l x = l ++ [x] := if_pos hE
        obtain ⟨t1, t2, t3, t4⟩ := ends_push hd hn
        rw [hE, hQ] at hPU
        have hPO := fun (u : Value) (W : World) (hW : KZ W u (l ++ [x])) => pop_any u (l ++ [x]) W hW
        simp only [t1, t2, t3] at hPO
        have hST := fun (u : Value) (W : World) (hW : KZ W u (l ++ [x])) => steal_any u (l ++ [x]) W hW
        simp only [t1] at hST
        have HPU := Lib.hid hPU
        have HPO := Lib.hid hPO
        have nX : (x != x) = false := by simp
        by_cases h0 : l = []
        · have hzI : ¬ (0 : Int) < (l.length : Int) := by rw [h0]; simp
          clear hPU hPO hST hE hQ t1 t2 t3 t4 hn hd h0
          go_enter Try.func6, Try.ntmps6
          go_wp2_with fail
          refine HCK.out.mono ?_
          rintro e w0 ⟨rfl, rfl⟩
          have hC1 := HPU.out
          have HC1 := Lib.hid hC1
          clear hC1
          go_wp2_with fail
          refine HC1.out.mono ?_
          rintro e w1 ⟨um, rfl, km, b1⟩
          have HB1 := Lib.hid (HB0.out.trans (b1.mono HB0.out.size))
          have Kl_1 := Lib.hid (KZ.below K0.out b1)
          have Km_1 := Lib.hid (km.kz)
          clear b1 km
          have hC2 := HPO.out _ w1 Km_1.out
          have HC2 := Lib.hid hC2
          clear hC2
          go_wp2_with fail
          refine HC2.out.mono ?_
          rintro e w2 ⟨uk, rfl, kk, b2⟩
          have HB2 := Lib.hid (HB1.out.trans (b2.mono HB1.out.size))
          have Kl_2 := Lib.hid (KZ.below Kl_1.out b2)
          have Km_2 := Lib.hid (KZ.below Km_1.out b2)
          have Kk_2 := Lib.hid (kk.kz)
          clear b2 kk
          have hC3 := same_yes _ _ l w2 Kk_2.out Kl_2.out
          have HC3 := Lib.hid hC3
          clear hC3
          go_wp2_with fail
          refine HC3.out.mono ?_
          rintro e w3 ⟨rfl, b3⟩
          have HB3 := Lib.hid (HB2.out.trans (b3.mono HB2.out.size))
          have Kl_3 := Lib.hid (KZ.below Kl_2.out b3)
          have Kk_3 := Lib.hid (KZ.below Kk_2.out b3)
          clear b3
          obtain ⟨WS, hWS⟩ : ∃ W, W = w3 := ⟨_, rfl⟩
          subst hWS
          have KLS := Kl_3
          have HBWS := HB3
          have HBS := Lib.hid (Below.refl WS.heap.size WS)
          go_wp2
          go_loopw [12, 13, 92] (fun x y i wr => ∃ (k : Nat) (tv bv : Value), k ≤ l.length ∧ i = .int .i64 k ∧ tv = x ∧ bv = y ∧ Hid (KZ wr tv (l.drop k)) ∧ Hid (KZ wr bv (l.take (l.length - k))) ∧ Hid (Below w.heap.size w wr)) (fun _ _ i _ => l.length - (intOf i).toNat)
          case atStart => exact ⟨0, _, _, Nat.zero_le _, rfl, rfl, rfl, KLS, Lib.hid (by rw [Nat.sub_zero, List.take_length]; exact KLS.out), HBWS⟩
          case round =>
            obtain ⟨k, tv, bv, hk, rfl, rfl, rfl, HT, HO, HBR⟩ := hrel
            by_cases hlt : k < l.length
            · have k1 : (k : Int) < (l.length : Int) := by omega
              obtain ⟨b0, off, hadr, hb0, hc⟩ := (HA.out.below HBR.out).some_ (by omega)
              cases hadr
              have c0 := hc k hlt
              have c1 := hc (l.length - 1 - k) (by omega)
              change wr.cell? ⟨b0, off + k, none⟩ = some (.int .i64 (gz l k)) at c0
              change wr.cell? ⟨b0, off + (l.length - 1 - k), none⟩ = some (.int .i64 (gz l (l.length - 1 - k))) at c1
              obtain ⟨t1, t2, t3⟩ := steal_drop HDL.out hlt
              obtain ⟨s1, s2, s3⟩ := pop_take HDL.out (show l.length - 1 - k < l.length by omega)
              rw [show l.length - 1 - k + 1 = l.length - k by omega] at s1 s2 s3
              have hC := steal_any tv (l.drop k) wr HT.out
              rw [t1, t2, t3] at hC
              have hD := fun (W : World) (hW : KZ W bv (l.take (l.length - k))) => pop_any bv (l.take (l.length - k)) W hW
              simp only [s1, s2, s3] at hD
              have q1 : IntKind.i64.wrap ((l.length : Int) - 1) = ((l.length - 1 : Nat) : Int) := by rw [IntWalk.i64_in _ (by omega)]; omega
              have q2 : IntKind.i64.wrap (((l.length - 1 : Nat) : Int) - (k : Int)) = ((l.length - 1 - k : Nat) : Int) := by rw [IntWalk.i64_in _ (by omega)]; omega
              obtain ⟨y, hy⟩ : ∃ y, gz l k = y := ⟨_, rfl⟩
              obtain ⟨z, hz⟩ : ∃ z, gz l (l.length - 1 - k) = z := ⟨_, rfl⟩
              rw [hy] at c0 hC
              rw [hz] at c1
              simp only [hz] at hD
              obtain ⟨m, hm⟩ : ∃ m, l.length - 1 - k = m := ⟨_, rfl⟩
              have hml : m < l.length := by omega
              have m1 : (m : Int) < (l.length : Int) := by omega
              have m0 : (0 : Int) ≤ (m : Int) := by omega
              rw [hm] at c1 q2
              simp only [hm] at hD
              have nY : (y != y) = false := by simp
              have nZ : (z != z) = false := by simp
              have HMQ : Hid (l.length - (k + 1) = m) := Lib.hid (by omega)
              have HC := Lib.hid hC
              have HD := Lib.hid hD
              have HC0 := Lib.hid c0
              have HC1 := Lib.hid c1
              clear t1 t2 t3 s1 s2 s3 hy hz hC hD hc hm c0 c1
              go_wp2_with fail
              refine HC.out.mono ?_
              rintro e w2 ⟨u2, rfl, k2, b2⟩
              have HT2 := Lib.hid k2.kz
              have HO2 := Lib.hid (KZ.below HO.out b2)
              have HBR2 := Lib.hid (HBR.out.trans (b2.mono HBR.out.size))
              have HC2 := Lib.hid (cell_laterZ b2 HC0.out)
              have HC3 := Lib.hid (cell_laterZ b2 HC1.out)
              have HD2 := Lib.hid (HD.out w2 HO2.out)
              clear k2 b2
              go_wp2_with fail
              refine HD2.out.mono ?_
              rintro e w3 ⟨u3, rfl, k3, b3⟩
              have HT3 := Lib.hid (KZ.below HT2.out b3)
              have HO3 := Lib.hid k3.kz
              have HBR3 := Lib.hid (HBR2.out.trans (b3.mono HBR2.out.size))
              have c0 := cell_laterZ b3 HC2.out
              have c1 := cell_laterZ b3 HC3.out
              clear k3 b3
              go_wp2
              go_roundw
              case rel => exact ⟨k + 1, u2, u3, by omega, by go_num, rfl, rfl, HT3, Lib.hid (by rw [HMQ.out]; exact HO3.out), HBR3⟩
              case measure => simp [intOf]; omega
            · obtain rfl : k = l.length := by omega
              have HT : Hid (KZ wr tv []) := Lib.hid (by have := HT.out; rwa [List.drop_length] at this)
              have HO : Hid (KZ wr bv []) := Lib.hid (by have := HO.out; rwa [Nat.sub_self, List.take_zero] at this)
              have hC := steal_any tv [] wr HT.out
              rw [takeE_nil] at hC
              have HC := Lib.hid hC
              have hD := fun (W : World) (hW : KZ W bv []) => pop_any bv [] W hW
              simp only [takeE_nil] at hD
              have HD := Lib.hid hD
              have HOW := HO.out
              obtain ⟨at_, ct, rfl, _, _, _⟩ := HT.out
              clear hC hD
              go_wp2_with fail
              refine HC.out.mono ?_
              rintro e w2 ⟨u2, rfl, k2, b2⟩
              have HBR2 := Lib.hid (HBR.out.trans (b2.mono HBR.out.size))
              have HD2 := Lib.hid (HD.out w2 (KZ.below HO.out b2))
              clear k2 b2 HOW
              go_wp2_with fail
              refine HD2.out.mono ?_
              rintro e w3 ⟨u3, rfl, k3, b3⟩
              have HBR3 := Lib.hid (HBR2.out.trans (b3.mono HBR2.out.size))
              obtain ⟨ab, cb, rfl, _, _, _⟩ := HO.out
              have HAW := Lib.hid (awake_any w3)
              clear k3 b3
              go_wp2_with fail
              refine HAW.out.mono ?_
              rintro e w4 ⟨rfl, b4⟩
              have HB4 := Lib.hid (HBR3.out.trans (b4.mono HBR3.out.size))
              clear b4
              go_wp2
              go_ret
              exact ⟨rfl, HB4.out⟩
        · have hpos := List.length_pos_iff.2 h0
          have hzI : (0 : Int) < (l.length : Int) := by omega
          have t5 := t4 h0
          simp only [t5] at hST
          obtain ⟨y, hy⟩ : ∃ y, gz l 0 = y := ⟨_, rfl⟩
          simp only [hy] at hST
          have HGY := Lib.hid hy
          have HST := Lib.hid hST
          have nY : (y != y) = false := by simp
          clear hPU hPO hST hE hQ t1 t2 t3 t4 t5 hn hd h0 hy
          go_enter Try.func6, Try.ntmps6
          go_wp2_with fail
          refine HCK.out.mono ?_
          rintro e w0 ⟨rfl, rfl⟩
          have hC1 := HPU.out
          have HC1 := Lib.hid hC1
          clear hC1
          go_wp2_with fail
          refine HC1.out.mono ?_
          rintro e w1 ⟨um, rfl, km, b1⟩
          have HB1 := Lib.hid (HB0.out.trans (b1.mono HB0.out.size))
          have Kl_1 := Lib.hid (KZ.below K0.out b1)
          have Km_1 := Lib.hid (km.kz)
          clear b1 km
          have hC2 := HPO.out _ w1 Km_1.out
          have HC2 := Lib.hid hC2
          clear hC2
          go_wp2_with fail
          refine HC2.out.mono ?_
          rintro e w2 ⟨uk, rfl, kk, b2⟩
          have HB2 := Lib.hid (HB1.out.trans (b2.mono HB1.out.size))
          have Kl_2 := Lib.hid (KZ.below Kl_1.out b2)
          have Km_2 := Lib.hid (KZ.below Km_1.out b2)
          have Kk_2 := Lib.hid (kk.kz)
          clear b2 kk
          have hC3 := HST.out _ w2 Km_2.out
          have HC3 := Lib.hid hC3
          clear hC3
          go_wp2_with fail
          refine HC3.out.mono ?_
          rintro e w3 ⟨us, rfl, ks, b3⟩
          have HB3 := Lib.hid (HB2.out.trans (b3.mono HB2.out.size))
          have Kl_3 := Lib.hid (KZ.below Kl_2.out b3)
          have Km_3 := Lib.hid (KZ.below Km_2.out b3)
          have Kk_3 := Lib.hid (KZ.below Kk_2.out b3)
          clear b3 ks
          obtain ⟨b0, off, rfl, hb0, hc⟩ := (HA.out.below HB3.out).some_ hpos
          have cc := hc 0 hpos
          change w3.cell? ⟨b0, off + 0, none⟩ = some (.int .i64 (gz l 0)) at cc
          rw [HGY.out, Nat.add_zero] at cc
          have HCC := Lib.hid cc
          clear hc cc
          have hC4 := same_yes _ _ l w3 Kk_3.out Kl_3.out
          have HC4 := Lib.hid hC4
          clear hC4
          go_wp2_with fail
          refine HC4.out.mono ?_
          rintro e w4 ⟨rfl, b4⟩
          have HB4 := Lib.hid (HB3.out.trans (b4.mono HB3.out.size))
          have Kl_4 := Lib.hid (KZ.below Kl_3.out b4)
          have Kk_4 := Lib.hid (KZ.below Kk_3.out b4)
          have Zc_4 := Lib.hid ((fun h b => cell_laterZ b h) HCC.out b4)
          clear b4
          have cc := Zc_4.out
          obtain ⟨WS, hWS⟩ : ∃ W, W = w4 := ⟨_, rfl⟩
          subst hWS
          have KLS := Kl_4
          have HBWS := HB4
          have HBS := Lib.hid (Below.refl WS.heap.size WS)
          go_wp2
          go_loopw [12, 13, 92] (fun x y i wr => ∃ (k : Nat) (tv bv : Value), k ≤ l.length ∧ i = .int .i64 k ∧ tv = x ∧ bv = y ∧ Hid (KZ wr tv (l.drop k)) ∧ Hid (KZ wr bv (l.take (l.length - k))) ∧ Hid (Below w.heap.size w wr)) (fun _ _ i _ => l.length - (intOf i).toNat)
          case atStart => exact ⟨0, _, _, Nat.zero_le _, rfl, rfl, rfl, KLS, Lib.hid (by rw [Nat.sub_zero, List.take_length]; exact KLS.out), HBWS⟩
          case round =>
            obtain ⟨k, tv, bv, hk, rfl, rfl, rfl, HT, HO, HBR⟩ := hrel
            by_cases hlt : k < l.length
            · have k1 : (k : Int) < (l.length : Int) := by omega
              obtain ⟨b0, off, hadr, hb0, hc⟩ := (HA.out.below HBR.out).some_ (by omega)
              cases hadr
              have c0 := hc k hlt
              have c1 := hc (l.length - 1 - k) (by omega)
              change wr.cell? ⟨b0, off + k, none⟩ = some (.int .i64 (gz l k)) at c0
              change wr.cell? ⟨b0, off + (l.length - 1 - k), none⟩ = some (.int .i64 (gz l (l.length - 1 - k))) at c1
              obtain ⟨t1, t2, t3⟩ := steal_drop HDL.out hlt
              obtain ⟨s1, s2, s3⟩ := pop_take HDL.out (show l.length - 1 - k < l.length by omega)
              rw [show l.length - 1 - k + 1 = l.length - k by omega] at s1 s2 s3
              have hC := steal_any tv (l.drop k) wr HT.out
              rw [t1, t2, t3] at hC
              have hD := fun (W : World) (hW : KZ W bv (l.take (l.length - k))) => pop_any bv (l.take (l.length - k)) W hW
              simp only [s1, s2, s3] at hD
              have q1 : IntKind.i64.wrap ((l.length : Int) - 1) = ((l.length - 1 : Nat) : Int) := by rw [IntWalk.i64_in _ (by omega)]; omega
              have q2 : IntKind.i64.wrap (((l.length - 1 : Nat) : Int) - (k : Int)) = ((l.length - 1 - k : Nat) : Int) := by rw [IntWalk.i64_in _ (by omega)]; omega
              obtain ⟨y, hy⟩ : ∃ y, gz l k = y := ⟨_, rfl⟩
              obtain ⟨z, hz⟩ : ∃ z, gz l (l.length - 1 - k) = z := ⟨_, rfl⟩
              rw [hy] at c0 hC
              rw [hz] at c1
              simp only [hz] at hD
              obtain ⟨m, hm⟩ : ∃ m, l.length - 1 - k = m := ⟨_, rfl⟩
              have hml : m < l.length := by omega
              have m1 : (m : Int) < (l.length : Int) := by omega
              have m0 : (0 : Int) ≤ (m : Int) := by omega
              rw [hm] at c1 q2
              simp only [hm] at hD
              have nY : (y != y) = false := by simp
              have nZ : (z != z) = false := by simp
              have HMQ : Hid (l.length - (k + 1) = m) := Lib.hid (by omega)
              have HC := Lib.hid hC
              have HD := Lib.hid hD
              have HC0 := Lib.hid c0
              have HC1 := Lib.hid c1
              clear t1 t2 t3 s1 s2 s3 hy hz hC hD hc hm c0 c1
              go_wp2_with fail
              refine HC.out.mono ?_
              rintro e w2 ⟨u2, rfl, k2, b2⟩
              have HT2 := Lib.hid k2.kz
              have HO2 := Lib.hid (KZ.below HO.out b2)
              have HBR2 := Lib.hid (HBR.out.trans (b2.mono HBR.out.size))
              have HC2 := Lib.hid (cell_laterZ b2 HC0.out)
              have HC3 := Lib.hid (cell_laterZ b2 HC1.out)
              have HD2 := Lib.hid (HD.out w2 HO2.out)
              clear k2 b2
              go_wp2_with fail
              refine HD2.out.mono ?_
              rintro e w3 ⟨u3, rfl, k3, b3⟩
              have HT3 := Lib.hid (KZ.below HT2.out b3)
              have HO3 := Lib.hid k3.kz
              have HBR3 := Lib.hid (HBR2.out.trans (b3.mono HBR2.out.size))
              have c0 := cell_laterZ b3 HC2.out
              have c1 := cell_laterZ b3 HC3.out
              clear k3 b3
              go_wp2
              go_roundw
              case rel => exact ⟨k + 1, u2, u3, by omega, by go_num, rfl, rfl, HT3, Lib.hid (by rw [HMQ.out]; exact HO3.out), HBR3⟩
              case measure => simp [intOf]; omega
            · obtain rfl : k = l.length := by omega
              have HT : Hid (KZ wr tv []) := Lib.hid (by have := HT.out; rwa [List.drop_length] at this)
              have HO : Hid (KZ wr bv []) := Lib.hid (by have := HO.out; rwa [Nat.sub_self, List.take_zero] at this)
              have hC := steal_any tv [] wr HT.out
              rw [takeE_nil] at hC
              have HC := Lib.hid hC
              have hD := fun (W : World) (hW : KZ W bv []) => pop_any bv [] W hW
              simp only [takeE_nil] at hD
              have HD := Lib.hid hD
              have HOW := HO.out
              obtain ⟨at_, ct, rfl, _, _, _⟩ := HT.out
              clear hC hD
              go_wp2_with fail
              refine HC.out.mono ?_
              rintro e w2 ⟨u2, rfl, k2, b2⟩
              have HBR2 := Lib.hid (HBR.out.trans (b2.mono HBR.out.size))
              have HD2 := Lib.hid (HD.out w2 (KZ.below HO.out b2))
              clear k2 b2 HOW
              go_wp2_with fail
              refine HD2.out.mono ?_
              rintro e w3 ⟨u3, rfl, k3, b3⟩
              have HBR3 := Lib.hid (HBR2.out.trans (b3.mono HBR2.out.size))
              obtain ⟨ab, cb, rfl, _, _, _⟩ := HO.out
              have HAW := Lib.hid (awake_any w3)
              clear k3 b3
              go_wp2_with fail
              refine HAW.out.mono ?_
              rintro e w4 ⟨rfl, b4⟩
              have HB4 := Lib.hid (HBR3.out.trans (b4.mono HBR3.out.size))
              clear b4
              go_wp2
              go_ret
              exact ⟨rfl, HB4.out⟩
      · have hE : pushE l x = dnE l x := if_pos hd
        obtain ⟨z, hz⟩ : ∃ z, dnE l x = z := ⟨_, rfl⟩
        rw [hE, hz] at hPU
        rw [hz] at hn
        have h0' : (z == 0) = false := by simpa using hn
        have HPU := Lib.hid hPU
        clear hPU hE hz hn hd
        go_enter Try.func6, Try.ntmps6
        go_wp2_with fail
        refine HCK.out.mono ?_
        rintro e w0 ⟨rfl, rfl⟩
        have hC1 := HPU.out
        have HC1 := Lib.hid hC1
        clear hC1
        go_wp2_with fail
        refine HC1.out.mono ?_
        rintro e w1 ⟨um, rfl, km, b1⟩
        have HB1 := Lib.hid (HB0.out.trans (b1.mono HB0.out.size))
        have Kl_1 := Lib.hid (KZ.below K0.out b1)
        clear b1 km
        obtain ⟨WS, hWS⟩ : ∃ W, W = w1 := ⟨_, rfl⟩
        subst hWS
        have KLS := Kl_1
        have HBWS := HB1
        have HBS := Lib.hid (Below.refl WS.heap.size WS)
        go_wp2
        go_loopw [12, 13, 92] (fun x y i wr => ∃ (k : Nat) (tv bv : Value), k ≤ l.length ∧ i = .int .i64 k ∧ tv = x ∧ bv = y ∧ Hid (KZ wr tv (l.drop k)) ∧ Hid (KZ wr bv (l.take (l.length - k))) ∧ Hid (Below w.heap.size w wr)) (fun _ _ i _ => l.length - (intOf i).toNat)
        case atStart => exact ⟨0, _, _, Nat.zero_le _, rfl, rfl, rfl, KLS, Lib.hid (by rw [Nat.sub_zero, List.take_length]; exact KLS.out), HBWS⟩
        case round =>
          obtain ⟨k, tv, bv, hk, rfl, rfl, rfl, HT, HO, HBR⟩ := hrel
          by_cases hlt : k < l.length
          · have k1 : (k : Int) < (l.length : Int) := by omega
            obtain ⟨b0, off, hadr, hb0, hc⟩ := (HA.out.below HBR.out).some_ (by omega)
            cases hadr
            have c0 := hc k hlt
            have c1 := hc (l.length - 1 - k) (by omega)
            change wr.cell? ⟨b0, off + k, none⟩ = some (.int .i64 (gz l k)) at c0
            change wr.cell? ⟨b0, off + (l.length - 1 - k), none⟩ = some (.int .i64 (gz l (l.length - 1 - k))) at c1
            obtain ⟨t1, t2, t3⟩ := steal_drop HDL.out hlt
            obtain ⟨s1, s2, s3⟩ := pop_take HDL.out (show l.length - 1 - k < l.length by omega)
            rw [show l.length - 1 - k + 1 = l.length - k by omega] at s1 s2 s3
            have hC := steal_any tv (l.drop k) wr HT.out
            rw [t1, t2, t3] at hC
            have hD := fun (W : World) (hW : KZ W bv (l.take (l.length - k))) => pop_any bv (l.take (l.length - k)) W hW
            simp only [s1, s2, s3] at hD
            have q1 : IntKind.i64.wrap ((l.length : Int) - 1) = ((l.length - 1 : Nat) : Int) := by rw [IntWalk.i64_in _ (by omega)]; omega
            have q2 : IntKind.i64.wrap (((l.length - 1 : Nat) : Int) - (k : Int)) = ((l.length - 1 - k : Nat) : Int) := by rw [IntWalk.i64_in _ (by omega)]; omega
            obtain ⟨y, hy⟩ : ∃ y, gz l k = y := ⟨_, rfl⟩
            obtain ⟨z, hz⟩ : ∃ z, gz l (l.length - 1 - k) = z := ⟨_, rfl⟩
            rw [hy] at c0 hC
            rw [hz] at c1
            simp only [hz] at hD
            obtain ⟨m, hm⟩ : ∃ m, l.length - 1 - k = m := ⟨_, rfl⟩
            have hml : m < l.length := by omega
            have m1 : (m : Int) < (l.length : Int) := by omega
            have m0 : (0 : Int) ≤ (m : Int) := by omega
            rw [hm] at c1 q2
            simp only [hm] at hD
            have nY : (y != y) = false := by simp
            have nZ : (z != z) = false := by simp
            have HMQ : Hid (l.length - (k + 1) = m) := Lib.hid (by omega)
            have HC := Lib.hid hC
            have HD := Lib.hid hD
            have HC0 := Lib.hid c0
            have HC1 := Lib.hid c1
            clear t1 t2 t3 s1 s2 s3 hy hz hC hD hc hm c0 c1
            go_wp2_with fail
            refine HC.out.mono ?_
            rintro e w2 ⟨u2, rfl, k2, b2⟩
            have HT2 := Lib.hid k2.kz
            have HO2 := Lib.hid (KZ.below HO.out b2)
            have HBR2 := Lib.hid (HBR.out.trans (b2.mono HBR.out.size))
            have HC2 := Lib.hid (cell_laterZ b2 HC0.out)
            have HC3 := Lib.hid (cell_laterZ b2 HC1.out)
            have HD2 := Lib.hid (HD.out w2 HO2.out)
            clear k2 b2
            go_wp2_with fail
            refine HD2.out.mono ?_
            rintro e w3 ⟨u3, rfl, k3, b3⟩
            have HT3 := Lib.hid (KZ.below HT2.out b3)
            have HO3 := Lib.hid k3.kz
            have HBR3 := Lib.hid (HBR2.out.trans (b3.mono HBR2.out.size))
            have c0 := cell_laterZ b3 HC2.out
            have c1 := cell_laterZ b3 HC3.out
            clear k3 b3
            go_wp2
            go_roundw
            case rel => exact ⟨k + 1, u2, u3, by omega, by go_num, rfl, rfl, HT3, Lib.hid (by rw [HMQ.out]; exact HO3.out), HBR3⟩
            case measure => simp [intOf]; omega
          · obtain rfl : k = l.length := by omega
            have HT : Hid (KZ wr tv []) := Lib.hid (by have := HT.out; rwa [List.drop_length] at this)
            have HO : Hid (KZ wr bv []) := Lib.hid (by have := HO.out; rwa [Nat.sub_self, List.take_zero] at this)
            have hC := steal_any tv [] wr HT.out
            rw [takeE_nil] at hC
            have HC := Lib.hid hC
            have hD := fun (W : World) (hW : KZ W bv []) => pop_any bv [] W hW
            simp only [takeE_nil] at hD
            have HD := Lib.hid hD
            have HOW := HO.out
            obtain ⟨at_, ct, rfl, _, _, _⟩ := HT.out
            clear hC hD
            go_wp2_with fail
            refine HC.out.mono ?_
            rintro e w2 ⟨u2, rfl, k2, b2⟩
            have HBR2 := Lib.hid (HBR.out.trans (b2.mono HBR.out.size))
            have HD2 := Lib.hid (HD.out w2 (KZ.below HO.out b2))
            clear k2 b2 HOW
            go_wp2_with fail
            refine HD2.out.mono ?_
            rintro e w3 ⟨u3, rfl, k3, b3⟩
            have HBR3 := Lib.hid (HBR2.out.trans (b3.mono HBR2.out.size))
            obtain ⟨ab, cb, rfl, _, _, _⟩ := HO.out
            have HAW := Lib.hid (awake_any w3)
            clear k3 b3
            go_wp2_with fail
            refine HAW.out.mono ?_
            rintro e w4 ⟨rfl, b4⟩
            have HB4 := Lib.hid (HBR3.out.trans (b4.mono HBR3.out.size))
            clear b4
            go_wp2
            go_ret
            exact ⟨rfl, HB4.out⟩
    · clear hA hPU
      obtain ⟨z, hz⟩ : ∃ z, dqE l = z := ⟨_, rfl⟩
      rw [hz] at HCK hd
      have h0' : (z != 0) = true := by simpa using hd
      have HCK := Lib.hid HCK
      clear hz hd
      go_enter Try.func6, Try.ntmps6
      go_wp2_with fail
      refine HCK.out.mono ?_
      rintro e w0 ⟨rfl, rfl⟩
      have hC1 := awake_any w
      have HC1 := Lib.hid hC1
      clear hC1
      go_wp2_with fail
      refine HC1.out.mono ?_
      rintro e w1 ⟨rfl, b1⟩
      have HB1 := Lib.hid (HB0.out.trans (b1.mono HB0.out.size))
      clear b1
      go_wp2
      go_ret
      exact ⟨rfl, HB1.out⟩

end Go.Proofs.Ytmgadcfiaipimaa
