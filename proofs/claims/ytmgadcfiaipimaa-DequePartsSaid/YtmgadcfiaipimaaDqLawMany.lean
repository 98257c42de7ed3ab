/-
  The walk of DequeMany.
-/
import Derived.Test.YtmgadcfiaipimaaDqAwake
import Derived.Test.YtmgadcfiaipimaaDqRPlay
import Derived.Test.YtmgadcfiaipimaaDqRow
namespace Go.Proofs.Ytmgadcfiaipimaa
open Go.RowKit

theorem ge_last (o : List (Int × Int)) (x : Int × Int) : ge (o ++ [x]) o.length = x := by
  unfold ge
  rw [List.getElem?_append_right (Nat.le_refl _), Nat.sub_self]
  rfl
theorem wf16 {n : Int} (h : (Lit.int .u16 n).wf = true) : 0 ≤ n ∧ n ≤ 65535 := by simpa [Lit.wf, IntKind.min, IntKind.max, IntKind.bits, IntKind.signed] using h
theorem wf8 {n : Int} (h : (Lit.int .u8 n).wf = true) : 0 ≤ n ∧ n ≤ 255 := by simpa [Lit.wf, IntKind.min, IntKind.max, IntKind.bits, IntKind.signed] using h
/-- The operation at a place. -/
def opM (f kd j : Nat) : Int × Int := if j % 2 = 0 then (1, (((f + j / 2) % 16 : Nat) : Int)) else (((2 + kd % 2 : Nat) : Int), 0)
def opsM (f kd n : Nat) : List (Int × Int) := (List.range n).map (opM f kd)
theorem opsM_length (f kd n : Nat) : (opsM f kd n).length = n := by simp [opsM]
theorem opsM_succ (f kd n : Nat) : opsM f kd (n + 1) = opsM f kd n ++ [opM f kd n] := by simp [opsM, List.range_succ]
/-- Behind so many operations there is no task, or one. -/
theorem many_pl (f kd n : Nat) : ∃ O t, plS [] (opsM f kd n) = ((if n % 2 = 0 then [] else [t]), O, 0) ∧ (0 ≤ t ∧ t < 16) := by
  induction n with
  | zero => exact ⟨[], 0, rfl, by decide, by decide⟩
  | succ n ih =>
    obtain ⟨O, t, h, ht⟩ := ih
    rw [opsM_succ, plS_snoc, h]
    have e : ∀ L : List Int, stp (L, O, 0) (opM f kd n) = opS L O (opM f kd n) := fun L => if_pos rfl
    rw [e]
    by_cases hn : n % 2 = 0
    · have hm : ¬ (n + 1) % 2 = 0 := by omega
      simp only [if_pos hn, if_neg hm]
      have h2 : opM f kd n = (1, (((f + n / 2) % 16 : Nat) : Int)) := if_pos hn
      have h3 : dnE [] (((f + n / 2) % 16 : Nat) : Int) = 0 := dnE_iff.2 ⟨by omega, by simp⟩
      rw [h2, opS_push h3]
      exact ⟨O, _, rfl, by omega, by omega⟩
    · have hm : (n + 1) % 2 = 0 := by omega
      simp only [if_neg hn, if_pos hm]
      have h2 : opM f kd n = (((2 + kd % 2 : Nat) : Int), 0) := if_neg hn
      have hd : dqE [t] = 0 := dqE_iff.2 ⟨by simp, by simpa using ht, by simp⟩
      have h4 : takeE [t] = 0 := takeE_iff.2 ⟨hd, by simp⟩
      rw [h2]
      rcases Nat.mod_two_eq_zero_or_one kd with h5 | h5
      · rw [show ((2 + kd % 2 : Nat) : Int) = 2 by rw [h5]; rfl, (opS_pop (L := [t]) (O := O) (t := 0)).resolve_right (fun h => h hd), if_neg (by simp), if_neg (by simp), show popQ [t] = [] from if_pos h4]
        exact ⟨_, t, rfl, ht⟩
      · rw [show ((2 + kd % 2 : Nat) : Int) = 3 by rw [h5]; rfl, (opS_steal (L := [t]) (O := O) (t := 0)).resolve_right (fun h => h hd), if_neg (by simp), if_neg (by simp), show stealQ [t] = [] from if_pos h4]
        exact ⟨_, t, rfl, ht⟩
theorem many_play (f kd n : Nat) : ∃ SL SO, (n ≤ 1000 ∧ playS [] (opsM f kd n) = (SL, SO, 0)) ∨ (1000 < n ∧ playS [] (opsM f kd n) = (SL, SO, 4)) := by
  by_cases h : n ≤ 1000
  · obtain ⟨O, t, h1, _⟩ := many_pl f kd n
    exact ⟨_, _, .inl ⟨h, by rw [playS_pl dqE_nil (by rw [opsM_length]; omega), h1]⟩⟩
  · exact ⟨_, _, .inr ⟨by omega, playS_long dqE_nil (by rw [opsM_length]; omega)⟩⟩

set_option maxRecDepth 100000 in
set_option maxHeartbeats 16000000 in
theorem dequeMany_walk (c f kd : Nat) (w : World) (hc : c ≤ 65535) (hf : f ≤ 255) (hkd : kd ≤ 255) :
    Calls Try.prog 5 #[.int .u16 (c : Int), .int .u8 (f : Int), .int .u8 (kd : Int)] w fun e w' => e = .returned (.bool true) ∧ Below w.heap.size w w' := by
  have HB0 : Hid (Below w.heap.size w w) := Lib.hid (Below.refl _ w)
  obtain ⟨N, hN⟩ : ∃ N, c % 1004 = N := ⟨_, rfl⟩
  have hN1 : N ≤ 1003 := by omega
  have q1 : IntKind.i64.wrap (c : Int) = (c : Int) := IntWalk.i64_in _ (by omega)
  have q2 : (c : Int).tmod 1004 = (N : Int) := by rw [Int.tmod_eq_emod_of_nonneg (by omega)]; omega
  have q3 : IntKind.i64.wrap (N : Int) = (N : Int) := IntWalk.i64_in _ (by omega)
  clear hN
  go_enter Try.func5, Try.ntmps5
  go_wp2
  go_loopw [7, 18] (fun x i wr => ∃ (k : Nat) (v : Value), k ≤ N ∧ i = .int .i64 k ∧ v = x ∧ Hid (OwnE w.heap.size (opsM f kd k) v wr) ∧ Hid (Below w.heap.size w wr)) (fun _ i _ => N - (intOf i).toNat)
  case atStart => exact ⟨0, _, Nat.zero_le _, rfl, rfl, Lib.hid (OwnE.nil _ _), HB0⟩
  case round =>
    obtain ⟨k, v, hk, rfl, rfl, HO, HB⟩ := hrel
    clear q1 q2 q3
    by_cases hlt : k < N
    · have k1 : (k : Int) < (N : Int) := by omega
      obtain ⟨hv, hhv⟩ : ∃ m, k / 2 = m := ⟨_, rfl⟩
      obtain ⟨t, ht⟩ : ∃ m, (f + k / 2) % 16 = m := ⟨_, rfl⟩
      obtain ⟨r, hr⟩ : ∃ m, k % 2 = m := ⟨_, rfl⟩
      obtain ⟨kr, hkr⟩ : ∃ m, kd % 2 = m := ⟨_, rfl⟩
      have p1 : IntKind.i64.wrap (f : Int) = (f : Int) := IntWalk.i64_in _ (by omega)
      have p2 : (k : Int).tdiv 2 = (hv : Int) := by rw [Int.tdiv_eq_ediv_of_nonneg (by omega)]; omega
      have p3 : IntKind.i64.wrap (hv : Int) = (hv : Int) := IntWalk.i64_in _ (by omega)
      have p4 : IntKind.i64.wrap ((f : Int) + (hv : Int)) = (f : Int) + (hv : Int) := IntWalk.i64_in _ (by omega)
      have p5 : ((f : Int) + (hv : Int)).tmod 16 = (t : Int) := by rw [Int.tmod_eq_emod_of_nonneg (by omega)]; omega
      have p6 : IntKind.i64.wrap (t : Int) = (t : Int) := IntWalk.i64_in _ (by omega)
      have p7 : (k : Int).tmod 2 = (r : Int) := by rw [Int.tmod_eq_emod_of_nonneg (by omega)]; omega
      have p8 : IntKind.i64.wrap (r : Int) = (r : Int) := IntWalk.i64_in _ (by omega)
      obtain ⟨W1, hW1⟩ : ∃ W, wr.alloc (.cells #[.int .i64 1, .int .i64 (t : Int)] TE) = W := ⟨_, rfl⟩
      have hb1 : Below wr.heap.size wr W1 := by rw [← hW1]; exact (Below.refl _ _).alloc (Nat.le_refl _) _
      have hm1 : W1.heap[wr.heap.size]? = some (.cells #[.int .i64 1, .int .i64 (t : Int)] TE) := by rw [← hW1]; exact World.alloc_heap_new _ _
      obtain ⟨v2, W2, hr2, ho2, hb2⟩ := append_oneE W1 w.heap.size v (opsM f kd k) (1, (t : Int)) wr.heap.size (HO.out.below hb1) hm1 (by rw [opsM_length]; omega) (Nat.le_trans HB.out.size hb1.size)
      have HB2 := Lib.hid ((HB.out.trans (hb1.mono HB.out.size)).trans hb2)
      have HO2 := Lib.hid ho2
      have hr2' : ∀ ty, ty = 34 → (Builtin.append_ #[34, 34] ty #[v, .slice (some ⟨wr.heap.size, 0, none⟩) 1 1]).run Try.prog (wr.alloc (.cells #[.int .i64 1, .int .i64 (t : Int)] TE)) = .ok v2 W2 := by
        rintro ty rfl
        rw [hW1]
        exact hr2
      have HR2 := Lib.hid (hr2' _ rfl)
      have HE : Hid (r = 0 → opsM f kd (k + 1) = opsM f kd k ++ [(1, (t : Int))]) := Lib.hid (fun h => by rw [opsM_succ, show opM f kd k = _ from if_pos (by omega), ht])
      have HF : Hid (r = 1 → opsM f kd (k + 1) = opsM f kd k ++ [(((2 + kr : Nat) : Int), 0)]) := Lib.hid (fun h => by rw [opsM_succ, show opM f kd k = _ from if_neg (by omega), hkr])
      have hr01 : r = 0 ∨ r = 1 := by omega
      have hkr1 : kr ≤ 1 := by omega
      have HKR : Hid ((kd : Int).tmod 2 = (kr : Int)) := Lib.hid (by rw [Int.tmod_eq_emod_of_nonneg (by omega)]; omega)
      clear hr2 hr2' ho2 hb2 hb1 hm1 hhv ht hr hkr hW1
      rcases hr01 with rfl | rfl
      · have HO3 : Hid (OwnE w.heap.size (opsM f kd (k + 1)) v2 W2) := Lib.hid (by rw [HE.out rfl]; exact HO2.out)
        go_wp2_with (at_builtin; refine append_by_run _ rfl _ _ 34 rfl _ _ rfl rfl _ _ HR2.out ?_)
        go_roundw
        case rel => exact ⟨k + 1, v2, by omega, by go_num, rfl, HO3, HB2⟩
        case measure => simp [intOf]; omega
      · have hn := opsM_length f kd k
        have hr3 : W2.ownsRow w.heap.size TE 2 v2 (k + 1) (edV (opsM f kd k ++ [(1, (t : Int))])) := by
          have := HO2.out
          unfold OwnE at this
          rwa [List.length_append, List.length_singleton, hn] at this
        obtain ⟨g, cap, rfl, hg⟩ := ownZ_some hr3 (by omega)
        have hge := ge_last (opsM f kd k) (1, (t : Int))
        rw [hn] at hge
        have x0 : W2.cell? ⟨g, k * 2, none⟩ = some (.int .i64 1) := by
          rw [World.ownsRow.cellAt hr3 (k * 2) (by omega)]
          have := (edV_get (opsM f kd k ++ [(1, (t : Int))]) k (by simp [hn])).1
          rw [this, hge]
        have x1 : W2.cell? ⟨g, k * 2 + 1, none⟩ = some (.int .i64 (t : Int)) := by
          rw [World.ownsRow.cellAt hr3 (k * 2 + 1) (by omega)]
          have := (edV_get (opsM f kd k ++ [(1, (t : Int))]) k (by simp [hn])).2
          rw [this, hge]
        have z0 : W2.frozen? ⟨g, k * 2, none⟩ = false := World.ownsRow.frozenAt hr3 _
        have z1 : W2.frozen? ⟨g, k * 2 + 1, none⟩ = false := World.ownsRow.frozenAt hr3 _
        have hst := ownE_store HO2.out (n := k + 1) (by rw [hn]) ((2 + kr : Nat) : Int) 0
        rw [hn] at hst
        have HO3 : Hid (OwnE w.heap.size (opsM f kd (k + 1)) (.slice (some ⟨g, 0, none⟩) (k + 1) cap) ((W2.setCell ⟨g, k * 2, none⟩ (.int .i64 ((2 + kr : Nat) : Int))).setCell ⟨g, k * 2 + 1, none⟩ (.int .i64 0))) := Lib.hid (by rw [HF.out rfl]; exact hst)
        have HB3 : Hid (Below w.heap.size w ((W2.setCell ⟨g, k * 2, none⟩ (.int .i64 ((2 + kr : Nat) : Int))).setCell ⟨g, k * 2 + 1, none⟩ (.int .i64 0))) := Lib.hid ((HB2.out.setCell hg _).setCell hg _)
        have p9 : IntKind.i64.wrap (kd : Int) = (kd : Int) := IntWalk.i64_in _ (by omega)
        have p10 := HKR.out
        have p11 : IntKind.i64.wrap (kr : Int) = (kr : Int) := IntWalk.i64_in _ (by omega)
        have p12 : (2 : Int) + (kr : Int) = ((2 + kr : Nat) : Int) := by omega
        have p13 : IntKind.i64.wrap ((2 + kr : Nat) : Int) = ((2 + kr : Nat) : Int) := IntWalk.i64_in _ (by omega)
        obtain ⟨fk, hfk⟩ : ∃ z, ((2 + kr : Nat) : Int) = z := ⟨_, rfl⟩
        rw [hfk] at p12 p13 HO3 HB3
        have k2 : (k : Int) < ((k + 1 : Nat) : Int) := by omega
        have k3 : (0 : Int) ≤ (k : Int) := by omega
        clear hr3 hst hn hfk hge HE HF
        go_wp2_with (at_builtin; refine append_by_run _ rfl _ _ 34 rfl _ _ rfl rfl _ _ HR2.out ?_)
        go_roundw
        case rel => exact ⟨k + 1, _, by omega, by go_num, rfl, HO3, HB3⟩
        case measure => simp [intOf]; omega
    · obtain rfl : k = N := by omega
      obtain ⟨SL, SO, hSS⟩ := many_play f kd k
      have hOL := opsM_length f kd k
      have HKE := Lib.hid HO.out.known
      obtain ⟨ax, cx, rfl, hx1, hx2⟩ := ownZ_slice (show wr.ownsRow w.heap.size TE 2 v (opsM f kd k).length (edV (opsM f kd k)) from HO.out)
      have HP := Lib.hid (play_any (.slice none 0 0) _ [] (opsM f kd k) wr (KzC.nil _ _ _ _ (by decide)) HKE.out)
      have HQ := Lib.hid (fun (W : World) (hW : KE W (.slice ax (opsM f kd k).length cx) (opsM f kd k)) => rPlay_any (.slice none 0 0) _ [] (opsM f kd k) W (KzC.nil _ _ _ _ (by decide)) hW)
      unfold RetP at HP
      rw [hOL] at HP HKE hx1 ⊢
      simp only [hOL] at HQ
      rcases hSS with ⟨hle, hS⟩ | ⟨hgt, hS⟩
      · rw [hS] at HP
        simp only [hS] at HQ
        have hleI : (k : Int) ≤ 1000 := by omega
        clear hS hle hOL HO hx1
        go_wp2_with fail
        refine HP.out.mono ?_
        rintro e w1 ⟨ua, ux, rfl, ka, kx, b1⟩
        have HB1 := Lib.hid (HB.out.trans (b1.mono HB.out.size))
        have KA := Lib.hid ka.kz
        have KX := Lib.hid kx.kz
        have HQ1 := Lib.hid (HQ.out w1 (KE.below HKE.out b1))
        clear ka kx b1
        go_wp2_with fail
        refine HQ1.out.mono ?_
        rintro e w2 ⟨ub, uy, rfl, kb, ky, b2⟩
        have HB2 := Lib.hid (HB1.out.trans (b2.mono HB1.out.size))
        have KA2 := Lib.hid (KZ.below KA.out b2)
        have KX2 := Lib.hid (KZ.below KX.out b2)
        have KB2 := Lib.hid kb
        have KY2 := Lib.hid ky
        clear kb ky b2
        have hC3 := same_yes _ _ SL w2 KA2.out KB2.out
        have HC3 := Lib.hid hC3
        clear hC3
        go_wp2_with fail
        refine HC3.out.mono ?_
        rintro e w3 ⟨rfl, b3⟩
        have HB3 := Lib.hid (HB2.out.trans (b3.mono HB2.out.size))
        have Ka_3 := Lib.hid (KZ.below KA2.out b3)
        have Kx_3 := Lib.hid (KZ.below KX2.out b3)
        have Kb_3 := Lib.hid (KZ.below KB2.out b3)
        have Ky_3 := Lib.hid (KZ.below KY2.out b3)
        clear b3
        have hC4 := same_yes _ _ SO w3 Kx_3.out Ky_3.out
        have HC4 := Lib.hid hC4
        clear hC4
        go_wp2_with fail
        refine HC4.out.mono ?_
        rintro e w4 ⟨rfl, b4⟩
        have HB4 := Lib.hid (HB3.out.trans (b4.mono HB3.out.size))
        have Kx_4 := Lib.hid (KZ.below Kx_3.out b4)
        have Ky_4 := Lib.hid (KZ.below Ky_3.out b4)
        clear b4
        have hC5 := awake_any w4
        have HC5 := Lib.hid hC5
        clear hC5
        go_wp2_with fail
        refine HC5.out.mono ?_
        rintro e w5 ⟨rfl, b5⟩
        have HB5 := Lib.hid (HB4.out.trans (b5.mono HB4.out.size))
        clear b5
        go_wp2
        go_ret
        exact ⟨rfl, HB5.out⟩
      · rw [hS] at HP
        simp only [hS] at HQ
        have hleI : ¬ (k : Int) ≤ 1000 := by omega
        have HLE := Lib.hid (decide_eq_false hleI)
        clear hS hgt hOL HO hx1
        go_wp2_with fail
        refine HP.out.mono ?_
        rintro e w1 ⟨ua, ux, rfl, ka, kx, b1⟩
        have HB1 := Lib.hid (HB.out.trans (b1.mono HB.out.size))
        have KA := Lib.hid ka.kz
        have KX := Lib.hid kx.kz
        have HQ1 := Lib.hid (HQ.out w1 (KE.below HKE.out b1))
        clear ka kx b1
        go_wp2_with fail
        refine HQ1.out.mono ?_
        rintro e w2 ⟨ub, uy, rfl, kb, ky, b2⟩
        have HB2 := Lib.hid (HB1.out.trans (b2.mono HB1.out.size))
        have KA2 := Lib.hid (KZ.below KA.out b2)
        have KX2 := Lib.hid (KZ.below KX.out b2)
        have KB2 := Lib.hid kb
        have KY2 := Lib.hid ky
        clear kb ky b2
        have hC3 := same_yes _ _ SL w2 KA2.out KB2.out
        have HC3 := Lib.hid hC3
        clear hC3
        go_wp2_with fail
        refine HC3.out.mono ?_
        rintro e w3 ⟨rfl, b3⟩
        have HB3 := Lib.hid (HB2.out.trans (b3.mono HB2.out.size))
        have Ka_3 := Lib.hid (KZ.below KA2.out b3)
        have Kx_3 := Lib.hid (KZ.below KX2.out b3)
        have Kb_3 := Lib.hid (KZ.below KB2.out b3)
        have Ky_3 := Lib.hid (KZ.below KY2.out b3)
        clear b3
        have hC4 := same_yes _ _ SO w3 Kx_3.out Ky_3.out
        have HC4 := Lib.hid hC4
        clear hC4
        go_wp2_with fail
        refine HC4.out.mono ?_
        rintro e w4 ⟨rfl, b4⟩
        have HB4 := Lib.hid (HB3.out.trans (b4.mono HB3.out.size))
        have Kx_4 := Lib.hid (KZ.below Kx_3.out b4)
        have Ky_4 := Lib.hid (KZ.below Ky_3.out b4)
        clear b4
        have hC5 := awake_any w4
        have HC5 := Lib.hid hC5
        clear hC5
        go_wp2_with fail
        refine HC5.out.mono ?_
        rintro e w5 ⟨rfl, b5⟩
        have HB5 := Lib.hid (HB4.out.trans (b5.mono HB4.out.size))
        clear b5
        go_wp2
        go_ret
        exact ⟨by change Ending.returned (Value.bool (!decide ((k : Int) ≤ 1000))) = _; rw [HLE.out]; rfl, HB5.out⟩

end Go.Proofs.Ytmgadcfiaipimaa
