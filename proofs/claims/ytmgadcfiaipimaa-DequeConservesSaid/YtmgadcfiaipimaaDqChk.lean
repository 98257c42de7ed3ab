/-
  What Check and its parts return: the program's and the reference's.
-/
import Derived.Test.YtmgadcfiaipimaaDqSeq
namespace Go.Proofs.Ytmgadcfiaipimaa
open Go.RowKit

set_option maxRecDepth 100000 in
set_option maxHeartbeats 1000000 in
theorem checkNew_any (v : Value) (o : List Int) (x : Int) (w : World) (hK : KlC w v o) (hl : o.length ≤ 1000) :
    Calls Try.prog 28 #[v, .int .i64 x] w fun e w' => e = .returned (.int .i64 (dnE o x)) ∧ w = w' := by
  have HC := zContains_any v o x w hK hl
  clear hK
  by_cases h1 : x < 0
  · have hr : dnE o x = 2 := by unfold dnE; rw [if_pos (.inl h1)]
    rw [hr]
    clear hr HC
    go_enter Try.func28, Try.ntmps28
    go_wp2
    go_ret
    exact ⟨rfl, rfl⟩
  · by_cases h2 : 16 ≤ x
    · have hr : dnE o x = 2 := by unfold dnE; rw [if_pos (.inr h2)]
      rw [hr]
      clear hr HC
      go_enter Try.func28, Try.ntmps28
      go_wp2
      go_ret
      exact ⟨rfl, rfl⟩
    · by_cases h3 : x ∈ o
      · have hr : dnE o x = 6 := by unfold dnE; rw [if_neg (by omega), if_pos h3]
        have hz : hasZ o x = true := by unfold hasZ; exact decide_eq_true h3
        rw [hz] at HC
        rw [hr]
        have HC := Lib.hid HC
        clear hr h3 hz
        go_enter Try.func28, Try.ntmps28
        go_wp2_with fail
        refine HC.out.mono ?_
        rintro e w1 ⟨rfl, rfl⟩
        go_wp2
        go_ret
        exact ⟨rfl, rfl⟩
      · have hr : dnE o x = 0 := by unfold dnE; rw [if_neg (by omega), if_neg h3]
        have hz : hasZ o x = false := by unfold hasZ; exact decide_eq_false h3
        rw [hz] at HC
        rw [hr]
        have HC := Lib.hid HC
        clear hr h3 hz
        go_enter Try.func28, Try.ntmps28
        go_wp2_with fail
        refine HC.out.mono ?_
        rintro e w1 ⟨rfl, rfl⟩
        go_wp2
        go_ret
        exact ⟨rfl, rfl⟩

set_option maxRecDepth 100000 in
set_option maxHeartbeats 1000000 in
/-- Check. -/
theorem check_any (v : Value) (l : List Int) (w : World) (hK : KZ w v l) :
    Calls Try.prog 21 #[v] w fun e w' => e = .returned (.int .i64 (dqE l)) ∧ w = w' := by
  obtain ⟨ad, cap, rfl, hc1, hc2, hA⟩ := hK
  by_cases hg : 16 < l.length
  · have hr : dqE l = 4 := by unfold dqE; rw [if_pos hg]
    rw [hr]
    have hgI : (16 : Int) < (l.length : Int) := by omega
    clear hA hr
    go_enter Try.func21, Try.ntmps21
    go_wp2
    go_ret
    exact ⟨rfl, rfl⟩
  · have HR : Hid (dqE l = fsE l l.length) := Lib.hid (by unfold dqE; rw [if_neg hg])
    have hgI : ¬ (16 : Int) < (l.length : Int) := by omega
    have HA := Lib.hid hA
    clear hA
    go_enter Try.func21, Try.ntmps21
    go_wp2
    go_loopw [11] (fun i wr => ∃ k : Nat, k ≤ l.length ∧ i = .int .i64 k ∧ w = wr ∧ Hid (fsE l k = 0)) (fun i _ => l.length - (intOf i).toNat)
    case atStart => exact ⟨0, Nat.zero_le _, rfl, rfl, Lib.hid rfl⟩
    case round =>
      obtain ⟨k, hk, rfl, rfl, HF⟩ := hrel
      by_cases hlt : k < l.length
      · have k1 : (k : Int) < (l.length : Int) := by omega
        obtain ⟨bk, off, rfl, hb, c0⟩ := HA.out k hlt
        have hsl := headZ k (some ⟨bk, off, none⟩) l.length cap (by omega)
        have hCN := checkNew_any (.slice (some ⟨bk, off, none⟩) k cap) (l.take k) (l[k]?.getD 0) w ⟨some ⟨bk, off, none⟩, cap, by rw [List.length_take, Nat.min_eq_left (by omega)], intsA_take HA.out k, by rw [List.length_take]; omega⟩ (by rw [List.length_take]; omega)
        obtain ⟨x, hx⟩ : ∃ x, l[k]?.getD 0 = x := ⟨_, rfl⟩
        have hgx : gz l k = x := hx
        rw [hx] at c0 hCN
        obtain ⟨z, hz⟩ : ∃ z, dnE (l.take k) x = z := ⟨_, rfl⟩
        rw [hz] at hCN
        by_cases h0 : z = 0
        · have HF' : Hid (fsE l (k + 1) = 0) := Lib.hid (by rw [fsE_step HF.out, hgx, hz, h0])
          subst h0
          have HCN := Lib.hid hCN
          clear hx hgx hz hCN
          go_wp2_with fail
          refine HCN.out.mono ?_
          rintro e w1 ⟨rfl, rfl⟩
          go_wp2
          go_roundw
          case rel => exact ⟨k + 1, by omega, by go_num, by trivial, HF'⟩
          case measure => simp [intOf]; omega
        · have HE : Hid (dqE l = z) := Lib.hid (by rw [HR.out]; exact fsE_end HF.out (by rw [hgx, hz]) h0 hlt)
          have h0' : (z != 0) = true := by simpa using h0
          have HCN := Lib.hid hCN
          clear hx hgx hz hCN
          go_wp2_with fail
          refine HCN.out.mono ?_
          rintro e w1 ⟨rfl, rfl⟩
          go_wp2
          go_ret
          exact ⟨by rw [HE.out]; rfl, rfl⟩
      · obtain rfl : k = l.length := by omega
        have HE : Hid (dqE l = 0) := Lib.hid (by rw [HR.out, HF.out])
        go_wp2
        go_ret
        exact ⟨by rw [HE.out]; rfl, rfl⟩

set_option maxRecDepth 100000 in
/-- Why no task can be taken. -/
theorem checkSome_any (v : Value) (l : List Int) (w : World) (hK : KZ w v l) :
    Calls Try.prog 30 #[v] w fun e w' => e = .returned (.int .i64 (takeE l)) ∧ w = w' := by
  have HC := check_any v l w hK
  obtain ⟨ad, cap, rfl, hc1, hc2, hA⟩ := hK
  clear hA
  by_cases h : dqE l = 0
  · rw [h] at HC
    have HC := Lib.hid HC
    by_cases h0 : l = []
    · have hr : takeE l = 23 := by unfold takeE; rw [if_pos h, if_pos h0]
      rw [hr]
      clear hr h
      subst h0
      go_enter Try.func30, Try.ntmps30
      go_wp2_with fail
      refine HC.out.mono ?_
      rintro e w1 ⟨rfl, rfl⟩
      go_wp2
      go_ret
      exact ⟨rfl, rfl⟩
    · have hr : takeE l = 0 := by unfold takeE; rw [if_pos h, if_neg h0]
      rw [hr]
      have hn : ((l.length : Int) == 0) = false := by
        have := List.length_pos_iff.2 h0
        rw [beq_eq_false_iff_ne]
        omega
      clear hr h h0
      go_enter Try.func30, Try.ntmps30
      go_wp2_with fail
      refine HC.out.mono ?_
      rintro e w1 ⟨rfl, rfl⟩
      go_wp2
      go_ret
      exact ⟨rfl, rfl⟩
  · have hr : takeE l = dqE l := by unfold takeE; rw [if_neg h]
    rw [hr]
    obtain ⟨z, hz⟩ : ∃ z, dqE l = z := ⟨_, rfl⟩
    rw [hz] at HC h ⊢
    have h0' : (z != 0) = true := by simpa using h
    have HC := Lib.hid HC
    clear hr hz h
    go_enter Try.func30, Try.ntmps30
    go_wp2_with fail
    refine HC.out.mono ?_
    rintro e w1 ⟨rfl, rfl⟩
    go_wp2
    go_ret
    exact ⟨rfl, rfl⟩

/-! ### The reference's -/

set_option maxRecDepth 100000 in
set_option maxHeartbeats 1000000 in
theorem rHas_any (v : Value) (zs : List Int) (x : Int) (w : World) (hK : KlC w v zs) (hl : zs.length ≤ 1000) :
    Calls Try.prog 29 #[v, .int .i64 x] w fun e w' => e = .returned (.bool (hasZ zs x)) ∧ w = w' := by
  obtain ⟨ad, cap, rfl, hI, hl2⟩ := hK
  have HI := Lib.hid hI
  clear hI
  go_enter Try.func29, Try.ntmps29
  go_wp2
  go_loopw [5] (fun i wr => ∃ k : Nat, k ≤ zs.length ∧ i = .int .i64 k ∧ w = wr ∧ Hid (x ∈ zs ↔ x ∈ zs.drop k)) (fun i _ => zs.length - (intOf i).toNat)
  case atStart => exact ⟨0, Nat.zero_le _, rfl, rfl, Lib.hid (by simp)⟩
  case round =>
    obtain ⟨k, hk, rfl, rfl, HD⟩ := hrel
    by_cases hkt : k < zs.length
    · have k1 : (k : Int) < (zs.length : Int) := by omega
      obtain ⟨bk, off, rfl, hb, c0⟩ := HI.out k hkt
      have hd := zs_drop hkt
      obtain ⟨y, hy⟩ : ∃ y, zs[k]?.getD 0 = y := ⟨_, rfl⟩
      rw [hy] at c0 hd
      by_cases hxy : x = y
      · have hq : (y == x) = true := by simp [hxy]
        have HR : Hid (hasZ zs x = true) := Lib.hid (by unfold hasZ; rw [decide_eq_true_iff, HD.out, hd, hxy]; simp)
        clear hy hd hxy
        go_wp2
        go_ret
        exact ⟨by rw [HR.out]; rfl, rfl⟩
      · have hq : (y == x) = false := by simp [Ne.symm hxy]
        have HD' : Hid (x ∈ zs ↔ x ∈ zs.drop (k + 1)) := Lib.hid (by rw [HD.out, hd]; simp [hxy])
        clear hy hd hxy
        go_wp2
        go_roundw
        case rel => exact ⟨k + 1, by omega, by go_num, by trivial, HD'⟩
        case measure => simp [intOf]; omega
    · obtain rfl : k = zs.length := by omega
      have HR : Hid (hasZ zs x = false) := Lib.hid (by unfold hasZ; rw [decide_eq_false_iff_not, HD.out]; simp)
      go_wp2
      go_ret
      exact ⟨by rw [HR.out]; rfl, rfl⟩

end Go.Proofs.Ytmgadcfiaipimaa
