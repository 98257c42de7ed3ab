/-
  What the reference's Check returns.
-/
import Derived.Test.YtmgadcfiaipimaaDqChk
namespace Go.Proofs.Ytmgadcfiaipimaa
open Go.RowKit

set_option maxRecDepth 100000 in
set_option maxHeartbeats 2000000 in
/-- The reference's Check. -/
theorem rCheck_q (v : Value) (l : List Int) (w : World) (hK : KZ w v l) :
    Calls Try.prog 22 #[v] w fun e w' => e = .returned (.int .i64 (dqE l)) ∧ ∃ q, w' = w.drewN q := by
  obtain ⟨ad, cap, rfl, hc1, hc2, hA⟩ := hK
  by_cases hg : 16 < l.length
  · have hr : dqE l = 4 := by unfold dqE; rw [if_pos hg]
    rw [hr]
    have hgI : (16 : Int) < (l.length : Int) := by omega
    clear hA hr
    go_enter Try.func22, Try.ntmps22
    go_wp2
    go_ret
    exact ⟨rfl, 0, rfl⟩
  · have HR : Hid (dqE l = fsE l l.length) := Lib.hid (by unfold dqE; rw [if_neg hg])
    have hgI : ¬ (16 : Int) < (l.length : Int) := by omega
    have HA := Lib.hid hA
    clear hA
    go_enter Try.func22, Try.ntmps22
    go_wp2
    go_loopw [3] (fun i wr => ∃ k q : Nat, k ≤ l.length ∧ i = .int .i64 k ∧ wr = w.drewN q ∧ Hid (fsE l k = 0)) (fun i _ => l.length - (intOf i).toNat)
    case atStart => exact ⟨0, 0, Nat.zero_le _, rfl, rfl, Lib.hid rfl⟩
    case round =>
      obtain ⟨k, q, hk, rfl, hwr, HF⟩ := hrel
      have HW := Lib.hid hwr
      have hAW : IntsA w.heap.size wr ad l := by rw [hwr]; exact HA.out
      have HAW := Lib.hid hAW
      have HBS : Hid (w.heap.size ≤ wr.heap.size) := Lib.hid (by rw [hwr]; exact Nat.le_refl _)
      clear hwr hAW
      by_cases hlt : k < l.length
      · have k1 : (k : Int) < (l.length : Int) := by omega
        obtain ⟨bk, off, rfl, hb, c0⟩ := HAW.out k hlt
        have hsl := headZ k (some ⟨bk, off, none⟩) l.length cap (by omega)
        have hCN : ∀ q', Calls Try.prog 29 #[.slice (some ⟨bk, off, none⟩) k cap, .int .i64 (l[k]?.getD 0)] (wr.drewN q') fun e w' => e = .returned (.bool (hasZ (l.take k) (l[k]?.getD 0))) ∧ ∃ r, w' = (wr.drewN q').drewN r := fun q' =>
          (rHas_any (.slice (some ⟨bk, off, none⟩) k cap) (l.take k) (l[k]?.getD 0) (wr.drewN q') ⟨some ⟨bk, off, none⟩, cap, by rw [List.length_take, Nat.min_eq_left (by omega)], IntsA.mono HBS.out <| show IntsA w.heap.size wr _ _ from intsA_take HAW.out k, by rw [List.length_take]; omega⟩ (by rw [List.length_take]; omega)).mono (by
            rintro e w' ⟨rfl, rfl⟩
            exact ⟨rfl, 0, rfl⟩)
        obtain ⟨x, hx⟩ : ∃ x, l[k]?.getD 0 = x := ⟨_, rfl⟩
        have hgx : gz l k = x := hx
        simp only [hx] at c0 hCN
        by_cases h1 : x < 0
        · have HE : Hid (dqE l = 2) := Lib.hid (by rw [HR.out]; exact fsE_end HF.out (by rw [hgx]; unfold dnE; rw [if_pos (.inl h1)]) (by decide) hlt)
          clear hx hgx hCN
          go_wp2
          go_ret
          exact ⟨by rw [HE.out]; rfl, q, HW.out⟩
        · by_cases h2 : 16 ≤ x
          · have HE : Hid (dqE l = 2) := Lib.hid (by rw [HR.out]; exact fsE_end HF.out (by rw [hgx]; unfold dnE; rw [if_pos (.inr h2)]) (by decide) hlt)
            clear hx hgx hCN
            go_wp2
            go_ret
            exact ⟨by rw [HE.out]; rfl, q, HW.out⟩
          · by_cases h3 : x ∈ l.take k
            · have HE : Hid (dqE l = 6) := Lib.hid (by rw [HR.out]; exact fsE_end HF.out (by rw [hgx]; unfold dnE; rw [if_neg (by omega), if_pos h3]) (by decide) hlt)
              have hz : hasZ (l.take k) x = true := by unfold hasZ; exact decide_eq_true h3
              rw [hz] at hCN
              have HC := Lib.hid hCN
              clear hx hgx hCN h3 hz
              go_wp2_with fail
              go_quiet ((go_at_call 29; exact Calls.quiet_of (HC.out _)))
              go_wp2
              go_ret
              exact ⟨by rw [HE.out]; rfl, _, by rw [HW.out]; exact World.drewN_drewN _ _ _⟩
            · have HF' : Hid (fsE l (k + 1) = 0) := Lib.hid (by rw [fsE_step HF.out, hgx]; unfold dnE; rw [if_neg (by omega), if_neg h3])
              have hz : hasZ (l.take k) x = false := by unfold hasZ; exact decide_eq_false h3
              rw [hz] at hCN
              have HC := Lib.hid hCN
              clear hx hgx hCN h3 hz
              go_wp2_with fail
              go_quiet ((go_at_call 29; exact Calls.quiet_of (HC.out _)))
              go_wp2
              go_roundw
              case rel => exact ⟨k + 1, _, by omega, by go_num, by rw [HW.out]; exact World.drewN_drewN _ _ _, HF'⟩
              case measure => simp [intOf]; omega
      · obtain rfl : k = l.length := by omega
        have HE : Hid (dqE l = 0) := Lib.hid (by rw [HR.out, HF.out])
        go_wp2
        go_ret
        exact ⟨by rw [HE.out]; rfl, _, HW.out⟩
theorem rCheck_any (v : Value) (l : List Int) (w : World) (hK : KZ w v l) :
    Calls Try.prog 22 #[v] w fun e w' => e = .returned (.int .i64 (dqE l)) ∧ Below w.heap.size w w' := by
  refine (rCheck_q v l w hK).mono ?_
  rintro e w' ⟨rfl, q, rfl⟩
  exact ⟨rfl, below_drewZ (Below.refl _ _)⟩

end Go.Proofs.Ytmgadcfiaipimaa
