/-
  What the reference's Compare returns, for any two slices of ints.
-/
import Derived.Test.YtdnjjppidolnbaaOrder
import Derived.Test.YtdnjjppidolnbaaSame
namespace Go.Proofs.Ytdnjjppidolnbaa
open Go.RowKit

theorem drop_consZ (zs : List Int) (k : Nat) (h : k < zs.length) : zs.drop k = zs[k]?.getD 0 :: zs.drop (k + 1) := by
  rw [List.drop_eq_getElem_cons h]; simp [h]

set_option maxRecDepth 100000 in
set_option maxHeartbeats 2000000 in
theorem compare_any (n m : Nat) (a b : Option Addr) (c d : Nat) (za zb : List Int) (w : World) (ha : IntsA n w a za) (hb : IntsA m w b zb) (hla : za.length ≤ 9223372036854775807) (hlb : zb.length ≤ 9223372036854775807) :
    Calls Try.prog 30 #[.slice a za.length c, .slice b zb.length d] w fun e w' => e = .returned (.int .i64 (cmpZ za zb)) ∧ Below w.heap.size w w' := by
  have HA := Lib.hid ha
  have HB := Lib.hid hb
  clear ha hb
  go_enter Try.func30, Try.ntmps30
  go_wp2
  go_loopw [5] (fun i wr => ∃ k q : Nat, k ≤ za.length ∧ k ≤ zb.length ∧ i = .int .i64 k ∧ wr = w.drewN q ∧ Hid (cmpZ (za.drop k) (zb.drop k) = cmpZ za zb)) (fun i _ => za.length - (intOf i).toNat)
  case atStart => exact ⟨0, 0, Nat.zero_le _, Nat.zero_le _, rfl, rfl, Lib.hid (by simp)⟩
  case round =>
    obtain ⟨k, q, hk, hk2, rfl, rfl, HK⟩ := hrel
    by_cases h1 : k < za.length
    · by_cases h2 : k < zb.length
      · obtain ⟨b1, o1, rfl, _, hc1⟩ := HA.out.some_ (by omega)
        obtain ⟨b2, o2, rfl, _, hc2⟩ := HB.out.some_ (by omega)
        have x1 : w.cell? ⟨b1, o1 + k, none⟩ = some (.int .i64 (za[k]?.getD 0)) := hc1 k h1
        have x2 : w.cell? ⟨b2, o2 + k, none⟩ = some (.int .i64 (zb[k]?.getD 0)) := hc2 k h2
        have hd1 := drop_consZ za k h1
        have hd2 := drop_consZ zb k h2
        obtain ⟨x, hx⟩ : ∃ x, za[k]?.getD 0 = x := ⟨_, rfl⟩
        obtain ⟨y, hy⟩ : ∃ y, zb[k]?.getD 0 = y := ⟨_, rfl⟩
        rw [hx] at x1 hd1
        rw [hy] at x2 hd2
        have HS : Hid (cmpZ za zb = if x < y then -1 else if y < x then 1 else cmpZ (za.drop (k + 1)) (zb.drop (k + 1))) := Lib.hid (by rw [← HK.out, hd1, hd2, cmpZ])
        have hkI : (k : Int) < (za.length : Int) := by omega
        have hkJ : (k : Int) < (zb.length : Int) := by omega
        have hk0 : (0 : Int) ≤ (k : Int) := by omega
        clear hx hy hd1 hd2 hc1 hc2
        by_cases hxy : x < y
        · have HT := Lib.hid (show cmpZ za zb = -1 by rw [HS.out, if_pos hxy])
          have hb1 : decide (x < y) = true := by simp [hxy]
          clear hxy
          go_wp2
          go_quiet (fail)
          go_wp2
          go_ret
          rw [HT.out]
          exact ⟨rfl, below_drewN (below_drewN (Below.refl _ w) _) _⟩
        · have hb1 : decide (x < y) = false := by simp only [hxy, decide_false]
          by_cases hyx : y < x
          · have HT := Lib.hid (show cmpZ za zb = 1 by rw [HS.out, if_neg hxy, if_pos hyx])
            have hb2 : decide (y < x) = true := by simp only [hyx, decide_true]
            clear hxy hyx
            go_wp2
            go_quiet (fail)
            go_wp2
            go_quiet (fail)
            go_wp2
            go_ret
            rw [HT.out]
            exact ⟨rfl, below_drewN (below_drewN (below_drewN (Below.refl _ w) _) _) _⟩
          · have HT := Lib.hid (show cmpZ (za.drop (k + 1)) (zb.drop (k + 1)) = cmpZ za zb by rw [HS.out, if_neg hxy, if_neg hyx])
            have hb2 : decide (y < x) = false := by simp only [hyx, decide_false]
            clear hxy hyx
            go_wp2
            go_quiet (fail)
            go_wp2
            go_quiet (fail)
            go_wp2
            go_roundw
            case rel => exact ⟨k + 1, _, by omega, by omega, by go_num, rfl, Lib.hid HT.out⟩
            case measure => simp [intOf]; omega
      · have hkI : (k : Int) < (za.length : Int) := by omega
        have hkJ : ¬ (k : Int) < (zb.length : Int) := by omega
        have hll : (zb.length : Int) < (za.length : Int) := by omega
        have HF : Hid (cmpZ za zb = 1) := Lib.hid (by rw [← HK.out, drop_consZ za k h1, show zb.drop k = [] from List.drop_of_length_le (by omega)]; rfl)
        go_wp2
        go_ret
        rw [HF.out]
        exact ⟨rfl, below_drewN (Below.refl _ w) _⟩
    · have hkI : ¬ (k : Int) < (za.length : Int) := by omega
      by_cases h2 : k < zb.length
      · have hll : (za.length : Int) < (zb.length : Int) := by omega
        have HF : Hid (cmpZ za zb = -1) := Lib.hid (by rw [← HK.out, drop_consZ zb k h2, show za.drop k = [] from List.drop_of_length_le (by omega)]; rfl)
        go_wp2
        go_ret
        rw [HF.out]
        exact ⟨rfl, below_drewN (Below.refl _ w) _⟩
      · have hl1 : ¬ (za.length : Int) < (zb.length : Int) := by omega
        have hl2 : ¬ (zb.length : Int) < (za.length : Int) := by omega
        have HF : Hid (cmpZ za zb = 0) := Lib.hid (by rw [← HK.out, show za.drop k = [] from List.drop_of_length_le (by omega), show zb.drop k = [] from List.drop_of_length_le (by omega)]; rfl)
        go_wp2
        go_ret
        rw [HF.out]
        exact ⟨rfl, below_drewN (Below.refl _ w) _⟩

end Go.Proofs.Ytdnjjppidolnbaa
