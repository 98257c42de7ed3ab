/-
  The results of New and Tick lie in blocks of their own.
-/
import Derived.Test.YtpkmdonejmbnoaaVcDevF
namespace Go.Proofs.Ytpkmdonejmbnoaa
open Go.RowKit

theorem RowZ.fresh {B G L : Nat} {f : Nat → Int} {w : World} (h : RowZ B G L f w) : KlF B w (.slice (some ⟨G, 0, none⟩) L L) (fnL L f) := by
  refine OwnZ.fresh (B := B) ?_
  unfold OwnZ
  rw [fnL_length]
  exact h
theorem vNewF (n : Int) (w : World) : Calls Try.prog 12 #[.int .i64 n] w (RetF (newL n) (newE n) w) := by
  by_cases h0 : n < 0
  · rw [show newL n = [] by unfold newL; rw [if_pos (.inl h0)], show newE n = 2 by unfold newE; rw [if_pos (.inl h0)]]
    go_enter Try.func12, Try.ntmps12
    go_wp2
    go_ret2
    exact ⟨_, rfl, KlF.nil _ _ _ _, Below.refl _ _⟩
  · by_cases h1 : 32 < n
    · rw [show newL n = [] by unfold newL; rw [if_pos (.inr h1)], show newE n = 2 by unfold newE; rw [if_pos (.inr h1)]]
      go_enter Try.func12, Try.ntmps12
      go_wp2
      go_ret2
      exact ⟨_, rfl, KlF.nil _ _ _ _, Below.refl _ _⟩
    · obtain ⟨N, rfl⟩ : ∃ N : Nat, n = (N : Int) := ⟨n.toNat, by omega⟩
      rw [show newL (N : Int) = fnL N (fun _ => 0) by unfold newL; rw [if_neg (by omega), Int.toNat_natCast], show newE (N : Int) = 0 by unfold newE; rw [if_neg (by omega)]]
      obtain ⟨i1, ji, jz0, jz1, jz2⟩ := info_parts infoZ
      go_enter Try.func12, Try.ntmps12
      go_wp2_with (at_make; refine wpList_make_full _ rfl (.tmp 10) (.tmp 10) 23 rfl w.heap.size TZ i1 (.int .i64 0) 1 Try.underlying23 ji jz0 jz1 .i64 .i64 _ _ N rfl rfl rfl rfl (by rw [jz2]; omega) (by unfold maxLen; omega) (Nat.le_refl _) ?_)
      intro w1 ho1 hg1
      rw [made_zeros] at ho1
      have HR1 : Hid (RowZ w.heap.size w.heap.size N (fun _ => 0) w1) := Lib.hid ho1
      have HB1 : Hid (Below w.heap.size w w1) := Lib.hid ((Below.refl _ w).grown hg1 (Nat.le_refl _) (fun j hj => by cases hj))
      clear ho1 hg1
      go_wp2
      go_ret2
      exact ⟨_, rfl, HR1.out.fresh, HB1.out⟩

theorem tick_endF {zs : List Int} {k : Nat} {B : Nat} {g cap : Nat} {w : World} (h : OwnZ B zs (.slice (some ⟨g, 0, none⟩) zs.length cap) w) (z : Int) : KlF B (w.setCell ⟨g, k, none⟩ (.int .i64 z)) (.slice (some ⟨g, 0, none⟩) zs.length cap) (zs.set k z) := by
  have h1 := (World.ownsRow.stored h k (.int .i64 z)).1
  rw [intV_set] at h1
  refine OwnZ.fresh (B := B) ?_
  unfold OwnZ
  rw [List.length_set]
  exact h1

theorem vTickF (ad : Option Addr) (cap : Nat) (zs : List Int) (i : Int) (w : World) (hI : IntsA w.heap.size w ad zs) (hl : zs.length ≤ 9223372036854775807) :
    Calls Try.prog 19 #[.slice ad zs.length cap, .int .i64 i] w (RetF (tickL zs i) (tickE zs i) w) := by
  have HC := vCheck_any w.heap.size ad cap zs w hI hl
  have HH := vHas_any ad zs.length cap i w
  by_cases hv : vcE zs = 0
  · rw [hv] at HC
    cases hb : inB zs.length i with
    | true =>
      obtain ⟨b1, b2⟩ := inB_iff.1 hb
      obtain ⟨k, rfl⟩ : ∃ k : Nat, i = (k : Int) := ⟨i.toNat, by omega⟩
      obtain ⟨hl32, hrng⟩ := vcE_iff.1 hv
      have hk : k < zs.length := by omega
      have hz := hrng k hk
      obtain ⟨b, off, rfl, hbb, q1⟩ := hI k hk
      change w.cell? ⟨b, off + k, none⟩ = some (.int .i64 (gz zs k)) at q1
      rw [hb] at HH
      have HC := Lib.hid HC
      have HH := Lib.hid HH
      by_cases hmax : gz zs k = 1099511627776
      · rw [show tickE zs (k : Int) = 14 by unfold tickE; rw [if_neg (by simp [hv]), hb, if_neg (by simp), Int.toNat_natCast, if_pos hmax], show tickL zs (k : Int) = [] by unfold tickL tickE; rw [if_neg (by simp [hv, hb, hmax])]]
        rw [hmax] at q1
        clear hI hv hb hrng hz hmax
        go_enter Try.func19, Try.ntmps19
        go_wp2_with fail
        refine HC.out.mono ?_
        rintro e w4 ⟨rfl, rfl⟩
        go_wp2_with fail
        refine HH.out.mono ?_
        rintro e w4 ⟨rfl, rfl⟩
        go_wp2
        go_ret2
        exact ⟨_, rfl, KlF.nil _ _ _ _, Below.refl _ _⟩
      · have ht0 : tickE zs (k : Int) = 0 := by unfold tickE; rw [if_neg (by simp [hv]), hb, if_neg (by simp), Int.toNat_natCast, if_neg hmax]
        rw [ht0, show tickL zs (k : Int) = zs.set k (gz zs k + 1) by unfold tickL; rw [if_pos ht0, Int.toNat_natCast]]
        have HCL := Lib.hid (vClone_any w.heap.size (some ⟨b, off, none⟩) cap zs w hI (by omega))
        obtain ⟨z, hzz⟩ : ∃ z, gz zs k = z := ⟨_, rfl⟩
        have HZ := Lib.hid hzz
        rw [hzz] at q1 hmax hz ⊢
        have hz1 : (z == 1099511627776) = false := by simpa using hmax
        have hz2 : IntKind.i64.wrap (z + 1) = z + 1 := IntWalk.i64_in _ (by omega)
        clear hI hv hb hrng hmax hzz ht0
        go_enter Try.func19, Try.ntmps19
        go_wp2_with fail
        refine HC.out.mono ?_
        rintro e w4 ⟨rfl, rfl⟩
        go_wp2_with fail
        refine HH.out.mono ?_
        rintro e w4 ⟨rfl, rfl⟩
        go_wp2_with fail
        refine HCL.out.mono ?_
        rintro e w4 ⟨v, rfl, ho, hb4⟩
        obtain ⟨g, c, rfl, hg⟩ := ownZ_some (show w4.ownsRow w.heap.size TZ 1 v zs.length (intV zs) from ho) (by omega)
        have r1 := ho.cell hk
        rw [HZ.out] at r1
        have r2 : w4.frozen? ⟨g, k, none⟩ = false := World.ownsRow.frozenAt ho k
        have HKK : Hid (KlF w.heap.size (w4.setCell ⟨g, k, none⟩ (.int .i64 (z + 1))) (.slice (some ⟨g, 0, none⟩) zs.length c) (zs.set k (z + 1))) := Lib.hid (tick_endF ho (z + 1))
        have HB4 : Hid (Below w.heap.size w (w4.setCell ⟨g, k, none⟩ (.int .i64 (z + 1)))) := Lib.hid (hb4.setCell (p := ⟨g, k, none⟩) hg _)
        have k1 : (k : Int) < (zs.length : Int) := by omega
        clear ho hb4 hz
        go_wp2
        go_ret2
        exact ⟨_, rfl, HKK.out, HB4.out⟩
    | false =>
      rw [show tickE zs i = 2 by unfold tickE; rw [if_neg (by simp [hv]), if_pos hb], show tickL zs i = [] by unfold tickL tickE; rw [if_neg (by simp [hv, hb])]]
      rw [hb] at HH
      have HC := Lib.hid HC
      have HH := Lib.hid HH
      clear hI hv hb
      go_enter Try.func19, Try.ntmps19
      go_wp2_with fail
      refine HC.out.mono ?_
      rintro e w4 ⟨rfl, rfl⟩
      go_wp2_with fail
      refine HH.out.mono ?_
      rintro e w4 ⟨rfl, rfl⟩
      go_wp2
      go_ret2
      exact ⟨_, rfl, KlF.nil _ _ _ _, Below.refl _ _⟩
  · rw [show tickE zs i = 1 by unfold tickE; rw [if_pos hv], show tickL zs i = [] by unfold tickL tickE; rw [if_neg (by rw [if_pos hv]; decide)]]
    have hb : (vcE zs != 0) = true := by simpa using hv
    have HC := Lib.hid HC
    clear hI hv HH
    generalize vcE zs = x at *
    go_enter Try.func19, Try.ntmps19
    go_wp2_with fail
    refine HC.out.mono ?_
    rintro e w4 ⟨rfl, rfl⟩
    go_wp2
    go_ret2
    exact ⟨_, rfl, KlF.nil _ _ _ _, Below.refl _ _⟩


end Go.Proofs.Ytpkmdonejmbnoaa
