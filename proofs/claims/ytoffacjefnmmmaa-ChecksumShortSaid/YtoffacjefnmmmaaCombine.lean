/-
  What checksum's Combine returns, for every argument.
-/
import Derived.Test.YtoffacjefnmmmaaSum
namespace Go.Proofs.Ytoffacjefnmmmaa
open Go.RowKit

theorem residue_neg (n : Nat) (w : World) :
    Calls Try.prog 48 #[.int .i64 (-(n : Int))] w fun e w' => e = .returned (.int .i64 ((-(n : Int)) % 65521)) ∧ w' = w := by
  have ht : (-(n : Int)).tmod 65521 = -((n % 65521 : Nat) : Int) := by rw [Int.neg_tmod]; rfl
  have HN := Lib.hid (show ((-((n % 65521 : Nat) : Int)) + 65521) % 65521 = (-(n : Int)) % 65521 by omega)
  obtain ⟨r, hr⟩ : ∃ r, n % 65521 = r := ⟨_, rfl⟩
  rw [hr] at ht HN
  have hr2 : r < 65521 := by omega
  clear hr
  go_enter Try.func48, Try.ntmps48
  go_wp2
  go_ret
  rw [← HN.out]
  exact ⟨rfl, rfl⟩
theorem residue_any (z : Int) (hu : z ≤ 4611686018427387904) (w : World) :
    Calls Try.prog 48 #[.int .i64 z] w fun e w' => e = .returned (.int .i64 (z % 65521)) ∧ w' = w := by
  by_cases h : 0 ≤ z
  · obtain ⟨n, rfl⟩ := Int.eq_ofNat_of_zero_le h
    exact residue_nat n (by omega) w
  · obtain ⟨n, rfl⟩ : ∃ n : Nat, z = -(n : Int) := ⟨(-z).toNat, by omega⟩
    exact residue_neg n w

set_option maxHeartbeats 4000000 in
theorem followedBy_any (t u : Nat × Nat) (ht : Ok2 t) (hu : Ok2 u) (n : Nat) (hn : n ≤ 1099511627776) (w : World) :
    Calls Try.prog 32 #[agg2 t, agg2 u, .int .i64 (n : Int)] w fun e w' => e = .returned (agg2 (comb t u n)) ∧ Below w.heap.size w w' := by
  have hc := comb_snd t u n
  obtain ⟨t1, t2⟩ := t
  obtain ⟨u1, u2⟩ := u
  have h1 : t1 < 65521 := ht.1
  have h2 : t2 < 65521 := ht.2
  have h3 : u1 < 65521 := hu.1
  have h4 : u2 < 65521 := hu.2
  simp only [] at hc
  have hp : 0 ≤ (n : Int) * (t1 : Int) := Int.mul_nonneg (by omega) (by omega)
  have hp2 : (n : Int) * (t1 : Int) ≤ 1099511627776 * 65521 := Int.mul_le_mul (by omega) (by omega) (by omega) (by omega)
  have hmul : (n : Int) * ((t1 : Int) - 1) = (n : Int) * (t1 : Int) - (n : Int) := by rw [Int.mul_sub, Int.mul_one]
  obtain ⟨x, hx⟩ : ∃ x, (comb (t1, t2) (u1, u2) n).1 = x := ⟨_, rfl⟩
  obtain ⟨y, hy⟩ : ∃ y, (comb (t1, t2) (u1, u2) n).2 = y := ⟨_, rfl⟩
  have hxy : comb (t1, t2) (u1, u2) n = (x, y) := Prod.ext hx hy
  have hr1 := residue_any ((u1 : Int) + ((t1 : Int) - 1)) (by omega)
  have hr2 := residue_any ((t2 : Int) + (u2 : Int) + (n : Int) * ((t1 : Int) - 1)) (by rw [hmul]; omega)
  have e1 : ((u1 : Int) + ((t1 : Int) - 1)) % 65521 = (x : Int) := by
    rw [← hx]
    show _ = (((t1 + u1 + 65520) % 65521 : Nat) : Int)
    omega
  have e2 : ((t2 : Int) + (u2 : Int) + (n : Int) * ((t1 : Int) - 1)) % 65521 = (y : Int) := by
    rw [← hy, hc, hmul]
    rw [show (((t2 + u2 + n * t1 : Nat) : Int) - (n : Int)) = (t2 : Int) + (u2 : Int) + ((n : Int) * (t1 : Int) - (n : Int)) from by rw [Int.natCast_add, Int.natCast_add, Int.natCast_mul]; omega]
  rw [e1] at hr1
  rw [e2] at hr2
  rw [hxy]
  have HR1 := Lib.hid hr1
  have HR2 := Lib.hid hr2
  have hm1 : -1099511627776 ≤ (n : Int) * ((t1 : Int) - 1) := by rw [hmul]; omega
  have hm2 : (n : Int) * ((t1 : Int) - 1) ≤ 1099511627776 * 65521 := by rw [hmul]; omega
  clear hx hy hxy hr1 hr2 e1 e2 hc hmul hp hp2
  go_enter Try.func32, Try.ntmps32
  go_wp2_with fail
  obtain ⟨w3, hw3⟩ : ∃ w3, ((w.alloc (.cells #[.int .i64 (t1 : Int), .int .i64 (t2 : Int)] TS)).alloc (.cells #[.int .i64 (u1 : Int), .int .i64 (u2 : Int)] TS)).alloc (.cells #[.int .i64 0, .int .i64 0] TS) = w3 := ⟨_, rfl⟩
  rw [hw3]
  have hS1 : Sums w.heap.size (t1, t2) w3.drew := by
    rw [← hw3]
    exact (Lib.alloc_old _ _ _ (by simp; omega)).trans ((Lib.alloc_old _ _ _ (by simp)).trans (World.alloc_heap_new w _))
  have hS2 : Sums (w.heap.size + 1) (u1, u2) w3.drew := by
    rw [← hw3]
    have := World.alloc_heap_new (w.alloc (.cells #[.int .i64 (t1 : Int), .int .i64 (t2 : Int)] TS)) (.cells #[.int .i64 (u1 : Int), .int .i64 (u2 : Int)] TS)
    rw [World.size_alloc] at this
    exact (Lib.alloc_old _ _ _ (by simp)).trans this
  have hS3 : Sums (w.heap.size + 1 + 1) (0, 0) w3.drew := by
    rw [← hw3]
    have := World.alloc_heap_new ((w.alloc (.cells #[.int .i64 (t1 : Int), .int .i64 (t2 : Int)] TS)).alloc (.cells #[.int .i64 (u1 : Int), .int .i64 (u2 : Int)] TS)) (.cells #[.int .i64 0, .int .i64 0] TS)
    rw [World.size_alloc, World.size_alloc] at this
    exact this
  have hb : Below w.heap.size w w3.drew := by
    rw [← hw3]
    exact ((((Below.refl _ w).alloc (Nat.le_refl _) _).alloc (by simp) _).alloc (by simp; omega) _).drew
  refine wp_region_still_tail 16 (by kernel_rfl) (by kernel_rfl) ?_
  obtain ⟨w2, hw2⟩ : ∃ w2, w3.drew = w2 := ⟨_, rfl⟩
  change wpStill _ _ w3.drew (fun a' => wpList _ _ _ _ a' w3.drew) _ _
  rw [hw2]
  rw [hw2] at hS1 hS2 hS3 hb
  obtain ⟨a0, a1, _, _⟩ := hS1.cells
  obtain ⟨b0, b1, _, _⟩ := hS2.cells
  obtain ⟨d0, d1, g0, g1⟩ := hS3.cells
  simp only [] at a0 a1 b0 b1 d0 d1
  obtain ⟨e0, e1, e2⟩ := set_two_cells hS3 (.int .i64 (x : Int)) (.int .i64 (y : Int))
  have HS3 := Lib.hid hS3
  clear hw3 hw2 hS1 hS2 hS3
  simp only [List.take_succ_cons, List.take_zero, List.drop_succ_cons, List.drop_zero]
  have q1 : IntKind.i64.wrap ((u1 : Int) + ((t1 : Int) - 1)) = (u1 : Int) + ((t1 : Int) - 1) := IntWalk.i64_in _ (by omega)
  have q2 : IntKind.i64.wrap ((t2 : Int) + (u2 : Int)) = (t2 : Int) + (u2 : Int) := IntWalk.i64_in _ (by omega)
  have q3 : IntKind.i64.wrap ((n : Int) * ((t1 : Int) - 1)) = (n : Int) * ((t1 : Int) - 1) := IntWalk.i64_in _ (by omega)
  have q4 : IntKind.i64.wrap ((t2 : Int) + (u2 : Int) + (n : Int) * ((t1 : Int) - 1)) = (t2 : Int) + (u2 : Int) + (n : Int) * ((t1 : Int) - 1) := IntWalk.i64_in _ (by omega)
  repeat still_step
  still_call (HR1.out _)
  repeat still_step
  still_call (HR2.out _)
  clear q1 q2 q3 q4
  repeat still_step
  refine wpStill_nil ?_
  go_wp2
  exact bodyPost_ret (v := agg2 (x, y)) (by simp [results, Try.results32, go_sem, e1, e2]) rfl ⟨rfl, (hb.setCell (by simp; omega) _).setCell (by simp; omega) _⟩

/-! ### Combine -/

def toT (n : Int) : Nat × Nat := (n.toNat % 65536, n.toNat / 65536)
def CombOk (a b n : Int) : Prop := IsSum a ∧ IsSum b ∧ 0 ≤ n ∧ n ≤ 1099511627776
instance (a b n : Int) : Decidable (CombOk a b n) := by unfold CombOk; infer_instance
def combV (a b n : Int) : Int := if CombOk a b n then (csOf (comb (toT a) (toT b) n.toNat) : Int) else 0
def combE (a b n : Int) : Int := if CombOk a b n then 0 else 2

set_option maxHeartbeats 1000000 in
theorem combine_yes (a b n : Nat) (ha : IsSum (a : Int)) (hb : IsSum (b : Int)) (hn : n ≤ 1099511627776) (w : World) :
    Calls Try.prog 16 #[.int .i64 (a : Int), .int .i64 (b : Int), .int .i64 (n : Int)] w fun e w' => e = .returned (.tuple #[.int .i64 (csOf (comb (a % 65536, a / 65536) (b % 65536, b / 65536) n) : Int), .int .i64 0]) ∧ Below w.heap.size w w' := by
  have ha2 : a ≤ 4611686018427387904 := by unfold IsSum at ha; omega
  have hb2 : b ≤ 4611686018427387904 := by unfold IsSum at hb; omega
  have ka := isSum_ok ha
  have kb := isSum_ok hb
  have HA := Lib.hid ha
  have HB := Lib.hid hb
  clear ha hb
  go_enter Try.func16, Try.ntmps16
  go_wp2_with fail
  refine (isChecksum_yes a HA.out _).mono ?_
  rintro e w1 ⟨rfl, rfl⟩
  go_wp2_with fail
  refine (isChecksum_yes b HB.out _).mono ?_
  rintro e w1 ⟨rfl, rfl⟩
  go_wp2_with fail
  refine (split_any a ha2 _).mono ?_
  rintro e w1 ⟨rfl, b1⟩
  have s1 := b1.size
  go_wp2_with fail
  refine (split_any b hb2 _).mono ?_
  rintro e w2 ⟨rfl, b2⟩
  have s2 := b2.size
  go_wp2_with fail
  refine (followedBy_any _ _ ka kb n hn _).mono ?_
  rintro e w3 ⟨rfl, b3⟩
  have s3 := b3.size
  go_wp2_with fail
  refine (checksum_any _ (comb_ok _ _ _) _).mono ?_
  rintro e w4 ⟨rfl, b4⟩
  go_wp2
  go_ret2
  exact ⟨rfl, ((b1.trans (b2.mono s1)).trans (b3.mono (by omega))).trans (b4.mono (by omega))⟩

theorem combine_no (a b n : Int) (ha : -9223372036854775808 ≤ a ∧ a ≤ 9223372036854775807) (hb : -9223372036854775808 ≤ b ∧ b ≤ 9223372036854775807) (h : ¬ CombOk a b n) (w : World) :
    Calls Try.prog 16 #[.int .i64 a, .int .i64 b, .int .i64 n] w fun e w' => e = .returned (.tuple #[.int .i64 0, .int .i64 2]) ∧ w = w' := by
  by_cases h1 : IsSum a
  · obtain ⟨a', rfl⟩ := Int.eq_ofNat_of_zero_le h1.1
    by_cases h2 : IsSum b
    · obtain ⟨b', rfl⟩ := Int.eq_ofNat_of_zero_le h2.1
      by_cases h3 : n < 0
      · have H1 := Lib.hid h1
        have H2 := Lib.hid h2
        clear h h1 h2
        go_enter Try.func16, Try.ntmps16
        go_wp2_with fail
        refine (isChecksum_yes a' H1.out _).mono ?_
        rintro e w1 ⟨rfl, rfl⟩
        go_wp2_with fail
        refine (isChecksum_yes b' H2.out _).mono ?_
        rintro e w1 ⟨rfl, rfl⟩
        go_wp2
        go_ret2
        exact ⟨rfl, rfl⟩
      · have h4 : 1099511627776 < n := by
          have : ¬ n ≤ 1099511627776 := fun h4 => h ⟨h1, h2, by omega, h4⟩
          omega
        have H1 := Lib.hid h1
        have H2 := Lib.hid h2
        clear h h1 h2
        go_enter Try.func16, Try.ntmps16
        go_wp2_with fail
        refine (isChecksum_yes a' H1.out _).mono ?_
        rintro e w1 ⟨rfl, rfl⟩
        go_wp2_with fail
        refine (isChecksum_yes b' H2.out _).mono ?_
        rintro e w1 ⟨rfl, rfl⟩
        go_wp2
        go_ret2
        exact ⟨rfl, rfl⟩
    · have H1 := Lib.hid h1
      have H2 := Lib.hid h2
      clear h h1 h2
      go_enter Try.func16, Try.ntmps16
      go_wp2_with fail
      refine (isChecksum_yes a' H1.out _).mono ?_
      rintro e w1 ⟨rfl, rfl⟩
      go_wp2_with fail
      refine (isChecksum_no b hb.1 hb.2 H2.out _).mono ?_
      rintro e w1 ⟨rfl, rfl⟩
      go_wp2
      go_ret2
      exact ⟨rfl, rfl⟩
  · have H1 := Lib.hid h1
    clear h h1
    go_enter Try.func16, Try.ntmps16
    go_wp2_with fail
    refine (isChecksum_no a ha.1 ha.2 H1.out _).mono ?_
    rintro e w1 ⟨rfl, rfl⟩
    go_wp2
    go_ret2
    exact ⟨rfl, rfl⟩

theorem combine_any (a b n : Int) (ha : -9223372036854775808 ≤ a ∧ a ≤ 9223372036854775807) (hb : -9223372036854775808 ≤ b ∧ b ≤ 9223372036854775807) (w : World) :
    Calls Try.prog 16 #[.int .i64 a, .int .i64 b, .int .i64 n] w fun e w' => e = .returned (.tuple #[.int .i64 (combV a b n), .int .i64 (combE a b n)]) ∧ Below w.heap.size w w' := by
  unfold combV combE
  by_cases h : CombOk a b n
  · rw [if_pos h, if_pos h]
    obtain ⟨h1, h2, h3, h4⟩ := h
    obtain ⟨a', rfl⟩ := Int.eq_ofNat_of_zero_le h1.1
    obtain ⟨b', rfl⟩ := Int.eq_ofNat_of_zero_le h2.1
    obtain ⟨n', rfl⟩ := Int.eq_ofNat_of_zero_le h3
    exact combine_yes a' b' n' h1 h2 (by omega) w
  · rw [if_neg h, if_neg h]
    refine (combine_no a b n ha hb h w).mono ?_
    rintro e w' ⟨rfl, rfl⟩
    exact ⟨rfl, Below.refl _ _⟩

end Go.Proofs.Ytoffacjefnmmmaa
