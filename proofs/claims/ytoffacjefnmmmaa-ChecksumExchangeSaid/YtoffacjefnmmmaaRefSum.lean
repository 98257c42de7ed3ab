/-
  What the reference's functions of checksum return, for every argument.
-/
import Derived.Test.YtoffacjefnmmmaaOpen
import Derived.Test.YtoffacjefnmmmaaRefReadInt
import Derived.Deep.DeepCutAuto
namespace Go.Proofs.Ytoffacjefnmmmaa
open Go.RowKit

theorem refUpd (t : Nat × Nat) (ht : Ok2 t) (s : ByteArray) (hs : s.size ≤ 9223372036854775807) (m : Nat) (hm : m % 65536 = t.1 ∧ m / 65536 = t.2) (w : World) :
    Calls Try.prog 31 #[.int .i64 (m : Int), .string s] w fun e w' => e = .returned (.int .i64 (csOf (adl t s.data.toList) : Int)) ∧ w = w' := by
  obtain ⟨t1, t2⟩ := t
  obtain ⟨m1, m2⟩ := hm
  have h1 : t1 < 65521 := ht.1
  have h2 : t2 < 65521 := ht.2
  have hmm : m < 4294967296 := by simp only [] at m1 m2; omega
  have e1 : (m : Int) % 65536 = (t1 : Int) := by simp only [] at m1; omega
  have e2 : (m : Int) / 65536 = (t2 : Int) := by simp only [] at m2; omega
  have E1 := Lib.hid e1
  have E2 := Lib.hid e2
  clear m1 m2 e1 e2
  go_enter Try.func31, Try.ntmps31
  go_wp2
  go_loop [5, 6, 7] (fun a b i => ∃ (k : Nat) (u : Nat × Nat), k ≤ s.size ∧ i = .int .i64 k ∧ a = .int .i64 (u.1 : Int) ∧ b = .int .i64 (u.2 : Int) ∧ u.1 < 65521 ∧ u.2 < 65521 ∧ Hid (u = adl (t1, t2) (s.data.toList.take k))) (fun _ _ i => s.size - (intOf i).toNat)
  case atStart => exact ⟨0, (t1, t2), Nat.zero_le _, rfl, by rw [E1.out], by rw [E2.out], h1, h2, Lib.hid (by simp [adl])⟩
  case round =>
    obtain ⟨k, ⟨u1, u2⟩, hk, rfl, rfl, rfl, hu1, hu2, HU⟩ := hrel
    simp only [] at hu1 hu2
    by_cases hlt : k < s.size
    · have HT := Lib.hid (take_snoc s k hlt)
      obtain ⟨c, hc⟩ : ∃ c, s[k] = c := ⟨_, rfl⟩
      rw [hc] at HT
      have h8 := byte_lt c
      go_wp2
      go_round
      case rel =>
        refine ⟨k + 1, step2 (u1, u2) c, by omega, by go_num, ?_, ?_, (step2_ok _ _).1, (step2_ok _ _).2, Lib.hid ?_⟩
        · unfold step2; simp
        · unfold step2; simp
        · rw [HT.out, adl_snoc, ← HU.out]
      case measure => simp [intOf]; omega
    · go_wp2
      go_ret
      have e := HU.out
      rw [List.take_of_length_le (by simp; omega)] at e
      rw [← e]
      exact ⟨by unfold csOf; simp, rfl⟩

theorem refSum_any (s : ByteArray) (hs : s.size ≤ 9223372036854775807) (w : World) :
    Calls Try.prog 19 #[.string s] w fun e w' => e = .returned (.int .i64 (sumN s.data.toList : Int)) ∧ w = w' := by
  go_enter Try.func19, Try.ntmps19
  go_wp2_with fail
  refine (refUpd (1, 0) ok0 s hs 1 ⟨rfl, rfl⟩ _).mono ?_
  rintro e w1 ⟨rfl, rfl⟩
  go_wp2
  go_ret
  exact ⟨rfl, rfl⟩

theorem refIs_yes (n : Nat) (h : IsSum (n : Int)) (w : World) :
    Calls Try.prog 30 #[.int .i64 (n : Int)] w fun e w' => e = .returned (.bool true) ∧ w = w' := by
  unfold IsSum at h
  obtain ⟨h0, h1, h2⟩ := h
  have h3 : (n : Int) < 4294967296 := by omega
  go_enter Try.func30, Try.ntmps30
  go_wp2
  go_ret
  exact ⟨rfl, rfl⟩
theorem refIs_no (n : Int) (hl : -9223372036854775808 ≤ n) (hu : n ≤ 9223372036854775807) (h : ¬ IsSum n) (w : World) :
    Calls Try.prog 30 #[.int .i64 n] w fun e w' => e = .returned (.bool false) ∧ w = w' := by
  unfold IsSum at h
  by_cases h0 : 0 ≤ n
  · by_cases h3 : n < 4294967296
    · by_cases h1 : n % 65536 < 65521
      · have h2 : ¬ n / 65536 < 65521 := fun h2 => h ⟨h0, h1, h2⟩
        clear h
        go_enter Try.func30, Try.ntmps30
        go_wp2
        go_ret
        exact ⟨rfl, rfl⟩
      · clear h
        go_enter Try.func30, Try.ntmps30
        go_wp2
        go_ret
        exact ⟨rfl, rfl⟩
    · clear h
      go_enter Try.func30, Try.ntmps30
      go_wp2
      go_ret
      exact ⟨rfl, rfl⟩
  · clear h
    go_enter Try.func30, Try.ntmps30
    go_wp2
    go_ret
    exact ⟨rfl, rfl⟩

theorem refUpdate_any (n : Int) (hl : -9223372036854775808 ≤ n) (hu : n ≤ 9223372036854775807) (s : ByteArray) (hs : s.size ≤ 9223372036854775807) (w : World) :
    Calls Try.prog 15 #[.int .i64 n, .string s] w fun e w' => e = .returned (.tuple #[.int .i64 (updV n s.data.toList), .int .i64 (updE n)]) ∧ w = w' := by
  unfold updV updE
  by_cases h : IsSum n
  · rw [if_pos h, if_pos h]
    obtain ⟨m, rfl⟩ := Int.eq_ofNat_of_zero_le h.1
    have hk := isSum_ok h
    simp only [Int.toNat_natCast]
    have H := Lib.hid h
    clear h
    go_enter Try.func15, Try.ntmps15
    go_wp2_with fail
    refine (refIs_yes m H.out _).mono ?_
    rintro e w1 ⟨rfl, rfl⟩
    go_wp2_with fail
    refine (refUpd _ hk s hs m ⟨rfl, rfl⟩ _).mono ?_
    rintro e w2 ⟨rfl, rfl⟩
    go_wp2
    go_ret2
    exact ⟨rfl, rfl⟩
  · rw [if_neg h, if_neg h]
    have H := Lib.hid h
    clear h
    go_enter Try.func15, Try.ntmps15
    go_wp2_with fail
    refine (refIs_no n hl hu H.out _).mono ?_
    rintro e w1 ⟨rfl, rfl⟩
    go_wp2
    go_ret2
    exact ⟨rfl, rfl⟩

/-! ### Combine -/

theorem comb_mod (t1 t2 u2 n : Nat) : (t2 + u2 + n % 65521 * ((t1 + 65520) % 65521)) % 65521 = ((((t2 + u2 + n * t1 : Nat) : Int) - (n : Int)) % 65521).toNat := by
  obtain ⟨q, hq⟩ : ∃ q, n / 65521 = q := ⟨_, rfl⟩
  obtain ⟨r, hr⟩ : ∃ r, n % 65521 = r := ⟨_, rfl⟩
  have hn : n = 65521 * q + r := by omega
  obtain ⟨p, hp⟩ : ∃ p, (t1 + 65520) / 65521 = p := ⟨_, rfl⟩
  obtain ⟨x, hx⟩ : ∃ x, (t1 + 65520) % 65521 = x := ⟨_, rfl⟩
  have ht : t1 + 65520 = 65521 * p + x := by omega
  rw [hr, hx]
  have h1 : n * t1 + n * 65520 = n * (65521 * p) + n * x := by rw [← Nat.mul_add, ht, Nat.mul_add]
  have h2 : n * (65521 * p) = 65521 * (n * p) := by rw [Nat.mul_left_comm]
  have h3 : n * x = 65521 * (q * x) + r * x := by rw [hn, Nat.add_mul, Nat.mul_assoc]
  generalize n * t1 = a at *
  generalize n * (65521 * p) = b at *
  generalize n * p = c at *
  generalize n * x = d at *
  generalize q * x = f at *
  generalize r * x = g at *
  clear hr hx hp hq ht
  omega

theorem comb_fst (t u : Nat × Nat) (n : Nat) : (((comb t u n).1 : Nat) : Int) = ((t.1 : Int) + 65521 - 1 + (u.1 : Int)) % 65521 := by
  show (((t.1 + u.1 + 65520) % 65521 : Nat) : Int) = _
  omega
theorem comb_snd2 (t u : Nat × Nat) (n x y : Nat) (hx : n % 65521 = x) (hy : (t.1 + 65520) % 65521 = y) : (((comb t u n).2 : Nat) : Int) = ((t.2 : Int) + (u.2 : Int) + (x : Int) * (y : Int)) % 65521 := by
  have e : (comb t u n).2 = (t.2 + u.2 + n % 65521 * ((t.1 + 65520) % 65521)) % 65521 := (comb_mod t.1 t.2 u.2 n).symm
  rw [e, hx, hy, Int.natCast_emod, Int.natCast_add, Int.natCast_add, Int.natCast_mul]
  rfl

theorem csOf_cast (t : Nat × Nat) : (t.2 : Int) * 65536 + (t.1 : Int) = ((csOf t : Nat) : Int) := by
  unfold csOf
  rw [Int.natCast_add, Int.natCast_mul]
  rfl

theorem refIs_yes' (n : Int) (h : IsSum n) (w : World) :
    Calls Try.prog 30 #[.int .i64 n] w fun e w' => e = .returned (.bool true) ∧ w = w' := by
  obtain ⟨m, rfl⟩ := Int.eq_ofNat_of_zero_le h.1
  exact refIs_yes m h w

set_option maxHeartbeats 1000000 in
theorem refCombine_walk (a b n : Int) (HA : Hid (IsSum a)) (HB : Hid (IsSum b)) (a0 : 0 ≤ a) (b0 : 0 ≤ b) (n0 : 0 ≤ n) (hn : n ≤ 1099511627776) (a1 : a % 65536 < 65521) (a2 : a / 65536 < 65521) (b1 : b % 65536 < 65521) (b2 : b / 65536 < 65521)
    (m0 : 0 ≤ n % 65521 * ((a % 65536 + 65521 - 1) % 65521)) (m1 : n % 65521 * ((a % 65536 + 65521 - 1) % 65521) ≤ 4293001441) (R : Int)
    (HE : Hid (R = (a / 65536 + b / 65536 + n % 65521 * ((a % 65536 + 65521 - 1) % 65521)) % 65521 * 65536 + (a % 65536 + 65521 - 1 + b % 65536) % 65521)) (w : World) :
    Calls Try.prog 17 #[.int .i64 a, .int .i64 b, .int .i64 n] w fun e w' => e = .returned (.tuple #[.int .i64 R, .int .i64 0]) ∧ w = w' := by
  go_enter Try.func17, Try.ntmps17
  go_wp2_with fail
  refine (refIs_yes' a HA.out _).mono ?_
  rintro e w1 ⟨rfl, rfl⟩
  go_wp2_with fail
  refine (refIs_yes' b HB.out _).mono ?_
  rintro e w1 ⟨rfl, rfl⟩
  go_wp2
  go_ret2
  rw [HE.out]
  exact ⟨rfl, rfl⟩

theorem mul_in (x y : Int) (h0 : 0 ≤ x) (h1 : x < 65521) (h2 : 0 ≤ y) (h3 : y < 65521) : 0 ≤ x * y ∧ x * y ≤ 4293001441 := by
  refine ⟨Int.mul_nonneg h0 h2, ?_⟩
  have := Int.mul_le_mul (a := x) (b := y) (c := 65521) (d := 65521) (by omega) (by omega) (by omega) (by omega)
  omega
theorem comb_int (a b n : Nat) (t u : Nat × Nat) (ht : t = (a % 65536, a / 65536)) (hu : u = (b % 65536, b / 65536)) :
    (csOf (comb t u n) : Int) = ((a : Int) / 65536 + (b : Int) / 65536 + (n : Int) % 65521 * (((a : Int) % 65536 + 65521 - 1) % 65521)) % 65521 * 65536 + ((a : Int) % 65536 + 65521 - 1 + (b : Int) % 65536) % 65521 := by
  obtain ⟨x, e5⟩ : ∃ x, n % 65521 = x := ⟨_, rfl⟩
  obtain ⟨y, e6⟩ : ∃ y, (t.1 + 65520) % 65521 = y := ⟨_, rfl⟩
  have c1 := comb_fst t u n
  have c2 := comb_snd2 t u n x y e5 e6
  have i5 : (n : Int) % 65521 = (x : Int) := by rw [← e5]; rfl
  have i6 : ((t.1 : Int) + 65521 - 1) % 65521 = (y : Int) := by clear c1 c2; omega
  have i1 : (a : Int) % 65536 = (t.1 : Int) := by rw [ht]; rfl
  have i2 : (a : Int) / 65536 = (t.2 : Int) := by rw [ht]; rfl
  have i3 : (b : Int) % 65536 = (u.1 : Int) := by rw [hu]; rfl
  have i4 : (b : Int) / 65536 = (u.2 : Int) := by rw [hu]; rfl
  rw [i1, i2, i3, i4, i5, i6, ← c1, ← c2]
  exact (csOf_cast _).symm
theorem refCombine_yes (a b n : Nat) (ha : IsSum (a : Int)) (hb : IsSum (b : Int)) (hn : n ≤ 1099511627776) (w : World) :
    Calls Try.prog 17 #[.int .i64 (a : Int), .int .i64 (b : Int), .int .i64 (n : Int)] w fun e w' => e = .returned (.tuple #[.int .i64 (csOf (comb (a % 65536, a / 65536) (b % 65536, b / 65536) n) : Int), .int .i64 0]) ∧ w = w' := by
  have hm := mul_in ((n : Int) % 65521) (((a : Int) % 65536 + 65521 - 1) % 65521) (Int.emod_nonneg _ (by decide)) (Int.emod_lt_of_pos _ (by decide)) (Int.emod_nonneg _ (by decide)) (Int.emod_lt_of_pos _ (by decide))
  exact refCombine_walk a b n (Lib.hid ha) (Lib.hid hb) (Int.natCast_nonneg _) (Int.natCast_nonneg _) (Int.natCast_nonneg _) (by omega) ha.2.1 ha.2.2 hb.2.1 hb.2.2 hm.1 hm.2 _ (Lib.hid (comb_int a b n _ _ rfl rfl)) w

theorem refCombine_no (a b n : Int) (ha : -9223372036854775808 ≤ a ∧ a ≤ 9223372036854775807) (hb : -9223372036854775808 ≤ b ∧ b ≤ 9223372036854775807) (h : ¬ CombOk a b n) (w : World) :
    Calls Try.prog 17 #[.int .i64 a, .int .i64 b, .int .i64 n] w fun e w' => e = .returned (.tuple #[.int .i64 0, .int .i64 2]) ∧ w = w' := by
  by_cases h1 : IsSum a
  · by_cases h2 : IsSum b
    · by_cases h3 : n < 0
      · have H1 := Lib.hid h1
        have H2 := Lib.hid h2
        clear h h1 h2
        go_enter Try.func17, Try.ntmps17
        go_wp2_with fail
        refine (refIs_yes' a H1.out _).mono ?_
        rintro e w1 ⟨rfl, rfl⟩
        go_wp2_with fail
        refine (refIs_yes' b H2.out _).mono ?_
        rintro e w1 ⟨rfl, rfl⟩
        go_wp2
        go_ret2
        exact ⟨rfl, rfl⟩
      · have h4 : 1099511627776 < n := by
          have : ¬ n ≤ 1099511627776 := fun h4 => h ⟨h1, h2, by omega, h4⟩
          omega
        have H1 := Lib.hid h1
        have H2 := Lib.hid h2
        clear h h1 h2
        go_enter Try.func17, Try.ntmps17
        go_wp2_with fail
        refine (refIs_yes' a H1.out _).mono ?_
        rintro e w1 ⟨rfl, rfl⟩
        go_wp2_with fail
        refine (refIs_yes' b H2.out _).mono ?_
        rintro e w1 ⟨rfl, rfl⟩
        go_wp2
        go_ret2
        exact ⟨rfl, rfl⟩
    · have H1 := Lib.hid h1
      have H2 := Lib.hid h2
      clear h h1 h2
      go_enter Try.func17, Try.ntmps17
      go_wp2_with fail
      refine (refIs_yes' a H1.out _).mono ?_
      rintro e w1 ⟨rfl, rfl⟩
      go_wp2_with fail
      refine (refIs_no b hb.1 hb.2 H2.out _).mono ?_
      rintro e w1 ⟨rfl, rfl⟩
      go_wp2
      go_ret2
      exact ⟨rfl, rfl⟩
  · have H1 := Lib.hid h1
    clear h h1
    go_enter Try.func17, Try.ntmps17
    go_wp2_with fail
    refine (refIs_no a ha.1 ha.2 H1.out _).mono ?_
    rintro e w1 ⟨rfl, rfl⟩
    go_wp2
    go_ret2
    exact ⟨rfl, rfl⟩

theorem refCombine_any (a b n : Int) (ha : -9223372036854775808 ≤ a ∧ a ≤ 9223372036854775807) (hb : -9223372036854775808 ≤ b ∧ b ≤ 9223372036854775807) (w : World) :
    Calls Try.prog 17 #[.int .i64 a, .int .i64 b, .int .i64 n] w fun e w' => e = .returned (.tuple #[.int .i64 (combV a b n), .int .i64 (combE a b n)]) ∧ w = w' := by
  unfold combV combE
  by_cases h : CombOk a b n
  · rw [if_pos h, if_pos h]
    obtain ⟨h1, h2, h3, h4⟩ := h
    obtain ⟨a', rfl⟩ := Int.eq_ofNat_of_zero_le h1.1
    obtain ⟨b', rfl⟩ := Int.eq_ofNat_of_zero_le h2.1
    obtain ⟨n', rfl⟩ := Int.eq_ofNat_of_zero_le h3
    exact refCombine_yes a' b' n' h1 h2 (by omega) w
  · rw [if_neg h, if_neg h]
    exact refCombine_no a b n ha hb h w

end Go.Proofs.Ytoffacjefnmmmaa
