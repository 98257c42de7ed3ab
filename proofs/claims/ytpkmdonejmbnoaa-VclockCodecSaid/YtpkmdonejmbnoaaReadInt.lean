/-
  codec's reader reads an integer; codec.ReadInt.
-/
import Derived.Test.YtpkmdonejmbnoaaReader
import Derived.Laws.BitsAllLaws
import Derived.Laws.Closers25b
namespace Go.Proofs.Ytpkmdonejmbnoaa
open Go.RowKit

/-- The digits of an integer at the place a, of which j are read. -/
def part (s : ByteArray) (a : Nat) (j : Nat) : List UInt8 := ((s.data.toList.drop (a + 1)).take j).map (· ^^^ invC (s.data.toList.getD a 0))

def LoopSt (s : ByteArray) (a0 : Nat) (inv : UInt8) (j : Nat) (M : Int) (a : Nat) (f : Int) : Prop :=
  (a0 + 1 + j ≤ s.size ∧ a = a0 + 1 + j ∧ f = 0 ∧ M = (ofD (((s.data.toList.drop (a0 + 1)).take j).map (· ^^^ inv)) : Int)) ∨ (s.size < a0 + 1 + j ∧ a = s.size ∧ f = 11)

theorem or_byte (M d : Nat) (hM : M < 72057594037927936) (hd : d < 256) : bits BinOp.or IntKind.u64 ((M : Int) * 256) (d : Int) = ((M * 256 + d : Nat) : Int) := by
  have e : ((M : Int) * 256) = ((M * 256 : Nat) : Int) := by omega
  rw [e, u64_or_nat _ _ (by omega) (by omega)]
  congr 1
  have := Nat.shiftLeft_add_eq_or_of_lt (a := M) (i := 8) (b := d) (by omega)
  rw [Nat.shiftLeft_eq] at this
  exact this.symm

theorem loopSt_step (s : ByteArray) (a0 : Nat) (inv : UInt8) (j : Nat) (h : a0 + 1 + j < s.size) :
    (((s.data.toList.drop (a0 + 1)).take (j + 1)).map (· ^^^ inv)) = (((s.data.toList.drop (a0 + 1)).take j).map (· ^^^ inv)) ++ [s[a0 + 1 + j] ^^^ inv] := by
  rw [List.take_succ_eq_append_getElem (by simp; omega), List.map_append]
  simp
  rfl

set_option maxRecDepth 100000 in
set_option maxHeartbeats 2000000 in
theorem integer_neg (b : Nat) (s : ByteArray) (a : Nat) (ha : a < s.size) (hs : s.size ≤ 9223372036854775807) (hk : ¬ 8 < kOf s[a]) (hc : s[a] < 128) (w : World) (h : Rdr b s a 0 w) :
    Calls Try.prog 73 #[.pointer (some ⟨b, 0, none⟩)] w fun e w' => ∃ n a' f', e = .returned (.int .i64 n) ∧ IntPost s a n a' f' ∧ Rdr b s a' f' w' ∧ OnlyB b w w' := by
  have HS := Lib.hid (fun n a' hh => intPost_short s a ha hk hh n a')
  have HBad := Lib.hid (fun n a' h1 h2 => intPost_bad s a ha hk h1 n a' h2)
  have HOk := Lib.hid (fun h1 h2 => intPost_ok s a ha hk h1 h2)
  have HNX := Lib.hid (next_byte b s a 0 w h hs ha)
  obtain ⟨c, hcc⟩ : ∃ c, s[a] = c := ⟨_, rfl⟩
  rw [hcc] at hk hc HS HBad HOk HNX
  have hi : invC c = 255 := by unfold invC; rw [if_pos hc]
  have hK := kOf_byte c
  rw [hi] at hK
  have hK' : bits BinOp.xor IntKind.u8 (c.toNat : Int) 255 = 128 + (kOf c : Int) := hK
  have hc1 : (c.toNat : Int) < 128 := by have := (UInt8.lt_iff_toNat_lt).1 hc; simp at this; omega
  have hk8 : kOf c ≤ 8 := by omega
  have HI := Lib.hid hi
  have HCC := Lib.hid hcc
  have HC := Lib.hid hc
  clear hK hi hcc hk hc
  have HA := Lib.hid ha
  go_enter Try.func73, Try.ntmps73
  go_wp2_with fail
  refine HNX.out.mono ?_
  rintro e w1 ⟨rfl, h1, k1⟩
  go_wp2
  go_loopw [6, 22] (fun m i wr => ∃ (j : Nat) (M : Int) (a' : Nat) (f : Int), j ≤ kOf c ∧ i = .int .i64 j ∧ m = .int .u64 M ∧ 0 ≤ M ∧ M ≤ 18446744073709551615 ∧ Rdr b s a' f wr ∧ OnlyB b w wr ∧ Hid (LoopSt s a 255 j M a' f)) (fun _ i _ => kOf c - (intOf i).toNat)
  case atStart => exact ⟨0, 0, a + 1, 0, Nat.zero_le _, rfl, rfl, by omega, by omega, h1, k1, Lib.hid (.inl ⟨by have := HA.out; omega, rfl, rfl, rfl⟩)⟩
  case round =>
    obtain ⟨j, M, a', f, hj, rfl, rfl, hM0, hM1, hR, hO, HL⟩ := hrel
    by_cases hlt : j < kOf c
    · rcases HL.out with ⟨q1, q2, q3, q4⟩ | ⟨q1, q2, q3⟩
      · by_cases hend : a + 1 + j < s.size
        · subst q2; subst q3
          have HQ := Lib.hid q4
          have hMb : M < 72057594037927936 := by
            rw [q4]
            have := ofD_lt (((s.data.toList.drop (a + 1)).take j).map (· ^^^ 255))
            have hl : (((s.data.toList.drop (a + 1)).take j).map (· ^^^ (255 : UInt8))).length ≤ 7 := by simp; omega
            have := Nat.lt_of_lt_of_le this (Nat.pow_le_pow_right (by omega) hl)
            omega
          have hnx := next_byte b s (a + 1 + j) 0 wr hR hs hend
          have hst := loopSt_step s a 255 j hend
          obtain ⟨x, hx⟩ : ∃ x, s[a + 1 + j] = x := ⟨_, rfl⟩
          rw [hx] at hnx hst
          have hxx := xor_byte x.toNat (byte_lt x) 255 (.inr rfl)
          rw [show UInt8.ofNat x.toNat = x from UInt8.ofNat_toNat] at hxx
          obtain ⟨d, hd⟩ : ∃ d, x ^^^ 255 = d := ⟨_, rfl⟩
          rw [hd] at hst hxx
          have hxx' : bits BinOp.xor IntKind.u8 (x.toNat : Int) 255 = (d.toNat : Int) := hxx
          have HX := Lib.hid hst
          have HN := Lib.hid hnx
          have hd8 := byte_lt d
          clear hx hnx hst q4 hxx hd
          go_wp2_with fail
          refine HN.out.mono ?_
          rintro e w2 ⟨rfl, h2, k2⟩
          go_wp2
          go_roundw
          case rel =>
            have hM := HQ.out
            have hor := or_byte (ofD (((s.data.toList.drop (a + 1)).take j).map (· ^^^ 255))) d.toNat (by omega) hd8
            rw [← hM] at hor
            refine ⟨j + 1, _, _, _, by omega, by go_num, rfl, bits_lo_u64 _ _ _, bits_hi_u64 _ _ _, h2, hO.trans k2, Lib.hid (.inl ⟨by omega, by omega, rfl, ?_⟩)⟩
            rw [HX.out, ofD_snoc, hor]
          case measure => simp [intOf]; omega
        · obtain rfl : a' = s.size := by omega
          subst q3
          have hx0 : bits BinOp.xor IntKind.u8 0 255 = 255 := by decide +kernel
          clear q2 q4
          go_wp2_with fail
          refine (next_end b s 0 _ hR).mono ?_
          rintro e w2 ⟨rfl, h2, k2⟩
          go_wp2
          go_roundw
          case rel => exact ⟨j + 1, _, _, _, by omega, by go_num, rfl, bits_lo_u64 _ _ _, bits_hi_u64 _ _ _, h2, hO.trans k2, Lib.hid (.inr ⟨by omega, rfl, rfl⟩)⟩
          case measure => simp [intOf]; omega
      · subst q2; subst q3
        have hx0 : bits BinOp.xor IntKind.u8 0 255 = 255 := by decide +kernel
        go_wp2_with fail
        refine (next_end b s 11 _ hR).mono ?_
        rintro e w2 ⟨rfl, h2, k2⟩
        go_wp2
        go_roundw
        case rel => exact ⟨j + 1, _, _, _, by omega, by go_num, rfl, bits_lo_u64 _ _ _, bits_hi_u64 _ _ _, h2, hO.trans k2, Lib.hid (.inr ⟨by omega, rfl, rfl⟩)⟩
        case measure => simp [intOf]; omega
    · obtain rfl : j = kOf c := by omega
      obtain ⟨m0, rfl⟩ := Int.eq_ofNat_of_zero_le hM0
      -- what the state says of the result
      have HBad' : Hid (∀ n, ¬ ((mag m0).length = kOf c ∧ m0 ≤ 4611686018427387904 ∧ InR (-(m0 : Int) - 1)) → IntPost s a n a' (orErr f 12)) := by
        refine Lib.hid (fun n hn => ?_)
        rcases HL.out with ⟨q1, q2, q3, q4⟩ | ⟨q1, q2, q3⟩
        · have e : m0 = ofD (digs c (s.data.toList.drop (a + 1))) := by unfold digs; rw [HI.out]; omega
          subst q3
          refine HBad.out n a' (by omega) ?_
          rw [← e]
          unfold sgn
          rw [if_pos HC.out]
          exact hn
        · subst q3
          exact HS.out n a' q1
      have HOk' : Hid ((mag m0).length = kOf c ∧ m0 ≤ 4611686018427387904 ∧ InR (-(m0 : Int) - 1) → IntPost s a (-(m0 : Int) - 1) a' f) := by
        refine Lib.hid (fun hn => ?_)
        rcases HL.out with ⟨q1, q2, q3, q4⟩ | ⟨q1, q2, q3⟩
        · have e : m0 = ofD (digs c (s.data.toList.drop (a + 1))) := by unfold digs; rw [HI.out]; omega
          have es : sgn c m0 = -(m0 : Int) - 1 := by unfold sgn; rw [if_pos HC.out]
          subst q3; subst q2
          have := HOk.out (by omega)
          rw [← e, es] at this
          exact this hn
        · subst q3
          exact HS.out _ a' q1
      have hm64 : m0 ≤ 18446744073709551615 := by omega
      by_cases hA : (mag m0).length = kOf c
      · have hA1 : (mag m0).length ≤ kOf c := by omega
        have hA1' : kOf c ≤ (mag m0).length := by omega
        have HA2 := Lib.hid hA
        clear hA
        by_cases hB : m0 ≤ 4611686018427387904
        · have hB1 : ¬ 4611686018427387904 < (m0 : Int) := by omega
          by_cases hR' : InR (-(m0 : Int) - 1)
          · have hR1 : decide (InR (-(m0 : Int) - 1)) = true := by simp only [hR', decide_true]
            have HR2 := Lib.hid hR'
            clear hR'
            go_wp2_with (first | (go_at_call 75; refine (digits_any m0 _ hm64).mono ?_; rintro e w' ⟨rfl, rfl⟩) | (go_at_call 61; refine (inRange_any _ _).mono ?_; rintro e w' ⟨rfl, rfl⟩))
            go_ret
            exact ⟨_, _, _, rfl, HOk'.out ⟨HA2.out, hB, HR2.out⟩, hR, hO⟩
          · have hR1 : decide (InR (-(m0 : Int) - 1)) = false := by simp only [hR', decide_false]
            have HR2 := Lib.hid hR'
            clear hR'
            go_wp2_with (first | (go_at_call 75; refine (digits_any m0 _ hm64).mono ?_; rintro e w' ⟨rfl, rfl⟩) | (go_at_call 61; refine (inRange_any _ _).mono ?_; rintro e w' ⟨rfl, rfl⟩) | (go_at_call 72; refine (fail_any b s _ _ _ _ hR).mono ?_; rintro e w2 ⟨rfl, h2, k2⟩))
            go_ret
            exact ⟨_, _, _, rfl, HBad'.out _ (fun h => HR2.out h.2.2), h2, hO.trans k2⟩
        · have hB1 : 4611686018427387904 < (m0 : Int) := by omega
          go_wp2_with (first | (go_at_call 75; refine (digits_any m0 _ hm64).mono ?_; rintro e w' ⟨rfl, rfl⟩) | (go_at_call 72; refine (fail_any b s _ _ _ _ hR).mono ?_; rintro e w2 ⟨rfl, h2, k2⟩))
          go_ret
          exact ⟨_, _, _, rfl, HBad'.out _ (fun h => hB h.2.1), h2, hO.trans k2⟩
      · have HA2 := Lib.hid hA
        rcases Nat.lt_or_gt_of_ne hA with hA1 | hA1
        all_goals
          clear hA
          go_wp2_with (first | (go_at_call 75; refine (digits_any m0 _ hm64).mono ?_; rintro e w' ⟨rfl, rfl⟩) | (go_at_call 72; refine (fail_any b s _ _ _ _ hR).mono ?_; rintro e w2 ⟨rfl, h2, k2⟩))
          go_ret
          exact ⟨_, _, _, rfl, HBad'.out _ (fun h => HA2.out h.1), h2, hO.trans k2⟩

set_option maxRecDepth 100000 in
set_option maxHeartbeats 2000000 in
theorem integer_pos (b : Nat) (s : ByteArray) (a : Nat) (ha : a < s.size) (hs : s.size ≤ 9223372036854775807) (hk : ¬ 8 < kOf s[a]) (hc : ¬ s[a] < 128) (w : World) (h : Rdr b s a 0 w) :
    Calls Try.prog 73 #[.pointer (some ⟨b, 0, none⟩)] w fun e w' => ∃ n a' f', e = .returned (.int .i64 n) ∧ IntPost s a n a' f' ∧ Rdr b s a' f' w' ∧ OnlyB b w w' := by
  have HS := Lib.hid (fun n a' hh => intPost_short s a ha hk hh n a')
  have HBad := Lib.hid (fun n a' h1 h2 => intPost_bad s a ha hk h1 n a' h2)
  have HOk := Lib.hid (fun h1 h2 => intPost_ok s a ha hk h1 h2)
  have HNX := Lib.hid (next_byte b s a 0 w h hs ha)
  obtain ⟨c, hcc⟩ : ∃ c, s[a] = c := ⟨_, rfl⟩
  rw [hcc] at hk hc HS HBad HOk HNX
  have hi : invC c = 0 := by unfold invC; rw [if_neg hc]
  have hK := kOf_byte c
  rw [hi] at hK
  have hK' : bits BinOp.xor IntKind.u8 (c.toNat : Int) 0 = 128 + (kOf c : Int) := hK
  have hc1 : ¬ (c.toNat : Int) < 128 := by have := fun h => hc ((UInt8.lt_iff_toNat_lt).2 h); simp at this; omega
  have hk8 : kOf c ≤ 8 := by omega
  have HI := Lib.hid hi
  have HCC := Lib.hid hcc
  have HC := Lib.hid hc
  clear hK hi hcc hk hc
  have HA := Lib.hid ha
  go_enter Try.func73, Try.ntmps73
  go_wp2_with fail
  refine HNX.out.mono ?_
  rintro e w1 ⟨rfl, h1, k1⟩
  go_wp2
  go_loopw [6, 22] (fun m i wr => ∃ (j : Nat) (M : Int) (a' : Nat) (f : Int), j ≤ kOf c ∧ i = .int .i64 j ∧ m = .int .u64 M ∧ 0 ≤ M ∧ M ≤ 18446744073709551615 ∧ Rdr b s a' f wr ∧ OnlyB b w wr ∧ Hid (LoopSt s a 0 j M a' f)) (fun _ i _ => kOf c - (intOf i).toNat)
  case atStart => exact ⟨0, 0, a + 1, 0, Nat.zero_le _, rfl, rfl, by omega, by omega, h1, k1, Lib.hid (.inl ⟨by have := HA.out; omega, rfl, rfl, rfl⟩)⟩
  case round =>
    obtain ⟨j, M, a', f, hj, rfl, rfl, hM0, hM1, hR, hO, HL⟩ := hrel
    by_cases hlt : j < kOf c
    · rcases HL.out with ⟨q1, q2, q3, q4⟩ | ⟨q1, q2, q3⟩
      · by_cases hend : a + 1 + j < s.size
        · subst q2; subst q3
          have HQ := Lib.hid q4
          have hMb : M < 72057594037927936 := by
            rw [q4]
            have := ofD_lt (((s.data.toList.drop (a + 1)).take j).map (· ^^^ 0))
            have hl : (((s.data.toList.drop (a + 1)).take j).map (· ^^^ (0 : UInt8))).length ≤ 7 := by simp; omega
            have := Nat.lt_of_lt_of_le this (Nat.pow_le_pow_right (by omega) hl)
            omega
          have hnx := next_byte b s (a + 1 + j) 0 wr hR hs hend
          have hst := loopSt_step s a 0 j hend
          obtain ⟨x, hx⟩ : ∃ x, s[a + 1 + j] = x := ⟨_, rfl⟩
          rw [hx] at hnx hst
          have hxx := xor_byte x.toNat (byte_lt x) 0 (.inl rfl)
          rw [show UInt8.ofNat x.toNat = x from UInt8.ofNat_toNat] at hxx
          obtain ⟨d, hd⟩ : ∃ d, x ^^^ 0 = d := ⟨_, rfl⟩
          rw [hd] at hst hxx
          have hxx' : bits BinOp.xor IntKind.u8 (x.toNat : Int) 0 = (d.toNat : Int) := hxx
          have HX := Lib.hid hst
          have HN := Lib.hid hnx
          have hd8 := byte_lt d
          clear hx hnx hst q4 hxx hd
          go_wp2_with fail
          refine HN.out.mono ?_
          rintro e w2 ⟨rfl, h2, k2⟩
          go_wp2
          go_roundw
          case rel =>
            have hM := HQ.out
            have hor := or_byte (ofD (((s.data.toList.drop (a + 1)).take j).map (· ^^^ 0))) d.toNat (by omega) hd8
            rw [← hM] at hor
            refine ⟨j + 1, _, _, _, by omega, by go_num, rfl, bits_lo_u64 _ _ _, bits_hi_u64 _ _ _, h2, hO.trans k2, Lib.hid (.inl ⟨by omega, by omega, rfl, ?_⟩)⟩
            rw [HX.out, ofD_snoc, hor]
          case measure => simp [intOf]; omega
        · obtain rfl : a' = s.size := by omega
          subst q3
          have hx0 : bits BinOp.xor IntKind.u8 0 0 = 0 := by decide +kernel
          clear q2 q4
          go_wp2_with fail
          refine (next_end b s 0 _ hR).mono ?_
          rintro e w2 ⟨rfl, h2, k2⟩
          go_wp2
          go_roundw
          case rel => exact ⟨j + 1, _, _, _, by omega, by go_num, rfl, bits_lo_u64 _ _ _, bits_hi_u64 _ _ _, h2, hO.trans k2, Lib.hid (.inr ⟨by omega, rfl, rfl⟩)⟩
          case measure => simp [intOf]; omega
      · subst q2; subst q3
        have hx0 : bits BinOp.xor IntKind.u8 0 0 = 0 := by decide +kernel
        go_wp2_with fail
        refine (next_end b s 11 _ hR).mono ?_
        rintro e w2 ⟨rfl, h2, k2⟩
        go_wp2
        go_roundw
        case rel => exact ⟨j + 1, _, _, _, by omega, by go_num, rfl, bits_lo_u64 _ _ _, bits_hi_u64 _ _ _, h2, hO.trans k2, Lib.hid (.inr ⟨by omega, rfl, rfl⟩)⟩
        case measure => simp [intOf]; omega
    · obtain rfl : j = kOf c := by omega
      obtain ⟨m0, rfl⟩ := Int.eq_ofNat_of_zero_le hM0
      -- what the state says of the result
      have HBad' : Hid (∀ n, ¬ ((mag m0).length = kOf c ∧ m0 ≤ 4611686018427387904 ∧ InR ((m0 : Int))) → IntPost s a n a' (orErr f 12)) := by
        refine Lib.hid (fun n hn => ?_)
        rcases HL.out with ⟨q1, q2, q3, q4⟩ | ⟨q1, q2, q3⟩
        · have e : m0 = ofD (digs c (s.data.toList.drop (a + 1))) := by unfold digs; rw [HI.out]; omega
          subst q3
          refine HBad.out n a' (by omega) ?_
          rw [← e]
          unfold sgn
          rw [if_neg HC.out]
          exact hn
        · subst q3
          exact HS.out n a' q1
      have HOk' : Hid ((mag m0).length = kOf c ∧ m0 ≤ 4611686018427387904 ∧ InR ((m0 : Int)) → IntPost s a ((m0 : Int)) a' f) := by
        refine Lib.hid (fun hn => ?_)
        rcases HL.out with ⟨q1, q2, q3, q4⟩ | ⟨q1, q2, q3⟩
        · have e : m0 = ofD (digs c (s.data.toList.drop (a + 1))) := by unfold digs; rw [HI.out]; omega
          have es : sgn c m0 = (m0 : Int) := by unfold sgn; rw [if_neg HC.out]
          subst q3; subst q2
          have := HOk.out (by omega)
          rw [← e, es] at this
          exact this hn
        · subst q3
          exact HS.out _ a' q1
      have hm64 : m0 ≤ 18446744073709551615 := by omega
      by_cases hA : (mag m0).length = kOf c
      · have hA1 : (mag m0).length ≤ kOf c := by omega
        have hA1' : kOf c ≤ (mag m0).length := by omega
        have HA2 := Lib.hid hA
        clear hA
        by_cases hB : m0 ≤ 4611686018427387904
        · have hB1 : ¬ 4611686018427387904 < (m0 : Int) := by omega
          by_cases hR' : InR ((m0 : Int))
          · have hR1 : decide (InR ((m0 : Int))) = true := by simp only [hR', decide_true]
            have HR2 := Lib.hid hR'
            clear hR'
            go_wp2_with (first | (go_at_call 75; refine (digits_any m0 _ hm64).mono ?_; rintro e w' ⟨rfl, rfl⟩) | (go_at_call 61; refine (inRange_any _ _).mono ?_; rintro e w' ⟨rfl, rfl⟩))
            go_ret
            exact ⟨_, _, _, rfl, HOk'.out ⟨HA2.out, hB, HR2.out⟩, hR, hO⟩
          · exact absurd (by unfold InR; omega) hR'
        · have hB1 : 4611686018427387904 < (m0 : Int) := by omega
          go_wp2_with (first | (go_at_call 75; refine (digits_any m0 _ hm64).mono ?_; rintro e w' ⟨rfl, rfl⟩) | (go_at_call 72; refine (fail_any b s _ _ _ _ hR).mono ?_; rintro e w2 ⟨rfl, h2, k2⟩))
          go_ret
          exact ⟨_, _, _, rfl, HBad'.out _ (fun h => hB h.2.1), h2, hO.trans k2⟩
      · have HA2 := Lib.hid hA
        rcases Nat.lt_or_gt_of_ne hA with hA1 | hA1
        all_goals
          clear hA
          go_wp2_with (first | (go_at_call 75; refine (digits_any m0 _ hm64).mono ?_; rintro e w' ⟨rfl, rfl⟩) | (go_at_call 72; refine (fail_any b s _ _ _ _ hR).mono ?_; rintro e w2 ⟨rfl, h2, k2⟩))
          go_ret
          exact ⟨_, _, _, rfl, HBad'.out _ (fun h => HA2.out h.1), h2, hO.trans k2⟩

theorem integer_any (b : Nat) (s : ByteArray) (a : Nat) (ha : a ≤ s.size) (hs : s.size ≤ 9223372036854775807) (w : World) (h : Rdr b s a 0 w) :
    Calls Try.prog 73 #[.pointer (some ⟨b, 0, none⟩)] w fun e w' => ∃ n a' f', e = .returned (.int .i64 n) ∧ IntPost s a n a' f' ∧ Rdr b s a' f' w' ∧ OnlyB b w w' := by
  by_cases he : a = s.size
  · subst he
    exact integer_end b s w h
  · have hl : a < s.size := by omega
    by_cases hk : 8 < kOf s[a]
    · exact integer_head b s a hl hs hk w h
    · by_cases hc : s[a] < 128
      · exact integer_neg b s a hl hs hk hc w h
      · exact integer_pos b s a hl hs hk hc w h

end Go.Proofs.Ytpkmdonejmbnoaa
