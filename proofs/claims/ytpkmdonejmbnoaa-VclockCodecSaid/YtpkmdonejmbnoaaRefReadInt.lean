/-
  What the reference's ReadInt returns, for every string.
-/
import Derived.Test.YtpkmdonejmbnoaaReadIntB
import Derived.Test.YtpkmdonejmbnoaaRefInt
namespace Go.Proofs.Ytpkmdonejmbnoaa
open Go.RowKit

theorem ofD_append (a b : List UInt8) : ofD (a ++ b) = ofD a * 256 ^ b.length + ofD b := by
  generalize hn : b.length = n
  induction n generalizing b with
  | zero => rw [List.length_eq_zero_iff.1 hn]; simp [ofD]
  | succ n ih =>
    obtain ⟨i, x, rfl⟩ := list_snoc b (by intro e; simp [e] at hn)
    rw [← List.append_assoc, ofD_snoc, ih i (by simpa using hn), ofD_snoc, Nat.pow_succ, Nat.add_mul]
    rw [Nat.mul_assoc, Nat.add_assoc]
theorem ofD_take_le (l : List UInt8) (j : Nat) : ofD (l.take j) ≤ ofD l := by
  have h := ofD_append (l.take j) (l.drop j)
  rw [List.take_append_drop] at h
  have : 1 ≤ 256 ^ (l.drop j).length := Nat.one_le_pow _ _ (by omega)
  have := Nat.mul_le_mul_left (ofD (l.take j)) this
  omega
theorem ofD_take_lt (l : List UInt8) (j : Nat) (hj : j < l.length) : ofD (l.take j) * 256 ≤ ofD l := by
  have h := ofD_append (l.take j) (l.drop j)
  rw [List.take_append_drop] at h
  have h1 : 256 ^ 1 ≤ 256 ^ (l.drop j).length := Nat.pow_le_pow_right (by omega) (by simp; omega)
  have := Nat.mul_le_mul_left (ofD (l.take j)) h1
  simp only [Nat.pow_one] at this
  omega

/-- What a string that begins with c stands for: an integer, or none. -/
def Good (c : UInt8) (r : List UInt8) : Prop := (mag (ofD (digs c r))).length = kOf c ∧ ofD (digs c r) ≤ 4611686018427387904 ∧ InR (sgn c (ofD (digs c r)))
theorem digs_length (c : UInt8) (r : List UInt8) (h : kOf c ≤ r.length) : (digs c r).length = kOf c := by simp [digs]; omega
theorem bad_zero (c : UInt8) (r : List UInt8) (h : kOf c ≤ r.length) (hk : 0 < kOf c) (d : UInt8) (hd : (digs c r)[0]? = some d) (h0 : d = 0) : ¬ Good c r := by
  rintro ⟨h1, _, _⟩
  subst h0
  have hl := digs_length c r h
  cases hds : digs c r with
  | nil => rw [hds] at hl; simp at hl; omega
  | cons b t =>
    rw [hds] at hd hl
    simp at hd
    subst hd
    have e2 : ofD (digs c r) = ofD t := by rw [hds]; simp [ofD]
    have e3 := ofD_lt t
    rw [← e2] at e3
    have := mag_length_le e3
    simp only [List.length_cons] at hl
    omega
theorem good_mag (c : UInt8) (r : List UInt8) (h : kOf c ≤ r.length) (hd : 0 < kOf c → ∃ d, (digs c r)[0]? = some d ∧ d ≠ 0) : (mag (ofD (digs c r))).length = kOf c := by
  rw [mag_ofD, digs_length c r h]
  intro b t e
  have hl := digs_length c r h
  rw [e] at hl
  obtain ⟨d, hd1, hd2⟩ := hd (by simp at hl; omega)
  rw [e] at hd1
  simp at hd1
  rw [hd1]; exact hd2

theorem dec_bad (c : UInt8) (r : List UInt8) (hk : kOf c ≤ 8) (h : kOf c ≤ r.length) (hg : ¬ Good c r) : decInt (c :: r) = .err 12 := by
  unfold Good at hg
  rw [decInt, if_neg (by omega), if_neg (by omega), if_neg hg]
theorem dec_good (c : UInt8) (r : List UInt8) (hk : kOf c ≤ 8) (h : kOf c ≤ r.length) (hg : Good c r) : decInt (c :: r) = .ok (sgn c (ofD (digs c r))) (1 + kOf c) := by
  unfold Good at hg
  rw [decInt, if_neg (by omega), if_neg (by omega), if_pos hg]

theorem kOf_val : ∀ c : Fin 256, (kOf (UInt8.ofNat c.val) : Int) = if c.val < 128 then 127 - (c.val : Int) else (c.val : Int) - 128 := by decide +kernel
theorem kOf_neg (c : UInt8) (h : c.toNat < 128) : (kOf c : Int) = 127 - (c.toNat : Int) := by
  have := kOf_val ⟨c.toNat, byte_lt c⟩
  simp only [UInt8.ofNat_toNat, h, if_true] at this
  exact this
theorem kOf_pos (c : UInt8) (h : ¬ c.toNat < 128) : (kOf c : Int) = (c.toNat : Int) - 128 := by
  have := kOf_val ⟨c.toNat, byte_lt c⟩
  simp only [UInt8.ofNat_toNat, h, if_false] at this
  exact this
theorem invC_neg (c : UInt8) (h : c.toNat < 128) : invC c = 255 := by unfold invC; rw [if_pos (by rw [UInt8.lt_iff_toNat_lt]; exact h)]
theorem invC_pos (c : UInt8) (h : ¬ c.toNat < 128) : invC c = 0 := by unfold invC; rw [if_neg (by rw [UInt8.lt_iff_toNat_lt]; exact h)]
theorem sgn_neg' (c : UInt8) (h : c.toNat < 128) (m : Nat) : sgn c m = -(m : Int) - 1 := by unfold sgn; rw [if_pos (by rw [UInt8.lt_iff_toNat_lt]; exact h)]
theorem sgn_pos' (c : UInt8) (h : ¬ c.toNat < 128) (m : Nat) : sgn c m = m := by unfold sgn; rw [if_neg (by rw [UInt8.lt_iff_toNat_lt]; exact h)]

/-- The result of ReadInt as values. -/
def ReadsInt (l : List UInt8) (w : World) (e : Ending) (w' : World) : Prop := e = .returned (.tuple #[.int .i64 ((decInt l).val 0), .int .i64 ((decInt l).len : Int), .int .i64 (decInt l).e]) ∧ w = w'
theorem readsInt_err {l : List UInt8} {w : World} {k : Nat} (h : decInt l = .err k) : ReadsInt l w (.returned (.tuple #[.int .i64 0, .int .i64 0, .int .i64 (k : Int)])) w := by
  unfold ReadsInt; rw [h]; exact ⟨rfl, rfl⟩
theorem readsInt_ok {l : List UInt8} {w : World} {n : Int} {k : Nat} (h : decInt l = .ok n k) : ReadsInt l w (.returned (.tuple #[.int .i64 n, .int .i64 (k : Int), .int .i64 0])) w := by
  unfold ReadsInt; rw [h]; exact ⟨rfl, rfl⟩

theorem toList_cons (s : ByteArray) (h : 0 < s.size) : s.data.toList = s[0] :: s.data.toList.drop 1 := by
  have := drop_cons s 0 h
  simpa using this
theorem digs_get (s : ByteArray) (h : 0 < s.size) (j : Nat) (hj : j < kOf s[0]) (hs : 1 + j < s.size) : (digs s[0] (s.data.toList.drop 1))[j]? = some (s[1 + j] ^^^ invC s[0]) := by
  unfold digs
  rw [List.getElem?_map, List.getElem?_take_of_lt hj, List.getElem?_drop, List.getElem?_eq_getElem (by simp; omega)]
  rfl
theorem take_digs (l : List UInt8) (j : Nat) (d : UInt8) (h : l[j]? = some d) : ofD (l.take (j + 1)) = ofD (l.take j) * 256 + d.toNat := by
  rw [List.take_add_one, h]
  exact ofD_snoc _ _

set_option maxRecDepth 100000 in
set_option maxHeartbeats 2000000 in
theorem refReadInt_neg (s : ByteArray) (w : World) (h0 : 0 < s.size) (hs : s.size ≤ 9223372036854775807) (hc : s[0].toNat < 128) (hk : kOf s[0] ≤ 8) (hl : kOf s[0] < s.size) :
    Calls Try.prog 68 #[.string s] w (ReadsInt s.data.toList w) := by
  have HL := Lib.hid (toList_cons s h0)
  have hrl : kOf s[0] ≤ (s.data.toList.drop 1).length := by simp; omega
  have HG := Lib.hid (digs_get s h0)
  have hbad := dec_bad s[0] (s.data.toList.drop 1) hk hrl
  have hgood := dec_good s[0] (s.data.toList.drop 1) hk hrl
  have hzero := bad_zero s[0] (s.data.toList.drop 1) hrl
  have hmag := good_mag s[0] (s.data.toList.drop 1) hrl
  have hlen := digs_length s[0] (s.data.toList.drop 1) hrl
  rw [← HL.out] at hbad hgood
  have hci : s[0]'h0 = s[0]'h0 := rfl
  obtain ⟨c, hcc⟩ : ∃ c, s[0]'h0 = c := ⟨_, rfl⟩
  have hsc : ∀ (m : Nat), sgn s[0] m = -(m : Int) - 1 := sgn_neg' _ hc
  have hic := invC_neg _ hc
  have hkv := kOf_neg _ hc
  rw [hcc] at hc hk hl hbad hgood hzero hmag hlen hsc hic hkv
  have HC0 := Lib.hid hcc
  obtain ⟨ds, hds⟩ : ∃ ds, digs c (s.data.toList.drop 1) = ds := ⟨_, rfl⟩
  unfold Good at hbad hgood hzero
  rw [hds] at hbad hgood hzero hmag hlen
  simp only [hsc] at hbad hgood hzero
  have HBad := Lib.hid hbad
  have HGood := Lib.hid hgood
  have HZero := Lib.hid hzero
  have HMag := Lib.hid hmag
  have HLen := Lib.hid hlen
  have HDs := Lib.hid hds
  have HI := Lib.hid hic
  clear hbad hgood hzero hmag hlen hds hic hsc hci hrl
  have hc1 : (c.toNat : Int) < 128 := by omega
  have hc2 : (119 : Int) ≤ (c.toNat : Int) := by omega
  have hkv' : 127 - (c.toNat : Int) = (kOf c : Int) := hkv.symm
  have hsl : (1 : Int) + (kOf c : Int) ≤ (s.size : Int) := by omega
  clear hkv
  go_enter Try.func68, Try.ntmps68
  go_wp2
  go_loop [8, 9] (fun n i => ∃ (j : Nat) (M : Nat), j ≤ kOf c ∧ i = .int .i64 ((j : Int) + 1) ∧ n = .int .i64 (M : Int) ∧ M ≤ 4611686018427387904 ∧ Hid (M = ofD (ds.take j) ∧ (0 < j → ∃ d, ds[0]? = some d ∧ d ≠ 0))) (fun _ i => kOf c + 1 - (intOf i).toNat)
  case atStart => exact ⟨0, 0, Nat.zero_le _, rfl, rfl, by omega, Lib.hid ⟨rfl, by omega⟩⟩
  case round =>
    obtain ⟨j, M, hj, rfl, rfl, hM, HR⟩ := hrel
    by_cases hlt : j < kOf c
    · obtain ⟨x, hx, hdx⟩ : ∃ x, s[j + 1]'(by omega) = x ∧ ds[j]? = some (x ^^^ 255) := by
        refine ⟨_, rfl, ?_⟩
        have := HG.out j (by rw [HC0.out]; exact hlt) (by omega)
        rw [HC0.out, HDs.out, HI.out] at this
        rw [this]
        simp only [Nat.add_comm]
      have hxd := inv_byte x
      obtain ⟨d, hd⟩ : ∃ d, x ^^^ 255 = d := ⟨_, rfl⟩
      rw [hd] at hdx hxd
      have hd8 := byte_lt d
      have hx8 := byte_lt x
      have HD := Lib.hid hdx
      have HT := Lib.hid (take_digs ds j d hdx)
      clear hd hdx
      by_cases hj0 : j = 0
      · subst hj0
        have hM0 : M = 0 := HR.out.1
        subst hM0
        by_cases hz : d.toNat = 0
        · have hz' : d = 0 := UInt8.toNat_inj.1 (by simpa using hz)
          have HZ := Lib.hid (HZero.out hlt d HD.out hz')
          have hzb : ((d.toNat : Int) == 0) = true := by rw [hz]; rfl
          clear hz hz'
          go_wp2
          go_ret3
          exact readsInt_err (HBad.out HZ.out)
        · have hz1 : 0 < d.toNat := by omega
          have hzb : ((d.toNat : Int) == 0) = false := by rw [beq_eq_false_iff_ne]; omega
          have HZ : Hid (d ≠ 0) := Lib.hid (by rintro rfl; simp at hz)
          clear hz
          go_wp2
          go_round
          case rel =>
            refine ⟨1, d.toNat, by omega, by simp, by simp, by omega, Lib.hid ⟨?_, fun _ => ⟨d, HD.out, HZ.out⟩⟩⟩
            rw [HT.out]; simp [ofD]
          case measure => simp [intOf]; omega
      · have hjp : 1 ≤ j := by omega
        have hj1 : ((j : Int) + 1 == 1) = false := by rw [beq_eq_false_iff_ne]; omega
        by_cases hb1 : 18014398509481984 < M
        · have hbig : 4611686018427387904 < ofD ds := by
            have := ofD_take_lt ds j (by rw [HLen.out]; exact hlt)
            rw [← HR.out.1] at this
            omega
          have HB := Lib.hid hbig
          clear hbig
          go_wp2
          go_ret3
          exact readsInt_err (HBad.out (fun h => by have := h.2.1; have := HB.out; omega))
        · by_cases hb2 : 4611686018427387904 < M * 256 + d.toNat
          · have hbig : 4611686018427387904 < ofD ds := by
              have := ofD_take_le ds (j + 1)
              rw [HT.out, ← HR.out.1] at this
              omega
            have HB := Lib.hid hbig
            clear hbig
            have hb3 : 4611686018427387904 < (M : Int) * 256 + (d.toNat : Int) := by omega
            go_wp2
            go_ret3
            exact readsInt_err (HBad.out (fun h => by have := h.2.1; have := HB.out; omega))
          · have hb3 : (M : Int) * 256 + (d.toNat : Int) ≤ 4611686018427387904 := by omega
            have hb4 : (0 : Int) ≤ (M : Int) * 256 + (d.toNat : Int) := by omega
            go_wp2
            go_round
            case rel =>
              refine ⟨j + 1, M * 256 + d.toNat, by omega, by go_num, by go_num, by omega, Lib.hid ⟨?_, fun _ => HR.out.2 hjp⟩⟩
              rw [HT.out, ← HR.out.1]
            case measure => simp [intOf]; omega
    · obtain rfl : j = kOf c := by omega
      have hfull : ds.take (kOf c) = ds := List.take_of_length_le (by rw [HLen.out]; omega)
      have hMd := HR.out.1
      rw [hfull] at hMd
      have HMd := Lib.hid hMd
      have HMg := Lib.hid (HMag.out HR.out.2)
      clear hfull hMd
      by_cases hlast : M = 4611686018427387904
      · have hb : ((M : Int) == 4611686018427387904) = true := by rw [hlast]; rfl
        have HB := Lib.hid hlast
        clear hlast
        go_wp2
        go_ret3
        exact readsInt_err (HBad.out (fun h => by have := h.2.2; rw [← HMd.out, HB.out] at this; unfold InR at this; omega))
      · have hb : ((M : Int) == 4611686018427387904) = false := by rw [beq_eq_false_iff_ne]; omega
        have hlast2 : M < 4611686018427387904 := by omega
        clear hlast
        go_wp2
        go_ret3
        have := readsInt_ok (w := w) (HGood.out ⟨HMg.out, by rw [← HMd.out]; exact hM, by rw [← HMd.out]; unfold InR; omega⟩)
        rw [← HMd.out] at this
        exact this

set_option maxRecDepth 100000 in
set_option maxHeartbeats 2000000 in
theorem refReadInt_pos (s : ByteArray) (w : World) (h0 : 0 < s.size) (hs : s.size ≤ 9223372036854775807) (hc : ¬ s[0].toNat < 128) (hk : kOf s[0] ≤ 8) (hl : kOf s[0] < s.size) :
    Calls Try.prog 68 #[.string s] w (ReadsInt s.data.toList w) := by
  have HL := Lib.hid (toList_cons s h0)
  have hrl : kOf s[0] ≤ (s.data.toList.drop 1).length := by simp; omega
  have HG := Lib.hid (digs_get s h0)
  have hbad := dec_bad s[0] (s.data.toList.drop 1) hk hrl
  have hgood := dec_good s[0] (s.data.toList.drop 1) hk hrl
  have hzero := bad_zero s[0] (s.data.toList.drop 1) hrl
  have hmag := good_mag s[0] (s.data.toList.drop 1) hrl
  have hlen := digs_length s[0] (s.data.toList.drop 1) hrl
  rw [← HL.out] at hbad hgood
  have hci : s[0]'h0 = s[0]'h0 := rfl
  obtain ⟨c, hcc⟩ : ∃ c, s[0]'h0 = c := ⟨_, rfl⟩
  have hsc : ∀ (m : Nat), sgn s[0] m = (m : Int) := sgn_pos' _ hc
  have hic := invC_pos _ hc
  have hkv := kOf_pos _ hc
  rw [hcc] at hc hk hl hbad hgood hzero hmag hlen hsc hic hkv
  have HC0 := Lib.hid hcc
  obtain ⟨ds, hds⟩ : ∃ ds, digs c (s.data.toList.drop 1) = ds := ⟨_, rfl⟩
  unfold Good at hbad hgood hzero
  rw [hds] at hbad hgood hzero hmag hlen
  simp only [hsc] at hbad hgood hzero
  have HBad := Lib.hid hbad
  have HGood := Lib.hid hgood
  have HZero := Lib.hid hzero
  have HMag := Lib.hid hmag
  have HLen := Lib.hid hlen
  have HDs := Lib.hid hds
  have HI := Lib.hid hic
  clear hbad hgood hzero hmag hlen hds hic hsc hci hrl
  have hc1 : ¬ (c.toNat : Int) < 128 := by omega
  have hc2 : (c.toNat : Int) ≤ 136 := by omega
  have hkv' : (c.toNat : Int) - 128 = (kOf c : Int) := hkv.symm
  have hsl : (1 : Int) + (kOf c : Int) ≤ (s.size : Int) := by omega
  clear hkv
  go_enter Try.func68, Try.ntmps68
  go_wp2
  go_loop [8, 9] (fun n i => ∃ (j : Nat) (M : Nat), j ≤ kOf c ∧ i = .int .i64 ((j : Int) + 1) ∧ n = .int .i64 (M : Int) ∧ M ≤ 4611686018427387904 ∧ Hid (M = ofD (ds.take j) ∧ (0 < j → ∃ d, ds[0]? = some d ∧ d ≠ 0))) (fun _ i => kOf c + 1 - (intOf i).toNat)
  case atStart => exact ⟨0, 0, Nat.zero_le _, rfl, rfl, by omega, Lib.hid ⟨rfl, by omega⟩⟩
  case round =>
    obtain ⟨j, M, hj, rfl, rfl, hM, HR⟩ := hrel
    by_cases hlt : j < kOf c
    · obtain ⟨d, hx, hdx⟩ : ∃ d, s[j + 1]'(by omega) = d ∧ ds[j]? = some d := by
        refine ⟨_, rfl, ?_⟩
        have := HG.out j (by rw [HC0.out]; exact hlt) (by omega)
        rw [HC0.out, HDs.out, HI.out, UInt8.xor_zero] at this
        rw [this]
        simp only [Nat.add_comm]
      have hd8 := byte_lt d
      have HD := Lib.hid hdx
      have HT := Lib.hid (take_digs ds j d hdx)
      clear hdx
      by_cases hj0 : j = 0
      · subst hj0
        have hM0 : M = 0 := HR.out.1
        subst hM0
        by_cases hz : d.toNat = 0
        · have hz' : d = 0 := UInt8.toNat_inj.1 (by simpa using hz)
          have HZ := Lib.hid (HZero.out hlt d HD.out hz')
          have hzb : ((d.toNat : Int) == 0) = true := by rw [hz]; rfl
          clear hz hz'
          go_wp2
          go_ret3
          exact readsInt_err (HBad.out HZ.out)
        · have hz1 : 0 < d.toNat := by omega
          have hzb : ((d.toNat : Int) == 0) = false := by rw [beq_eq_false_iff_ne]; omega
          have HZ : Hid (d ≠ 0) := Lib.hid (by rintro rfl; simp at hz)
          clear hz
          go_wp2
          go_round
          case rel =>
            refine ⟨1, d.toNat, by omega, by simp, by simp, by omega, Lib.hid ⟨?_, fun _ => ⟨d, HD.out, HZ.out⟩⟩⟩
            rw [HT.out]; simp [ofD]
          case measure => simp [intOf]; omega
      · have hjp : 1 ≤ j := by omega
        have hj1 : ((j : Int) + 1 == 1) = false := by rw [beq_eq_false_iff_ne]; omega
        by_cases hb1 : 18014398509481984 < M
        · have hbig : 4611686018427387904 < ofD ds := by
            have := ofD_take_lt ds j (by rw [HLen.out]; exact hlt)
            rw [← HR.out.1] at this
            omega
          have HB := Lib.hid hbig
          clear hbig
          go_wp2
          go_ret3
          exact readsInt_err (HBad.out (fun h => by have := h.2.1; have := HB.out; omega))
        · by_cases hb2 : 4611686018427387904 < M * 256 + d.toNat
          · have hbig : 4611686018427387904 < ofD ds := by
              have := ofD_take_le ds (j + 1)
              rw [HT.out, ← HR.out.1] at this
              omega
            have HB := Lib.hid hbig
            clear hbig
            have hb3 : 4611686018427387904 < (M : Int) * 256 + (d.toNat : Int) := by omega
            go_wp2
            go_ret3
            exact readsInt_err (HBad.out (fun h => by have := h.2.1; have := HB.out; omega))
          · have hb3 : (M : Int) * 256 + (d.toNat : Int) ≤ 4611686018427387904 := by omega
            have hb4 : (0 : Int) ≤ (M : Int) * 256 + (d.toNat : Int) := by omega
            go_wp2
            go_round
            case rel =>
              refine ⟨j + 1, M * 256 + d.toNat, by omega, by go_num, by go_num, by omega, Lib.hid ⟨?_, fun _ => HR.out.2 hjp⟩⟩
              rw [HT.out, ← HR.out.1]
            case measure => simp [intOf]; omega
    · obtain rfl : j = kOf c := by omega
      have hfull : ds.take (kOf c) = ds := List.take_of_length_le (by rw [HLen.out]; omega)
      have hMd := HR.out.1
      rw [hfull] at hMd
      have HMd := Lib.hid hMd
      have HMg := Lib.hid (HMag.out HR.out.2)
      clear hfull hMd
      go_wp2
      go_ret3
      have := readsInt_ok (w := w) (HGood.out ⟨HMg.out, by rw [← HMd.out]; exact hM, by rw [← HMd.out]; unfold InR; omega⟩)
      rw [← HMd.out] at this
      exact this

set_option maxRecDepth 100000 in
set_option maxHeartbeats 2000000 in
theorem refReadInt_any (s : ByteArray) (w : World) (hs : s.size ≤ 9223372036854775807) :
    Calls Try.prog 68 #[.string s] w (ReadsInt s.data.toList w) := by
  by_cases h0 : 0 < s.size
  · have hcons := toList_cons s h0
    by_cases hk : 8 < kOf s[0]
    · have he : decInt s.data.toList = .err 12 := by rw [hcons, decInt, if_pos hk]
      obtain ⟨c, hcc⟩ : ∃ c, s[0]'h0 = c := ⟨_, rfl⟩
      rw [hcc] at hk
      have HE := Lib.hid he
      clear he hcons
      by_cases hc : c.toNat < 128
      · have := kOf_neg c hc
        have hc1 : (c.toNat : Int) < 119 := by omega
        clear this
        go_enter Try.func68, Try.ntmps68
        go_wp2
        go_ret3
        exact readsInt_err HE.out
      · have := kOf_pos c hc
        have hc1 : 136 < (c.toNat : Int) := by omega
        have hc8 := byte_lt c
        clear this
        go_enter Try.func68, Try.ntmps68
        go_wp2
        go_ret3
        exact readsInt_err HE.out
    · by_cases hl : kOf s[0] < s.size
      · by_cases hc : s[0].toNat < 128
        · exact refReadInt_neg s w h0 hs hc (by omega) hl
        · exact refReadInt_pos s w h0 hs hc (by omega) hl
      · have he : decInt s.data.toList = .err 11 := by rw [hcons, decInt, if_neg hk, if_pos (by simp; omega)]
        obtain ⟨c, hcc⟩ : ∃ c, s[0]'h0 = c := ⟨_, rfl⟩
        rw [hcc] at hk hl
        have HE := Lib.hid he
        clear he hcons
        by_cases hc : c.toNat < 128
        · have hkv := kOf_neg c hc
          have hkv' : 127 - (c.toNat : Int) = (kOf c : Int) := hkv.symm
          have hc1 : (c.toNat : Int) < 128 := by omega
          have hc2 : (119 : Int) ≤ (c.toNat : Int) := by omega
          have hsl : (s.size : Int) < (1 : Int) + (kOf c : Int) := by omega
          clear hkv
          go_enter Try.func68, Try.ntmps68
          go_wp2
          go_ret3
          exact readsInt_err HE.out
        · have hkv := kOf_pos c hc
          have hkv' : (c.toNat : Int) - 128 = (kOf c : Int) := hkv.symm
          have hc1 : ¬ (c.toNat : Int) < 128 := by omega
          have hc2 : (c.toNat : Int) ≤ 136 := by omega
          have hsl : (s.size : Int) < (1 : Int) + (kOf c : Int) := by omega
          clear hkv
          go_enter Try.func68, Try.ntmps68
          go_wp2
          go_ret3
          exact readsInt_err HE.out
  · have hz : s.size = 0 := by omega
    have he : decInt s.data.toList = .err 11 := by rw [show s.data.toList = [] from List.eq_nil_of_length_eq_zero (by simpa using hz)]; rfl
    have HE := Lib.hid he
    have hb : ((s.size : Int) == 0) = true := by rw [hz]; rfl
    clear he hz
    go_enter Try.func68, Try.ntmps68
    go_wp2
    go_ret3
    exact readsInt_err HE.out

end Go.Proofs.Ytpkmdonejmbnoaa
