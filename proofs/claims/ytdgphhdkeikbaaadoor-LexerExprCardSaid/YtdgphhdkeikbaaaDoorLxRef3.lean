/-
  The reference's one.
-/
import Derived.Test.YtdgphhdkeikbaaaDoorLxRef2
import Derived.Test.YtdgphhdkeikbaaaDoorLxDivM
namespace Go.Proofs.YtdgphhdkeikbaaaDoor
set_option linter.unusedSimpArgs false
set_option linter.unusedVariables false
open Go.RowKit

theorem ext_mid2 (s : ByteArray) (a b : Nat) (h : a ≤ b) : (s.extract a b).data.toList = (s.data.toList.drop a).take (b - a) := by
  rw [show (s.extract a b).data = s.data.extract a b from by simp, Array.toList_extract, List.extract_eq_take_drop]
theorem ext_bBm (s : ByteArray) (a b : Nat) (h : a ≤ b) : s.extract a b = bB ((s.data.toList.drop a).take (b - a)) := by
  apply bytes_inj
  rw [ByteArray.toList_eq, ByteArray.toList_eq, bB_list, ext_mid2 s a b h]
theorem tw_more {p : UInt8 → Bool} {s : ByteArray} {a k : Nat} (hk : k < s.size) (hp : p (s[k]'hk) = true) (h : ((s.data.toList.drop a).takeWhile p).length + a = k + ((s.data.toList.drop k).takeWhile p).length) : ((s.data.toList.drop a).takeWhile p).length + a = k + 1 + ((s.data.toList.drop (k + 1)).takeWhile p).length := by
  rw [h, drop_at (at_list s k hk), List.takeWhile_cons, if_pos hp, List.length_cons]
  omega
theorem tw_end {p : UInt8 → Bool} {s : ByteArray} {a k : Nat} (hk : k < s.size) (hp : p (s[k]'hk) = false) (h : ((s.data.toList.drop a).takeWhile p).length + a = k + ((s.data.toList.drop k).takeWhile p).length) : ((s.data.toList.drop a).takeWhile p).length + a = k := by
  rw [h, drop_at (at_list s k hk), List.takeWhile_cons, if_neg (by rw [hp]; decide)]
  rfl
theorem tw_last {p : UInt8 → Bool} {s : ByteArray} {a : Nat} (h : ((s.data.toList.drop a).takeWhile p).length + a = s.size + ((s.data.toList.drop s.size).takeWhile p).length) : ((s.data.toList.drop a).takeWhile p).length + a = s.size := by
  rw [h, List.drop_of_length_le (by rw [list_len]; exact Nat.le_refl _)]
  rfl
theorem wd_dgS (l : LBy) : wdN l = dgN l + wdN (l.drop (dgN l)) := by
  unfold wdN dgN
  conv => lhs; rw [← List.takeWhile_append_dropWhile (p := isDg) (l := l)]
  rw [List.takeWhile_append_of_pos (fun c hc => dg_nm (mem_tw hc)), List.length_append, drop_tw]
theorem tokR_numS {c : UInt8} {r : LBy} (h : isDg c = true) (a : Nat) : tokR (c :: r) a = if wdN (c :: r) ≠ dgN (c :: r) ∨ (1 < dgN (c :: r) ∧ c = 48) then (zTk, 3) else if 1099511627776 < rdN ((c :: r).take (dgN (c :: r))) then (zTk, 2) else (⟨2, bB ((c :: r).take (dgN (c :: r))), rdN ((c :: r).take (dgN (c :: r))), a⟩, 0) := by
  unfold tokR one
  simp only [dg_low h, h, if_true, Bool.false_eq_true, if_false]
  by_cases h1 : wdN (c :: r) ≠ dgN (c :: r) ∨ (1 < dgN (c :: r) ∧ c = 48)
  · rw [if_pos h1, if_pos h1]
  · rw [if_neg h1, if_neg h1]
    by_cases h2 : 1099511627776 < rdN ((c :: r).take (dgN (c :: r)))
    · rw [if_pos h2, if_pos h2]
    · rw [if_neg h2, if_neg h2]
theorem tokR_sgnS {c : UInt8} {r : LBy} (h1 : isLow c = false) (h2 : isDg c = false) (a : Nat) : tokR (c :: r) a = if sgN (c :: r) = 0 then (zTk, 3) else (⟨3, bB ((c :: r).take (sgN (c :: r))), 0, a⟩, 0) := by
  unfold tokR one
  simp only [h1, h2, Bool.false_eq_true, if_false]
  by_cases h3 : sgN (c :: r) = 0
  · rw [if_pos h3, if_pos h3]
  · rw [if_neg h3, if_neg h3]; rfl
theorem chr_is2 (c : UInt8) (d : UInt8) : ((c.toNat : Int) == (d.toNat : Int)) = (c == d) := by
  rw [Bool.eq_iff_iff, beq_iff_eq, beq_iff_eq]
  constructor
  · intro h
    exact UInt8.toNat_inj.1 (by omega)
  · rintro rfl; rfl
theorem dg_at {x : ByteArray} (h : ∀ c ∈ x.data.toList, isDg c = true) : ∀ j (hj : j < x.size), isDg (x[j]'hj) = true := fun j hj => h _ (List.mem_of_getElem? (at_list x j hj))
set_option maxRecDepth 100000 in
set_option maxHeartbeats 16000000 in
theorem rone_any (s : ByteArray) (a : Nat) (w : World) (hs : s.size ≤ 4000) (ha : a < s.size) :
    Calls Tryd.prog 58 #[.string s, .int .i64 (a : Int)] w fun x w' => x = .returned (.tuple #[tkV (tokR (s.data.toList.drop a) a).1, .int .i64 (tokR (s.data.toList.drop a) a).2]) ∧ Below w.heap.size w w' := by
  obtain ⟨W, hW⟩ : ∃ W, w.alloc (.cells #[.int .i64 0, .string ⟨#[]⟩, .int .i64 0, .int .i64 0] TTk) = W := ⟨_, rfl⟩
  have hg : W.heap[w.heap.size]? = some (.cells #[.int .i64 0, .string ⟨#[]⟩, .int .i64 0, .int .i64 0] TTk (0, 0)) := by rw [← hW]; exact heapNew w _
  have hb : Below w.heap.size w W := by rw [← hW]; exact (Below.refl _ w).alloc (Nat.le_refl _) _
  have HW := Lib.hid hW
  have HG := Lib.hid hg
  have HB := Lib.hid hb
  have hd := drop_at (at_list s a ha)
  have hL := rletter_any (s[a]'ha) W
  have hD := rdigit_any (s[a]'ha) W
  have HI := Lib.hid (fun c => rinside_any c W)
  have HDG := Lib.hid (fun c => rdigit_any c W)
  have a0 : (0 : Int) ≤ (a : Int) := by omega
  have a1 : (a : Int) < (s.size : Int) := by omega
  have a2 : (a : Int) ≤ (s.size : Int) := by omega
  clear hW hg hb
  cases hlow : isLow (s[a]'ha) with
  | true =>
    have hR := fun n (hn : wdN (s.data.toList.drop a) = n) => (show tokR (s.data.toList.drop a) a = if 30 < n then (zTk, 5) else (⟨1, bB ((s.data.toList.drop a).take n), 0, a⟩, 0) from by rw [← hn, hd]; exact tokR_name hlow a)
    have HR := Lib.hid hR
    rw [hlow] at hL
    have HL := Lib.hid hL
    clear hL hD hR hd hlow HDG
    generalize tokR (s.data.toList.drop a) a = R at HR ⊢
    go_enter Tryd.func58, Tryd.ntmps58
    go_wp2_with fail
    rw [HW.out]
    refine HL.out.mono ?_
    rintro x w' ⟨rfl, hw⟩
    subst hw
    go_wp2
    go_loopw [6] (fun s6 wr => ∃ k : Nat, s6 = .int .i64 (k : Int) ∧ a ≤ k ∧ k ≤ s.size ∧ Hid (((s.data.toList.drop a).takeWhile isNmC).length + a = k + ((s.data.toList.drop k).takeWhile isNmC).length) ∧ wr = w') (fun s6 _ => s.size - (intOf s6).toNat)
    case atStart => exact ⟨a, rfl, Nat.le_refl _, Nat.le_of_lt ha, Lib.hid (by omega), rfl⟩
    case round =>
      obtain ⟨k, rfl, hak, hk, HK, rfl⟩ := hrel
      by_cases hlt : k < s.size
      · have k1 : (k : Int) < (s.size : Int) := by omega
        have hC := HI.out (s[k]'hlt)
        cases hc : isNmC (s[k]'hlt) with
        | true =>
          rw [hc] at hC
          have HC := Lib.hid hC
          have HK2 := Lib.hid (tw_more hlt hc HK.out)
          clear hC hc
          go_wp2_with fail
          refine HC.out.mono ?_
          rintro x w2 ⟨rfl, hw⟩
          subst hw
          go_wp2
          go_roundw
          case rel => exact ⟨k + 1, by go_num, by omega, by omega, HK2, by first | rfl | trivial⟩
          case measure => simp [intOf]; omega
        | false =>
          rw [hc] at hC
          have HC := Lib.hid hC
          have HE := Lib.hid (tw_end hlt hc HK.out)
          clear hC hc
          obtain ⟨m, hm⟩ : ∃ m, wdN (s.data.toList.drop a) = m := ⟨_, rfl⟩
          have hme : m + a = k := by rw [← hm]; exact HE.out
          have hRR := HR.out m hm
          by_cases h30 : 30 < m
          · rw [if_pos h30] at hRR
            have HRR := Lib.hid hRR
            have k3 : (30 : Int) < (k : Int) - (a : Int) := by omega
            clear hRR hm hme h30
            go_wp2_with fail
            refine HC.out.mono ?_
            rintro x w2 ⟨rfl, hw⟩
            subst hw
            go_wp2_with (refine wpList_store_row rfl TTk (.tmp 4) (.tmp 30) rfl w.heap.size #[.int .i64 0, .string ⟨#[]⟩, .int .i64 0, .int .i64 0] rfl rfl _ _ HG.out (by kernel_rfl) rfl (by simp [Value.oneCell']) ?_)
            try simp only [Exit.inBlock, Exit.then]
            refine bodyPost_ret (ret_tk Tryd.results58 _ w.heap.size zTk _ _ (setRow_heap _ _ _ _ _ _ HG.out) rfl rfl) rfl ⟨?_, below_setRow HB.out (Nat.le_refl _) _⟩
            rw [HRR.out]
            rfl
          · rw [if_neg h30] at hRR
            have hex := ext_bBm s a k (by omega)
            rw [show k - a = m by omega] at hex
            have HRR := Lib.hid (hRR.trans (by rw [← hex]))
            have k3 : ¬ (30 : Int) < (k : Int) - (a : Int) := by omega
            have k4 : (a : Int) ≤ (k : Int) := by omega
            have k5 : (k : Int) ≤ (s.size : Int) := by omega
            have k6 : (0 : Int) ≤ (k : Int) := by omega
            clear hRR hm hme h30 hex
            go_wp2_with fail
            refine HC.out.mono ?_
            rintro x w2 ⟨rfl, hw⟩
            subst hw
            go_wp2_with (refine wpList_store_row rfl TTk (.tmp 4) (.tmp 36) rfl w.heap.size #[.int .i64 1, .string (s.extract a k), .int .i64 0, .int .i64 (a : Int)] rfl rfl _ _ HG.out (by kernel_rfl) rfl (by simp [Value.oneCell']) ?_)
            try simp only [Exit.inBlock, Exit.then]
            refine bodyPost_ret (ret_tk Tryd.results58 _ w.heap.size ⟨1, s.extract a k, 0, a⟩ _ _ (setRow_heap _ _ _ _ _ _ HG.out) rfl rfl) rfl ⟨?_, below_setRow HB.out (Nat.le_refl _) _⟩
            rw [HRR.out]
            rfl
      · have k1 : ¬ (k : Int) < (s.size : Int) := by omega
        obtain rfl : k = s.size := by omega
        have HE := Lib.hid (tw_last HK.out)
        obtain ⟨m, hm⟩ : ∃ m, wdN (s.data.toList.drop a) = m := ⟨_, rfl⟩
        have hme : m + a = s.size := by rw [← hm]; exact HE.out
        have hRR := HR.out m hm
        by_cases h30 : 30 < m
        · rw [if_pos h30] at hRR
          have HRR := Lib.hid hRR
          have k3 : (30 : Int) < (s.size : Int) - (a : Int) := by omega
          clear hRR hm hme h30
          go_wp2_with (refine wpList_store_row rfl TTk (.tmp 4) (.tmp 30) rfl w.heap.size #[.int .i64 0, .string ⟨#[]⟩, .int .i64 0, .int .i64 0] rfl rfl _ _ HG.out (by kernel_rfl) rfl (by simp [Value.oneCell']) ?_)
          try simp only [Exit.inBlock, Exit.then]
          refine bodyPost_ret (ret_tk Tryd.results58 _ w.heap.size zTk _ _ (setRow_heap _ _ _ _ _ _ HG.out) rfl rfl) rfl ⟨?_, below_setRow HB.out (Nat.le_refl _) _⟩
          rw [HRR.out]
          rfl
        · rw [if_neg h30] at hRR
          have hex := ext_bBm s a s.size (by omega)
          rw [show s.size - a = m by omega] at hex
          have HRR := Lib.hid (hRR.trans (by rw [← hex]))
          have k3 : ¬ (30 : Int) < (s.size : Int) - (a : Int) := by omega
          have k4 : (a : Int) ≤ (s.size : Int) := by omega
          have k5 : (s.size : Int) ≤ (s.size : Int) := by omega
          have k6 : (0 : Int) ≤ (s.size : Int) := by omega
          clear hRR hm hme h30 hex
          go_wp2_with (refine wpList_store_row rfl TTk (.tmp 4) (.tmp 36) rfl w.heap.size #[.int .i64 1, .string (s.extract a s.size), .int .i64 0, .int .i64 (a : Int)] rfl rfl _ _ HG.out (by kernel_rfl) rfl (by simp [Value.oneCell']) ?_)
          try simp only [Exit.inBlock, Exit.then]
          refine bodyPost_ret (ret_tk Tryd.results58 _ w.heap.size ⟨1, s.extract a s.size, 0, a⟩ _ _ (setRow_heap _ _ _ _ _ _ HG.out) rfl rfl) rfl ⟨?_, below_setRow HB.out (Nat.le_refl _) _⟩
          rw [HRR.out]
          rfl
  | false =>
    rw [hlow] at hL
    have HL := Lib.hid hL
    cases hdg : isDg (s[a]'ha) with
    | true =>
      have hR : ∀ n wd, dgN (s.data.toList.drop a) = n → wdN (s.data.toList.drop a) = wd → tokR (s.data.toList.drop a) a = if wd ≠ n ∨ (1 < n ∧ s[a]'ha = 48) then (zTk, 3) else if 1099511627776 < rdN ((s.data.toList.drop a).take n) then (zTk, 2) else (⟨2, bB ((s.data.toList.drop a).take n), rdN ((s.data.toList.drop a).take n), a⟩, 0) := fun n wd h1 h2 => by rw [← h1, ← h2, hd]; exact tokR_numS hdg a
      have HR := Lib.hid hR
      have HWD := Lib.hid (wd_dgS (s.data.toList.drop a))
      rw [hdg] at hD
      have HD := Lib.hid hD
      have HC48 : Hid (((s[a]'ha).toNat : Int) == 48 ↔ s[a]'ha = 48) := Lib.hid (by rw [show ((48 : Int)) = ((48 : UInt8).toNat : Int) from rfl, chr_is2]; simp)
      clear hL hD hR hd hlow hdg
      generalize tokR (s.data.toList.drop a) a = R at HR ⊢
      go_enter Tryd.func58, Tryd.ntmps58
      go_wp2_with fail
      rw [HW.out]
      refine HL.out.mono ?_
      rintro x w' ⟨rfl, hw⟩
      subst hw
      go_wp2_with fail
      refine HD.out.mono ?_
      rintro x w2 ⟨rfl, hw⟩
      subst hw
      go_wp2
      go_loopw [6] (fun s6 wr => ∃ k : Nat, s6 = .int .i64 (k : Int) ∧ a ≤ k ∧ k ≤ s.size ∧ Hid (((s.data.toList.drop a).takeWhile isDg).length + a = k + ((s.data.toList.drop k).takeWhile isDg).length) ∧ wr = w2) (fun s6 _ => s.size - (intOf s6).toNat)
      case atStart => exact ⟨a, rfl, Nat.le_refl _, Nat.le_of_lt ha, Lib.hid (by omega), rfl⟩
      case round =>
        obtain ⟨k, rfl, hak, hk, HK, rfl⟩ := hrel
        by_cases hlt : k < s.size
        · have k1 : (k : Int) < (s.size : Int) := by omega
          have hC := HDG.out (s[k]'hlt)
          cases hc : isDg (s[k]'hlt) with
          | true =>
            rw [hc] at hC
            have HC := Lib.hid hC
            have HK2 := Lib.hid (tw_more hlt hc HK.out)
            clear hC hc
            go_wp2_with fail
            refine HC.out.mono ?_
            rintro x w3 ⟨rfl, hw⟩
            subst hw
            go_wp2
            go_roundw
            case rel => exact ⟨k + 1, by go_num, by omega, by omega, HK2, by first | rfl | trivial⟩
            case measure => simp [intOf]; omega
          | false =>
            rw [hc] at hC
            have HC := Lib.hid hC
            have HE := Lib.hid (tw_end hlt hc HK.out)
            clear hC hc
            obtain ⟨m, hm⟩ : ∃ m, dgN (s.data.toList.drop a) = m := ⟨_, rfl⟩
            have hme : m + a = k := by rw [← hm]; exact HE.out
            have hex := ext_bBm s a k (by omega)
            rw [show k - a = m by omega] at hex
            have k4 : (a : Int) ≤ (k : Int) := by omega
            have k5 : (k : Int) ≤ (s.size : Int) := by omega
            have k6 : (0 : Int) ≤ (k : Int) := by omega
            have hxl : (s.extract a k).data.toList = (s.data.toList.drop a).take m := by rw [hex, bB_list]
            have hxd : ∀ c ∈ (s.extract a k).data.toList, isDg c = true := by
              rw [hxl, ← hm]
              intro c hc
              unfold dgN at hc
              rw [take_tw] at hc
              exact mem_tw hc
            have hxs : (s.extract a k).size ≤ 9223372036854775807 := by simp; omega
            have HNU := Lib.hid (fun W => rnumber_any (s.extract a k) W hxs (dg_at hxd))
            rw [hxl] at HNU
            have hwd := HWD.out
            rw [hm, List.drop_drop] at hwd
            rw [show a + m = k by omega] at hwd
            obtain ⟨wd, hwd2⟩ : ∃ x, wdN (s.data.toList.drop a) = x := ⟨_, rfl⟩
            have hRR := HR.out m wd hm hwd2
            rw [hwd2] at hwd
            have hin := HI.out (s[k]'hlt)
            have hwk : wdN (s.data.toList.drop k) = 0 ↔ isNmC (s[k]'hlt) = false := by
              rw [drop_at (at_list s k hlt)]
              unfold wdN
              rw [List.takeWhile_cons]
              cases isNmC (s[k]'hlt) <;> simp
            have HC48x := HC48.out
            by_cases c1 : 1 < m ∧ s[a]'ha = 48
            · rw [if_pos (.inr c1)] at hRR
              have HRR := Lib.hid hRR
              have k7 : (1 : Int) < (k : Int) - (a : Int) := by omega
              have k8 : (((s[a]'ha).toNat : Int) == 48) = true := HC48x.2 c1.2
              clear hRR hm hme hex hxl hxd hxs HNU hwd hwd2 HC48x hin hwk
              go_wp2_with fail
              refine HC.out.mono ?_
              rintro x w3 ⟨rfl, hw⟩
              subst hw
              go_wp2_with (refine wpList_store_row rfl TTk (.tmp 4) (.tmp 75) rfl w.heap.size #[.int .i64 0, .string ⟨#[]⟩, .int .i64 0, .int .i64 0] rfl rfl _ _ HG.out (by kernel_rfl) rfl (by simp [Value.oneCell']) ?_)
              try simp only [Exit.inBlock, Exit.then]
              refine bodyPost_ret (ret_tk Tryd.results58 _ w.heap.size zTk _ _ (setRow_heap _ _ _ _ _ _ HG.out) rfl rfl) rfl ⟨?_, below_setRow HB.out (Nat.le_refl _) _⟩
              rw [HRR.out]
              rfl
            · have cases1 : (¬ (1 : Int) < (k : Int) - (a : Int)) ∨ ((1 : Int) < (k : Int) - (a : Int) ∧ (((s[a]'ha).toNat : Int) == 48) = false) := by
                by_cases c2 : 1 < m
                · right
                  refine ⟨by omega, ?_⟩
                  cases hb : (((s[a]'ha).toNat : Int) == 48) with
                  | false => rfl
                  | true => exact absurd ⟨c2, HC48x.1 hb⟩ c1
                · left; omega
              cases hnm : isNmC (s[k]'hlt) with
              | true =>
                rw [if_pos (.inl (by rw [hwd]; intro e; rw [show wdN (s.data.toList.drop k) = 0 by omega] at hwk; have := hwk.1 rfl; rw [hnm] at this; cases this))] at hRR
                have HRR := Lib.hid hRR
                rw [hnm] at hin
                have HIN := Lib.hid hin
                clear hRR hm hme hex hxl hxd hxs HNU hwd hwd2 HC48x hin hwk hnm c1
                rcases cases1 with k7 | ⟨k7, k8⟩
                · go_wp2_with fail
                  refine HC.out.mono ?_
                  rintro x w3 ⟨rfl, hw⟩
                  subst hw
                  go_wp2_with fail
                  refine HIN.out.mono ?_
                  rintro x w4 ⟨rfl, hw⟩
                  subst hw
                  go_wp2_with (refine wpList_store_row rfl TTk (.tmp 4) (.tmp 75) rfl w.heap.size #[.int .i64 0, .string ⟨#[]⟩, .int .i64 0, .int .i64 0] rfl rfl _ _ HG.out (by kernel_rfl) rfl (by simp [Value.oneCell']) ?_)
                  try simp only [Exit.inBlock, Exit.then]
                  refine bodyPost_ret (ret_tk Tryd.results58 _ w.heap.size zTk _ _ (setRow_heap _ _ _ _ _ _ HG.out) rfl rfl) rfl ⟨?_, below_setRow HB.out (Nat.le_refl _) _⟩
                  rw [HRR.out]
                  rfl
                · go_wp2_with fail
                  refine HC.out.mono ?_
                  rintro x w3 ⟨rfl, hw⟩
                  subst hw
                  go_wp2_with fail
                  refine HIN.out.mono ?_
                  rintro x w4 ⟨rfl, hw⟩
                  subst hw
                  go_wp2_with (refine wpList_store_row rfl TTk (.tmp 4) (.tmp 75) rfl w.heap.size #[.int .i64 0, .string ⟨#[]⟩, .int .i64 0, .int .i64 0] rfl rfl _ _ HG.out (by kernel_rfl) rfl (by simp [Value.oneCell']) ?_)
                  try simp only [Exit.inBlock, Exit.then]
                  refine bodyPost_ret (ret_tk Tryd.results58 _ w.heap.size zTk _ _ (setRow_heap _ _ _ _ _ _ HG.out) rfl rfl) rfl ⟨?_, below_setRow HB.out (Nat.le_refl _) _⟩
                  rw [HRR.out]
                  rfl
              | false =>
                rw [if_neg (by rintro (e | e); exact e (by rw [hwd, hwk.2 hnm]; rfl); exact c1 e)] at hRR
                rw [hnm] at hin
                have HIN := Lib.hid hin
                have HRR0 := Lib.hid hRR
                have HEX := Lib.hid hex
                clear hRR hm hme hxl hxd hxs hwd hwd2 HC48x hex hin hwk hnm c1
                rcases cases1 with k7 | ⟨k7, k8⟩
                · go_wp2_with fail
                  refine HC.out.mono ?_
                  rintro x w3 ⟨rfl, hw⟩
                  subst hw
                  go_wp2_with fail
                  refine HIN.out.mono ?_
                  rintro x w4 ⟨rfl, hw⟩
                  subst hw
                  go_wp2_with fail
                  refine (HNU.out _).mono ?_
                  rintro x w5 ⟨⟨n, rfl, hn⟩, hw⟩
                  subst hw
                  rcases hn with hn | ⟨hn1, hn2⟩
                  · by_cases hbig : 1099511627776 < n
                    · have HRR := Lib.hid (HRR0.out.trans (if_pos (by omega)))
                      have k9 : (1099511627776 : Int) < (n : Int) := by omega
                      clear hn hbig
                      go_wp2_with (refine wpList_store_row rfl TTk (.tmp 4) (.tmp 83) rfl w.heap.size #[.int .i64 0, .string ⟨#[]⟩, .int .i64 0, .int .i64 0] rfl rfl _ _ HG.out (by kernel_rfl) rfl (by simp [Value.oneCell']) ?_)
                      try simp only [Exit.inBlock, Exit.then]
                      refine bodyPost_ret (ret_tk Tryd.results58 _ w.heap.size zTk _ _ (setRow_heap _ _ _ _ _ _ HG.out) rfl rfl) rfl ⟨?_, below_setRow HB.out (Nat.le_refl _) _⟩
                      rw [HRR.out]
                      rfl
                    · have HRR := Lib.hid (HRR0.out.trans (if_neg (by omega)))
                      rw [← hn, ← HEX.out] at HRR
                      have k9 : ¬ (1099511627776 : Int) < (n : Int) := by omega
                      clear hn hbig
                      go_wp2_with (refine wpList_store_row rfl TTk (.tmp 4) (.tmp 90) rfl w.heap.size #[.int .i64 2, .string (s.extract a k), .int .i64 (n : Int), .int .i64 (a : Int)] rfl rfl _ _ HG.out (by kernel_rfl) rfl (by simp [Value.oneCell']) ?_)
                      try simp only [Exit.inBlock, Exit.then]
                      refine bodyPost_ret (ret_tk Tryd.results58 _ w.heap.size ⟨2, s.extract a k, n, a⟩ _ _ (setRow_heap _ _ _ _ _ _ HG.out) rfl rfl) rfl ⟨?_, below_setRow HB.out (Nat.le_refl _) _⟩
                      rw [HRR.out]
                      rfl
                  · have HRR := Lib.hid (HRR0.out.trans (if_pos hn2))
                    have k9 : (1099511627776 : Int) < (n : Int) := by omega
                    clear hn1 hn2
                    go_wp2_with (refine wpList_store_row rfl TTk (.tmp 4) (.tmp 83) rfl w.heap.size #[.int .i64 0, .string ⟨#[]⟩, .int .i64 0, .int .i64 0] rfl rfl _ _ HG.out (by kernel_rfl) rfl (by simp [Value.oneCell']) ?_)
                    try simp only [Exit.inBlock, Exit.then]
                    refine bodyPost_ret (ret_tk Tryd.results58 _ w.heap.size zTk _ _ (setRow_heap _ _ _ _ _ _ HG.out) rfl rfl) rfl ⟨?_, below_setRow HB.out (Nat.le_refl _) _⟩
                    rw [HRR.out]
                    rfl
                · go_wp2_with fail
                  refine HC.out.mono ?_
                  rintro x w3 ⟨rfl, hw⟩
                  subst hw
                  go_wp2_with fail
                  refine HIN.out.mono ?_
                  rintro x w4 ⟨rfl, hw⟩
                  subst hw
                  go_wp2_with fail
                  refine (HNU.out _).mono ?_
                  rintro x w5 ⟨⟨n, rfl, hn⟩, hw⟩
                  subst hw
                  rcases hn with hn | ⟨hn1, hn2⟩
                  · by_cases hbig : 1099511627776 < n
                    · have HRR := Lib.hid (HRR0.out.trans (if_pos (by omega)))
                      have k9 : (1099511627776 : Int) < (n : Int) := by omega
                      clear hn hbig
                      go_wp2_with (refine wpList_store_row rfl TTk (.tmp 4) (.tmp 83) rfl w.heap.size #[.int .i64 0, .string ⟨#[]⟩, .int .i64 0, .int .i64 0] rfl rfl _ _ HG.out (by kernel_rfl) rfl (by simp [Value.oneCell']) ?_)
                      try simp only [Exit.inBlock, Exit.then]
                      refine bodyPost_ret (ret_tk Tryd.results58 _ w.heap.size zTk _ _ (setRow_heap _ _ _ _ _ _ HG.out) rfl rfl) rfl ⟨?_, below_setRow HB.out (Nat.le_refl _) _⟩
                      rw [HRR.out]
                      rfl
                    · have HRR := Lib.hid (HRR0.out.trans (if_neg (by omega)))
                      rw [← hn, ← HEX.out] at HRR
                      have k9 : ¬ (1099511627776 : Int) < (n : Int) := by omega
                      clear hn hbig
                      go_wp2_with (refine wpList_store_row rfl TTk (.tmp 4) (.tmp 90) rfl w.heap.size #[.int .i64 2, .string (s.extract a k), .int .i64 (n : Int), .int .i64 (a : Int)] rfl rfl _ _ HG.out (by kernel_rfl) rfl (by simp [Value.oneCell']) ?_)
                      try simp only [Exit.inBlock, Exit.then]
                      refine bodyPost_ret (ret_tk Tryd.results58 _ w.heap.size ⟨2, s.extract a k, n, a⟩ _ _ (setRow_heap _ _ _ _ _ _ HG.out) rfl rfl) rfl ⟨?_, below_setRow HB.out (Nat.le_refl _) _⟩
                      rw [HRR.out]
                      rfl
                  · have HRR := Lib.hid (HRR0.out.trans (if_pos hn2))
                    have k9 : (1099511627776 : Int) < (n : Int) := by omega
                    clear hn1 hn2
                    go_wp2_with (refine wpList_store_row rfl TTk (.tmp 4) (.tmp 83) rfl w.heap.size #[.int .i64 0, .string ⟨#[]⟩, .int .i64 0, .int .i64 0] rfl rfl _ _ HG.out (by kernel_rfl) rfl (by simp [Value.oneCell']) ?_)
                    try simp only [Exit.inBlock, Exit.then]
                    refine bodyPost_ret (ret_tk Tryd.results58 _ w.heap.size zTk _ _ (setRow_heap _ _ _ _ _ _ HG.out) rfl rfl) rfl ⟨?_, below_setRow HB.out (Nat.le_refl _) _⟩
                    rw [HRR.out]
                    rfl
        · have k1 : ¬ (k : Int) < (s.size : Int) := by omega
          obtain rfl : k = s.size := by omega
          have HE := Lib.hid (tw_last HK.out)
          obtain ⟨m, hm⟩ : ∃ m, dgN (s.data.toList.drop a) = m := ⟨_, rfl⟩
          have hme : m + a = s.size := by rw [← hm]; exact HE.out
          have hex := ext_bBm s a s.size (by omega)
          rw [show s.size - a = m by omega] at hex
          have k4 : (a : Int) ≤ (s.size : Int) := by omega
          have k5 : (s.size : Int) ≤ (s.size : Int) := by omega
          have k6 : (0 : Int) ≤ (s.size : Int) := by omega
          have hxl : (s.extract a s.size).data.toList = (s.data.toList.drop a).take m := by rw [hex, bB_list]
          have hxd : ∀ c ∈ (s.extract a s.size).data.toList, isDg c = true := by
            rw [hxl, ← hm]
            intro c hc
            unfold dgN at hc
            rw [take_tw] at hc
            exact mem_tw hc
          have hxs : (s.extract a s.size).size ≤ 9223372036854775807 := by simp; omega
          have HNU := Lib.hid (fun W => rnumber_any (s.extract a s.size) W hxs (dg_at hxd))
          rw [hxl] at HNU
          have hwd := HWD.out
          rw [hm, List.drop_drop] at hwd
          rw [show a + m = s.size by omega] at hwd
          obtain ⟨wd, hwd2⟩ : ∃ x, wdN (s.data.toList.drop a) = x := ⟨_, rfl⟩
          have hRR := HR.out m wd hm hwd2
          rw [hwd2] at hwd
          have hw0 : wd = m := by rw [hwd, List.drop_of_length_le (by rw [list_len]; exact Nat.le_refl _)]; rfl
          have HC48x := HC48.out
          by_cases c1 : 1 < m ∧ s[a]'ha = 48
          · rw [if_pos (.inr c1)] at hRR
            have HRR := Lib.hid hRR
            have k7 : (1 : Int) < (s.size : Int) - (a : Int) := by omega
            have k8 : (((s[a]'ha).toNat : Int) == 48) = true := HC48x.2 c1.2
            clear hRR hm hme hex hxl hxd hxs HNU hwd hwd2 HC48x hw0
            go_wp2_with (refine wpList_store_row rfl TTk (.tmp 4) (.tmp 75) rfl w.heap.size #[.int .i64 0, .string ⟨#[]⟩, .int .i64 0, .int .i64 0] rfl rfl _ _ HG.out (by kernel_rfl) rfl (by simp [Value.oneCell']) ?_)
            try simp only [Exit.inBlock, Exit.then]
            refine bodyPost_ret (ret_tk Tryd.results58 _ w.heap.size zTk _ _ (setRow_heap _ _ _ _ _ _ HG.out) rfl rfl) rfl ⟨?_, below_setRow HB.out (Nat.le_refl _) _⟩
            rw [HRR.out]
            rfl
          · have cases1 : (¬ (1 : Int) < (s.size : Int) - (a : Int)) ∨ ((1 : Int) < (s.size : Int) - (a : Int) ∧ (((s[a]'ha).toNat : Int) == 48) = false) := by
              by_cases c2 : 1 < m
              · right
                refine ⟨by omega, ?_⟩
                cases hb : (((s[a]'ha).toNat : Int) == 48) with
                | false => rfl
                | true => exact absurd ⟨c2, HC48x.1 hb⟩ c1
              · left; omega
            rw [if_neg (by rintro (e | e); exact e hw0; exact c1 e)] at hRR
            have HRR0 := Lib.hid hRR
            have HEX := Lib.hid hex
            clear hRR hm hme hxl hxd hxs hwd hwd2 HC48x hex hw0 c1
            rcases cases1 with k7 | ⟨k7, k8⟩
            · go_wp2_with fail
              refine (HNU.out _).mono ?_
              rintro x w5 ⟨⟨n, rfl, hn⟩, hw⟩
              subst hw
              rcases hn with hn | ⟨hn1, hn2⟩
              · by_cases hbig : 1099511627776 < n
                · have HRR := Lib.hid (HRR0.out.trans (if_pos (by omega)))
                  have k9 : (1099511627776 : Int) < (n : Int) := by omega
                  clear hn hbig
                  go_wp2_with (refine wpList_store_row rfl TTk (.tmp 4) (.tmp 83) rfl w.heap.size #[.int .i64 0, .string ⟨#[]⟩, .int .i64 0, .int .i64 0] rfl rfl _ _ HG.out (by kernel_rfl) rfl (by simp [Value.oneCell']) ?_)
                  try simp only [Exit.inBlock, Exit.then]
                  refine bodyPost_ret (ret_tk Tryd.results58 _ w.heap.size zTk _ _ (setRow_heap _ _ _ _ _ _ HG.out) rfl rfl) rfl ⟨?_, below_setRow HB.out (Nat.le_refl _) _⟩
                  rw [HRR.out]
                  rfl
                · have HRR := Lib.hid (HRR0.out.trans (if_neg (by omega)))
                  rw [← hn, ← HEX.out] at HRR
                  have k9 : ¬ (1099511627776 : Int) < (n : Int) := by omega
                  clear hn hbig
                  go_wp2_with (refine wpList_store_row rfl TTk (.tmp 4) (.tmp 90) rfl w.heap.size #[.int .i64 2, .string (s.extract a s.size), .int .i64 (n : Int), .int .i64 (a : Int)] rfl rfl _ _ HG.out (by kernel_rfl) rfl (by simp [Value.oneCell']) ?_)
                  try simp only [Exit.inBlock, Exit.then]
                  refine bodyPost_ret (ret_tk Tryd.results58 _ w.heap.size ⟨2, s.extract a s.size, n, a⟩ _ _ (setRow_heap _ _ _ _ _ _ HG.out) rfl rfl) rfl ⟨?_, below_setRow HB.out (Nat.le_refl _) _⟩
                  rw [HRR.out]
                  rfl
              · have HRR := Lib.hid (HRR0.out.trans (if_pos hn2))
                have k9 : (1099511627776 : Int) < (n : Int) := by omega
                clear hn1 hn2
                go_wp2_with (refine wpList_store_row rfl TTk (.tmp 4) (.tmp 83) rfl w.heap.size #[.int .i64 0, .string ⟨#[]⟩, .int .i64 0, .int .i64 0] rfl rfl _ _ HG.out (by kernel_rfl) rfl (by simp [Value.oneCell']) ?_)
                try simp only [Exit.inBlock, Exit.then]
                refine bodyPost_ret (ret_tk Tryd.results58 _ w.heap.size zTk _ _ (setRow_heap _ _ _ _ _ _ HG.out) rfl rfl) rfl ⟨?_, below_setRow HB.out (Nat.le_refl _) _⟩
                rw [HRR.out]
                rfl
            · go_wp2_with fail
              refine (HNU.out _).mono ?_
              rintro x w5 ⟨⟨n, rfl, hn⟩, hw⟩
              subst hw
              rcases hn with hn | ⟨hn1, hn2⟩
              · by_cases hbig : 1099511627776 < n
                · have HRR := Lib.hid (HRR0.out.trans (if_pos (by omega)))
                  have k9 : (1099511627776 : Int) < (n : Int) := by omega
                  clear hn hbig
                  go_wp2_with (refine wpList_store_row rfl TTk (.tmp 4) (.tmp 83) rfl w.heap.size #[.int .i64 0, .string ⟨#[]⟩, .int .i64 0, .int .i64 0] rfl rfl _ _ HG.out (by kernel_rfl) rfl (by simp [Value.oneCell']) ?_)
                  try simp only [Exit.inBlock, Exit.then]
                  refine bodyPost_ret (ret_tk Tryd.results58 _ w.heap.size zTk _ _ (setRow_heap _ _ _ _ _ _ HG.out) rfl rfl) rfl ⟨?_, below_setRow HB.out (Nat.le_refl _) _⟩
                  rw [HRR.out]
                  rfl
                · have HRR := Lib.hid (HRR0.out.trans (if_neg (by omega)))
                  rw [← hn, ← HEX.out] at HRR
                  have k9 : ¬ (1099511627776 : Int) < (n : Int) := by omega
                  clear hn hbig
                  go_wp2_with (refine wpList_store_row rfl TTk (.tmp 4) (.tmp 90) rfl w.heap.size #[.int .i64 2, .string (s.extract a s.size), .int .i64 (n : Int), .int .i64 (a : Int)] rfl rfl _ _ HG.out (by kernel_rfl) rfl (by simp [Value.oneCell']) ?_)
                  try simp only [Exit.inBlock, Exit.then]
                  refine bodyPost_ret (ret_tk Tryd.results58 _ w.heap.size ⟨2, s.extract a s.size, n, a⟩ _ _ (setRow_heap _ _ _ _ _ _ HG.out) rfl rfl) rfl ⟨?_, below_setRow HB.out (Nat.le_refl _) _⟩
                  rw [HRR.out]
                  rfl
              · have HRR := Lib.hid (HRR0.out.trans (if_pos hn2))
                have k9 : (1099511627776 : Int) < (n : Int) := by omega
                clear hn1 hn2
                go_wp2_with (refine wpList_store_row rfl TTk (.tmp 4) (.tmp 83) rfl w.heap.size #[.int .i64 0, .string ⟨#[]⟩, .int .i64 0, .int .i64 0] rfl rfl _ _ HG.out (by kernel_rfl) rfl (by simp [Value.oneCell']) ?_)
                try simp only [Exit.inBlock, Exit.then]
                refine bodyPost_ret (ret_tk Tryd.results58 _ w.heap.size zTk _ _ (setRow_heap _ _ _ _ _ _ HG.out) rfl rfl) rfl ⟨?_, below_setRow HB.out (Nat.le_refl _) _⟩
                rw [HRR.out]
                rfl
    | false =>
      have hR : ∀ n, sgN (s.data.toList.drop a) = n → tokR (s.data.toList.drop a) a = if n = 0 then (zTk, 3) else (⟨3, bB ((s.data.toList.drop a).take n), 0, a⟩, 0) := fun n h1 => by rw [← h1, hd]; exact tokR_sgnS hlow hdg a
      have HR := Lib.hid hR
      rw [hdg] at hD
      have HD := Lib.hid hD
      have hsg := rsign_any (s.extract a s.size)
      rw [ext_drop] at hsg
      have hle := sgF_le signL (s.data.toList.drop a)
      rw [List.length_drop, list_len] at hle
      change sgN (s.data.toList.drop a) ≤ s.size - a at hle
      obtain ⟨n, hn⟩ : ∃ n, sgN (s.data.toList.drop a) = n := ⟨_, rfl⟩
      have hRR := HR.out n hn
      rw [hn] at hsg hle
      have hsz : (s.extract a s.size).size ≤ 9223372036854775807 := by simp; omega
      have HSG := Lib.hid (fun W => hsg W hsz)
      have HEX := Lib.hid (ext_bBm s a (a + n) (by omega))
      rw [Nat.add_sub_cancel_left] at HEX
      clear hL hD hR hd hlow hdg hn hsg HR
      generalize tokR (s.data.toList.drop a) a = R at hRR ⊢
      by_cases hz : n = 0
      · rw [if_pos hz] at hRR
        have q1 : ((n : Int) == 0) = true := by simp [hz]
        have HRR := Lib.hid hRR
        clear hRR hz
        go_enter Tryd.func58, Tryd.ntmps58
        go_wp2_with fail
        rw [HW.out]
        refine HL.out.mono ?_
        rintro x w' ⟨rfl, hw⟩
        subst hw
        go_wp2_with fail
        refine HD.out.mono ?_
        rintro x w2 ⟨rfl, hw⟩
        subst hw
        go_wp2_with fail
        refine (HSG.out _).mono ?_
        rintro x w3 ⟨rfl, b3⟩
        have HG3 := Lib.hid ((b3.block _ (ltH HG.out)).trans HG.out)
        have HB3 := Lib.hid (HB.out.trans (b3.mono HB.out.size))
        clear b3
        go_wp2_with (refine wpList_store_row rfl TTk (.tmp 4) (.tmp 97) rfl w.heap.size #[.int .i64 0, .string ⟨#[]⟩, .int .i64 0, .int .i64 0] rfl rfl _ _ HG3.out (by kernel_rfl) rfl (by simp [Value.oneCell']) ?_)
        try simp only [Exit.inBlock, Exit.then]
        refine bodyPost_ret (ret_tk Tryd.results58 _ w.heap.size zTk _ _ (setRow_heap _ _ _ _ _ _ HG3.out) rfl rfl) rfl ⟨?_, below_setRow HB3.out (Nat.le_refl _) _⟩
        rw [HRR.out]
        rfl
      · rw [if_neg hz] at hRR
        have q1 : ((n : Int) == 0) = false := by simp [hz]
        have e1 : (a : Int) ≤ (a : Int) + (n : Int) := by omega
        have e2 : (a : Int) + (n : Int) ≤ (s.size : Int) := by omega
        have e3 : (0 : Int) ≤ (a : Int) + (n : Int) := by omega
        have HRR := Lib.hid hRR
        clear hRR hz
        go_enter Tryd.func58, Tryd.ntmps58
        go_wp2_with fail
        rw [HW.out]
        refine HL.out.mono ?_
        rintro x w' ⟨rfl, hw⟩
        subst hw
        go_wp2_with fail
        refine HD.out.mono ?_
        rintro x w2 ⟨rfl, hw⟩
        subst hw
        go_wp2_with fail
        refine (HSG.out _).mono ?_
        rintro x w3 ⟨rfl, b3⟩
        have HG3 := Lib.hid ((b3.block _ (ltH HG.out)).trans HG.out)
        have HB3 := Lib.hid (HB.out.trans (b3.mono HB.out.size))
        clear b3
        go_wp2_with (refine wpList_store_row rfl TTk (.tmp 4) (.tmp 105) rfl w.heap.size #[.int .i64 3, .string (s.extract a (a + n)), .int .i64 0, .int .i64 (a : Int)] rfl rfl _ _ HG3.out (by kernel_rfl) rfl (by simp [Value.oneCell']) ?_)
        try simp only [Exit.inBlock, Exit.then]
        refine bodyPost_ret (ret_tk Tryd.results58 _ w.heap.size ⟨3, s.extract a (a + n), 0, a⟩ _ _ (setRow_heap _ _ _ _ _ _ HG3.out) rfl rfl) rfl ⟨?_, below_setRow HB3.out (Nat.le_refl _) _⟩
        rw [HRR.out, ← HEX.out]
        rfl
end Go.Proofs.YtdgphhdkeikbaaaDoor
