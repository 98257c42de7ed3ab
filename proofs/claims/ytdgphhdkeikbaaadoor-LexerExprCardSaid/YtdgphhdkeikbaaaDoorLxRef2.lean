/-
  The reference's number, sign and Keyword.
-/
import Derived.Deep.QuietTactic
import Derived.BigQuiet
import Derived.RegionTactic
import Derived.Test.YtdgphhdkeikbaaaDoorLxRef1
import Derived.Test.YtdgphhdkeikbaaaDoorLxTokAt
import Derived.Test.YtdgphhdkeikbaaaDoorLxKw
import Derived.Test.YtdgphhdkeikbaaaDoorLxMem
namespace Go.Proofs.YtdgphhdkeikbaaaDoor
set_option linter.unusedSimpArgs false
set_option linter.unusedVariables false
open Go.RowKit

theorem rdN_snoc (l : LBy) (c : UInt8) : rdN (l ++ [c]) = rdN l * 10 + (c.toNat - 48) := by
  unfold rdN
  rw [List.foldl_append]
  rfl
theorem rdN_le_app (a b : LBy) : rdN a ≤ rdN (a ++ b) := by
  unfold rdN
  rw [List.foldl_append]
  exact rdA_le b _
theorem take_next (s : ByteArray) (j : Nat) (h : j < s.size) : s.data.toList.take (j + 1) = s.data.toList.take j ++ [s[j]'h] := by
  have hl : j < s.data.toList.length := by rw [Array.length_toList]; exact h
  rw [List.take_succ_eq_append_getElem hl]
  rfl
theorem dg_bounds {c : UInt8} (h : isDg c = true) : (48 : Int) ≤ (c.toNat : Int) ∧ (c.toNat : Int) ≤ 57 := by
  rw [dgI] at h
  simpa using h
set_option maxRecDepth 100000 in
set_option maxHeartbeats 4000000 in
theorem rnumber_any (s : ByteArray) (w : World) (hs : s.size ≤ 9223372036854775807) (hd : ∀ j (h : j < s.size), isDg (s[j]'h) = true) :
    Calls Tryd.prog 83 #[.string s] w fun e w' => (∃ n : Nat, e = .returned (.int .i64 (n : Int)) ∧ (n = rdN s.data.toList ∨ (1099511627776 < n ∧ 1099511627776 < rdN s.data.toList))) ∧ w' = w := by
  have HD := Lib.hid hd
  clear hd
  go_enter Tryd.func83, Tryd.ntmps83
  go_wp2
  go_loopw [3, 4] (fun s3 s4 wr => ∃ j n : Nat, s3 = .int .i64 (n : Int) ∧ s4 = .int .i64 (j : Int) ∧ j ≤ s.size ∧ n ≤ 10995116277769 ∧ Hid (n = rdN (s.data.toList.take j)) ∧ wr = w) (fun _ s4 _ => s.size - (intOf s4).toNat)
  case atStart => exact ⟨0, 0, rfl, rfl, Nat.zero_le _, Nat.zero_le _, Lib.hid rfl, rfl⟩
  case round =>
    obtain ⟨j, n, rfl, rfl, hj, hn, HN, rfl⟩ := hrel
    by_cases hlt : j < s.size
    · have k1 : (j : Int) < (s.size : Int) := by omega
      by_cases hle : n ≤ 1099511627776
      · have k2 : (n : Int) ≤ 1099511627776 := by omega
        obtain ⟨d1, d2⟩ := dg_bounds (HD.out j hlt)
        have HX := Lib.hid (take_next s j hlt)
        obtain ⟨c, hc⟩ : ∃ c, s[j]'hlt = c := ⟨_, rfl⟩
        have hcn : (s[j]'hlt).toNat = c.toNat := by rw [hc]
        rw [hc] at d1 d2 HX
        have HN2 : Hid (n * 10 + (c.toNat - 48) = rdN (s.data.toList.take (j + 1))) := Lib.hid (by rw [HX.out, rdN_snoc, ← HN.out])
        have e1 : IntKind.u8.wrap (((s[j]'hlt).toNat : Int) - 48) = ((s[j]'hlt).toNat : Int) - 48 := by
          rw [hcn]
          obtain ⟨z, hz⟩ : ∃ z : Nat, (c.toNat : Int) - 48 = (z : Int) := ⟨c.toNat - 48, by omega⟩
          rw [hz]
          have : z < 256 := by omega
          simp [IntKind.wrap, IntKind.bits, IntKind.signed]
          omega
        have e2 : (0 : Int) ≤ ((s[j]'hlt).toNat : Int) - 48 := by rw [hcn]; omega
        have e3 : ((s[j]'hlt).toNat : Int) - 48 ≤ 9 := by rw [hcn]; omega
        have HC := Lib.hid hcn
        clear hc hcn HX
        go_wp2
        go_roundw
        case rel => exact ⟨j + 1, n * 10 + (c.toNat - 48), by rw [HC.out]; go_num, by go_num, by omega, by omega, HN2, by first | rfl | trivial⟩
        case measure => simp [intOf]; omega
      · have k2 : ¬ (n : Int) ≤ 1099511627776 := by omega
        have HR : Hid (n = rdN s.data.toList ∨ (1099511627776 < n ∧ 1099511627776 < rdN s.data.toList)) := Lib.hid (.inr ⟨by omega, by
          have h1 := rdN_le_app (s.data.toList.take j) (s.data.toList.drop j)
          rw [List.take_append_drop, ← HN.out] at h1
          omega⟩)
        go_wp2
        go_ret
        exact ⟨⟨n, rfl, HR.out⟩, rfl⟩
    · obtain rfl : j = s.size := by omega
      have HR : Hid (n = rdN s.data.toList ∨ (1099511627776 < n ∧ 1099511627776 < rdN s.data.toList)) := Lib.hid (.inl (by
        have h1 := HN.out
        rwa [List.take_of_length_le (by rw [list_len]; exact Nat.le_refl _)] at h1))
      go_wp2
      go_ret
      exact ⟨⟨n, rfl, HR.out⟩, rfl⟩

/-! ### sign -/
def sgCells : List Value := signL.map fun x => .string (bB x)
theorem sgF_yes {x : LBy} {ss : List LBy} {l : LBy} (h : x.isPrefixOf l = true) : sgF (x :: ss) l = x.length := by
  unfold sgF; rw [List.find?_cons, h]; rfl
theorem sgF_no {x : LBy} {ss : List LBy} {l : LBy} (h : x.isPrefixOf l = false) : sgF (x :: ss) l = sgF ss l := by
  unfold sgF; rw [List.find?_cons, h]
theorem signL_len : ∀ x ∈ signL, x.length ≤ 2 := by decide
theorem sg_at (i : Nat) (h : i < 21) : ∃ x : LBy, signL.drop i = x :: signL.drop (i + 1) ∧ sgCells[i]? = some (.string (bB x)) ∧ x.length ≤ 2 := by
  have hl : i < signL.length := h
  refine ⟨signL[i], List.drop_eq_getElem_cons hl, by unfold sgCells; rw [List.getElem?_map, List.getElem?_eq_getElem hl]; rfl, ?_⟩
  have := signL_len signL[i] (List.getElem_mem hl)
  exact this
theorem pre_raw (s : ByteArray) (x : LBy) : (decide (x.length ≤ s.size) && ((s.extract 0 x.length).toList == x)) = x.isPrefixOf s.data.toList := by
  rw [ByteArray.toList_eq, ext_take, Bool.eq_iff_iff, List.isPrefixOf_iff_prefix]
  simp only [Bool.and_eq_true, decide_eq_true_eq, beq_iff_eq]
  constructor
  · rintro ⟨_, h⟩
    rw [← h]
    exact List.take_prefix _ _
  · intro h
    refine ⟨by have := h.length_le; rwa [list_len] at this, ?_⟩
    obtain ⟨t, ht⟩ := h
    rw [← ht]
    simp
set_option maxRecDepth 100000 in
set_option maxHeartbeats 4000000 in
theorem rsign_any (s : ByteArray) (w : World) (hs : s.size ≤ 9223372036854775807) :
    Calls Tryd.prog 84 #[.string s] w fun e w' => e = .returned (.int .i64 (sgN s.data.toList : Nat)) ∧ Below w.heap.size w w' := by
  have HG : Hid ((w.alloc (.cells sgCells.toArray 9)).heap[w.heap.size]? = some (.cells sgCells.toArray 9 (0, 0))) := Lib.hid (heapNew w _)
  have HB0 : Hid (Below w.heap.size w (w.alloc (.cells sgCells.toArray 9))) := Lib.hid ((Below.refl _ w).alloc (Nat.le_refl _) _)
  go_enter Tryd.func84, Tryd.ntmps84
  go_wp2
  go_loopw [4] (fun s4 wr => ∃ i : Nat, s4 = .int .i64 (i : Int) ∧ i ≤ 21 ∧ Hid (sgN s.data.toList = sgF (signL.drop i) s.data.toList) ∧ Hid (wr.heap[w.heap.size]? = some (.cells sgCells.toArray 9 (0, 0))) ∧ Hid (Below w.heap.size w wr)) (fun s4 _ => 21 - (intOf s4).toNat)
  case atStart => exact ⟨0, rfl, Nat.zero_le _, Lib.hid rfl, HG, HB0⟩
  case round =>
    obtain ⟨i, rfl, hi, HI, HGR, HB⟩ := hrel
    by_cases hlt : i < 21
    · have k1 : (i : Int) < 21 := by omega
      obtain ⟨x, hx1, hx2, hx3⟩ := sg_at i hlt
      have c0 : wr.cell? ⟨w.heap.size, i, none⟩ = some (.string (bB x)) := by rw [Lib.cell_of_heap HGR.out]; simpa using hx2
      have hp := pre_raw s x
      have hI := HI.out
      rw [hx1] at hI
      have hbs := bB_size x
      obtain ⟨b, hb⟩ : ∃ b, bB x = b := ⟨_, rfl⟩
      have hbl : b.toList = x := by rw [← hb, ByteArray.toList_eq, bB_list]
      rw [hb] at c0 hbs
      rw [← hbs] at hp
      have HBL := Lib.hid hbl
      by_cases hle : b.size ≤ s.size
      · have k2 : (b.size : Int) ≤ (s.size : Int) := by omega
        have k2b : decide ((b.size : Int) ≤ (s.size : Int)) = true := by simpa using k2
        have k2c : decide (b.size ≤ s.size) = true := by simpa using hle
        have k3 : (0 : Int) ≤ (b.size : Int) := by omega
        rw [k2c, Bool.true_and] at hp
        cases hpre : x.isPrefixOf s.data.toList with
        | true =>
          rw [hpre, ← hbl] at hp
          have HR : Hid ((b.size : Int) = (sgN s.data.toList : Nat)) := Lib.hid (by rw [hI, sgF_yes hpre, hbs])
          have hb2 : b.size ≤ 2 := by omega
          clear hpre hI hbl hb hx1 hx2 hx3 hbs HI
          go_wp2
          go_quiet (fail)
          go_wp2
          go_ret
          exact ⟨by rw [← HR.out]; rfl, HB.out.os, HB.out.tape, HB.out.output, HB.out.size, HB.out.block⟩
        | false =>
          rw [hpre, ← hbl] at hp
          have HI2 : Hid (sgN s.data.toList = sgF (signL.drop (i + 1)) s.data.toList) := Lib.hid (by rw [hI, sgF_no hpre])
          have hb2 : b.size ≤ 2 := by omega
          clear hpre hI hbl hb hx1 hx2 hx3 hbs HI
          go_wp2
          go_quiet (fail)
          go_wp2
          go_roundw
          case rel => exact ⟨i + 1, by go_num, by omega, HI2, HGR, Lib.hid ⟨HB.out.os, HB.out.tape, HB.out.output, HB.out.size, HB.out.block⟩⟩
          case measure => simp [intOf]; omega
      · have k2 : ¬ (b.size : Int) ≤ (s.size : Int) := by omega
        have k2b : decide ((b.size : Int) ≤ (s.size : Int)) = false := by simpa using k2
        have k2c : decide (b.size ≤ s.size) = false := by simpa using hle
        rw [k2c, Bool.false_and] at hp
        have HI2 : Hid (sgN s.data.toList = sgF (signL.drop (i + 1)) s.data.toList) := Lib.hid (by rw [hI, sgF_no hp.symm])
        have hb2 : b.size ≤ 2 := by omega
        clear hp hI hbl hb hx1 hx2 hx3 hbs HI
        go_wp2
        go_quiet (fail)
        go_wp2
        go_roundw
        case rel => exact ⟨i + 1, by go_num, by omega, HI2, HGR, Lib.hid ⟨HB.out.os, HB.out.tape, HB.out.output, HB.out.size, HB.out.block⟩⟩
        case measure => simp [intOf]; omega
    · obtain rfl : i = 21 := by omega
      have HR : Hid (sgN s.data.toList = 0) := Lib.hid (by rw [HI.out]; rfl)
      go_wp2
      go_ret
      exact ⟨by rw [HR.out]; rfl, HB.out⟩

/-! ### Keyword -/
def kwCells : List Value := kwD.map fun x => .string (bB x)
theorem kw_at2 (i : Nat) (h : i < 69) : ∃ x : LBy, kwD.drop i = x :: kwD.drop (i + 1) ∧ kwCells[i]? = some (.string (bB x)) := by
  have hl : i < kwD.length := h
  exact ⟨kwD[i], List.drop_eq_getElem_cons hl, by unfold kwCells; rw [List.getElem?_map, List.getElem?_eq_getElem hl]; rfl⟩
set_option maxRecDepth 100000 in
set_option maxHeartbeats 8000000 in
theorem rKeyword_any (s : ByteArray) (w : World) :
    Calls Tryd.prog 76 #[.string s] w fun e w' => e = .returned (.bool (kwB s)) ∧ Below w.heap.size w w' := by
  have HG : Hid ((w.alloc (.cells kwCells.toArray 9)).heap[w.heap.size]? = some (.cells kwCells.toArray 9 (0, 0))) := Lib.hid (heapNew w _)
  have HB0 : Hid (Below w.heap.size w (w.alloc (.cells kwCells.toArray 9))) := Lib.hid ((Below.refl _ w).alloc (Nat.le_refl _) _)
  go_enter Tryd.func76, Tryd.ntmps76
  go_wp2
  go_loopw [4] (fun s4 wr => ∃ i : Nat, s4 = .int .i64 (i : Int) ∧ i ≤ 69 ∧ Hid (kwB s = (kwD.drop i).contains s.data.toList) ∧ Hid (wr.heap[w.heap.size]? = some (.cells kwCells.toArray 9 (0, 0))) ∧ Hid (Below w.heap.size w wr)) (fun s4 _ => 69 - (intOf s4).toNat)
  case atStart => exact ⟨0, rfl, Nat.zero_le _, Lib.hid rfl, HG, HB0⟩
  case round =>
    obtain ⟨i, rfl, hi, HI, HGR, HB⟩ := hrel
    by_cases hlt : i < 69
    · have k1 : (i : Int) < 69 := by omega
      obtain ⟨x, hx1, hx2⟩ := kw_at2 i hlt
      have c0 : wr.cell? ⟨w.heap.size, i, none⟩ = some (.string (bB x)) := by rw [Lib.cell_of_heap HGR.out]; simpa using hx2
      have hI := HI.out
      rw [hx1, List.contains_cons] at hI
      obtain ⟨b, hb⟩ : ∃ b, bB x = b := ⟨_, rfl⟩
      have hbl : b.data.toList = x := by rw [← hb, bB_list]
      rw [hb] at c0
      by_cases he : b = s
      · obtain ⟨q1, q2, q3⟩ := str_yes he
        have HR : Hid (kwB s = true) := Lib.hid (by rw [hI, ← hbl, he]; simp)
        clear hI hbl hb hx1 hx2 HI he
        go_wp2
        go_ret
        exact ⟨by rw [HR.out]; rfl, HB.out⟩
      · obtain ⟨q1, q2, q3⟩ := str_no he
        have HI2 : Hid (kwB s = (kwD.drop (i + 1)).contains s.data.toList) := Lib.hid (by
          have : (s.data.toList == x) = false := by
            rw [← hbl, beq_eq_false_iff_ne]
            exact fun e => he (bytes_inj (by rw [ByteArray.toList_eq, ByteArray.toList_eq, e]))
          rw [hI, this, Bool.false_or])
        clear hI hbl hb hx1 hx2 HI he
        go_wp2
        go_roundw
        case rel => exact ⟨i + 1, by go_num, by omega, HI2, HGR, HB⟩
        case measure => simp [intOf]; omega
    · obtain rfl : i = 69 := by omega
      have HR : Hid (kwB s = false) := Lib.hid (by rw [HI.out]; rfl)
      go_wp2
      go_ret
      exact ⟨by rw [HR.out]; rfl, HB.out⟩
end Go.Proofs.YtdgphhdkeikbaaaDoor
