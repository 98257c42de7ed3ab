/-
  What checksum's Open returns, for every string.
-/
import Derived.Test.YtoffacjefnmmmaaSeal
import Derived.Test.YtoffacjefnmmmaaReadIntB
import Derived.RegionTactic
import Derived.BigRegion
import Derived.Deep.RegionHeld3
import Derived.Laws.StructEq
import Derived.Laws.Tables
import Derived.Laws.Cover2
namespace Go.Proofs.Ytoffacjefnmmmaa
open Go.RowKit

/-- 'copy' out of a string into the head of a block. -/
theorem run_copy_string {P : Program} (w : World) (dT sT ty elem : TypeId) (b dLen dCap : Nat) (s : ByteArray)
    (hu : P.underlying dT = some (.slice elem)) (hs : (P.info? elem).map (·.size) = some 1) (hn : s.size ≤ dLen)
    (hc : ∀ j, j < s.size → (w.cell? ⟨b, 0 + j, none⟩).isSome = true) (hf : ∀ j, j < s.size → w.frozen? ⟨b, 0 + j, none⟩ = false) :
    (Builtin.copy_ #[dT, sT] ty #[.slice (some ⟨b, 0, none⟩) dLen dCap, .string s]).run P w = .ok (goInt s.size) (w.setCells b 0 (Lib.byteCells s.data.toList)) := by
  have hst := run_storeCells_cells (P := P) b 0 (Lib.byteCells s.data.toList) 0 w (by simpa [Lib.byteCells_length] using hc) (by simpa [Lib.byteCells_length] using hf) (by
    intro v hv
    simp only [Lib.byteCells, List.mem_map] at hv
    obtain ⟨c, _, rfl⟩ := hv
    rfl)
  have hm : Nat.min s.size dLen = s.size := Nat.min_eq_left hn
  cases hq : P.info? elem with
  | none => simp [hq] at hs
  | some i =>
    simp [Builtin.copy_, run_underlying hu, Builtin.lenOf, Builtin.firstCells, sizeOf, typeInfo, hq, hm]
    rw [List.take_of_length_le (by simp)]
    have e : List.map (fun (b : UInt8) => Value.int IntKind.u8 (b.toNat : Int)) s.data.toList = Lib.byteCells s.data.toList := rfl
    rw [e, hst]
    rfl

theorem extract_toList (s : ByteArray) (i j : Nat) : (s.extract i j).data.toList = (s.data.toList.drop i).take (j - i) := by
  simp [ByteArray.data_extract]

/-- Four bytes, copied into a block of four. -/
theorem copied4 (w : World) (b : Nat) (s : ByteArray) (c0 c1 c2 c3 : UInt8) (hs : s.data.toList = [c0, c1, c2, c3]) (u0 u1 u2 u3 : Value) (h : w.heap[b]? = some (.cells #[u0, u1, u2, u3] TA (0, 0))) :
    ∃ W2, (Builtin.copy_ #[35, 9] 3 #[.slice (some ⟨b, 0, none⟩) 4 4, .string s]).run Try.prog w = .ok (goInt 4) W2 ∧ W2.heap[b]? = some (.cells #[.int .u8 (c0.toNat : Int), .int .u8 (c1.toNat : Int), .int .u8 (c2.toNat : Int), .int .u8 (c3.toNat : Int)] TA (0, 0)) ∧ OnlyB b w W2 := by
  have hsz : (Try.prog.info? T8).map (·.size) = some 1 := by kernel_rfl
  have hc := Lib.cell_of_heap h
  have h4 : s.size = 4 := by
    have : s.data.toList.length = s.size := by simp
    rw [← this, hs]
    rfl
  have hrun := run_copy_string (P := Try.prog) w 35 9 3 T8 b 4 4 s Try.underlying35 hsz (by omega)
    (fun j hj => by rw [hc]; simp; omega) (fun j hj => Lib.frozen_of_heap h _)
  rw [h4, hs] at hrun
  refine ⟨_, hrun, ?_, ?_⟩
  · simp [Lib.byteCells, World.setCells, World.setCell, Array.getElem?_modify, h]
  · exact (((onlyB_set b _ _ _).trans (onlyB_set b _ _ _)).trans (onlyB_set b _ _ _)).trans (onlyB_set b _ _ _)

set_option maxHeartbeats 1000000 in
theorem open_err (s : ByteArray) (hs : s.size ≤ 9223372036854775807) (x : Nat) (hd : decInt s.data.toList = .err x) (w : World) :
    Calls Try.prog 22 #[.string s] w fun e w' => e = .returned (.tuple #[.string ⟨#[]⟩, .int .i64 0, .int .i64 (x : Int)]) ∧ Below w.heap.size w w' := by
  have hx := decInt_err11 hd
  have hr := readInt_any s hs w
  rw [hd] at hr
  simp only [Rd.val, Rd.len, Rd.e] at hr
  have HR := Lib.hid hr
  clear hr hd
  rcases hx with rfl | rfl
  · go_enter Try.func22, Try.ntmps22
    go_wp2_with fail
    refine HR.out.mono ?_
    rintro e w1 ⟨rfl, b1⟩
    go_wp2
    go_ret3
    exact ⟨rfl, b1⟩
  · go_enter Try.func22, Try.ntmps22
    go_wp2_with fail
    refine HR.out.mono ?_
    rintro e w1 ⟨rfl, b1⟩
    go_wp2
    go_ret3
    exact ⟨rfl, b1⟩

set_option maxHeartbeats 1000000 in
theorem open_bad (s : ByteArray) (hs : s.size ≤ 9223372036854775807) (n : Int) (k : Nat) (hd : decInt s.data.toList = .ok n k) (h : n < 0 ∨ 100000 < n) (w : World) :
    Calls Try.prog 22 #[.string s] w fun e w' => e = .returned (.tuple #[.string ⟨#[]⟩, .int .i64 0, .int .i64 12]) ∧ Below w.heap.size w w' := by
  have hr := readInt_any s hs w
  rw [hd] at hr
  simp only [Rd.val, Rd.len, Rd.e] at hr
  have HR := Lib.hid hr
  clear hr hd
  by_cases h0 : n < 0
  · clear h
    go_enter Try.func22, Try.ntmps22
    go_wp2_with fail
    refine HR.out.mono ?_
    rintro e w1 ⟨rfl, b1⟩
    go_wp2
    go_ret3
    exact ⟨rfl, b1⟩
  · have h1 : 100000 < n := by omega
    clear h
    go_enter Try.func22, Try.ntmps22
    go_wp2_with fail
    refine HR.out.mono ?_
    rintro e w1 ⟨rfl, b1⟩
    go_wp2
    go_ret3
    exact ⟨rfl, b1⟩

set_option maxHeartbeats 1000000 in
theorem open_short (s : ByteArray) (hs : s.size ≤ 9223372036854775807) (n k : Nat) (hd : decInt s.data.toList = .ok (n : Int) k) (hk : k ≤ 9) (hn : n ≤ 100000) (hlt : s.size < k + n + 4) (w : World) :
    Calls Try.prog 22 #[.string s] w fun e w' => e = .returned (.tuple #[.string ⟨#[]⟩, .int .i64 0, .int .i64 11]) ∧ Below w.heap.size w w' := by
  have hr := readInt_any s hs w
  rw [hd] at hr
  simp only [Rd.val, Rd.len, Rd.e] at hr
  have HR := Lib.hid hr
  clear hr hd
  go_enter Try.func22, Try.ntmps22
  go_wp2_with fail
  refine HR.out.mono ?_
  rintro e w1 ⟨rfl, b1⟩
  go_wp2
  go_ret3
  exact ⟨rfl, b1⟩

theorem four_of {l : List UInt8} (h : l.length = 4) : ∃ c0 c1 c2 c3, l = [c0, c1, c2, c3] := by
  match l, h with
  | [a, b, c, d], _ => exact ⟨a, b, c, d, rfl⟩

theorem keep4 {b B : Nat} {v0 v1 v2 v3 : Value} {w w' w'' : World} (h : w'.cell? ⟨b, 0, none⟩ = some v0 ∧ w'.cell? ⟨b, 1, none⟩ = some v1 ∧ w'.cell? ⟨b, 2, none⟩ = some v2 ∧ w'.cell? ⟨b, 3, none⟩ = some v3 ∧ Below B w w' ∧ B ≤ w'.heap.size ∧ b + 1 ≤ w'.heap.size) (hb : Below w'.heap.size w' w'') :
    w''.cell? ⟨b, 0, none⟩ = some v0 ∧ w''.cell? ⟨b, 1, none⟩ = some v1 ∧ w''.cell? ⟨b, 2, none⟩ = some v2 ∧ w''.cell? ⟨b, 3, none⟩ = some v3 ∧ Below B w w'' ∧ B ≤ w''.heap.size ∧ b + 1 ≤ w''.heap.size := by
  obtain ⟨h0, h1, h2, h3, h4, h5, h6⟩ := h
  have hs := hb.size
  exact ⟨(hb.cell (p := ⟨b, 0, none⟩) h6).trans h0, (hb.cell (p := ⟨b, 1, none⟩) h6).trans h1, (hb.cell (p := ⟨b, 2, none⟩) h6).trans h2, (hb.cell (p := ⟨b, 3, none⟩) h6).trans h3, h4.trans (hb.mono h5), by omega, by omega⟩

theorem eq_array (a b c d a' b' c' d' : Int) (w : World) : (Op.equalIn 10000 TA (.agg #[.int .u8 a, .int .u8 b, .int .u8 c, .int .u8 d]) (.agg #[.int .u8 a', .int .u8 b', .int .u8 c', .int .u8 d'])).run Try.prog w = .ok (a == a' && (b == b' && (c == c' && d == d'))) w := by
  have u3 := Try.underlying5
  have a3 := Try.isAgg5
  have z3 := Try.sizeOf5
  rw [show (10000 : Nat) = 9999 + 1 from rfl, Op.equalIn]
  simp only [Sem.run_bind, run_underlying Try.underlying52, Result.andThen_ok]
  simp only [Std.Legacy.Range.forIn_eq_forIn_range', Std.Legacy.Range.size, Nat.sub_zero, Nat.add_sub_cancel, Nat.div_one, List.range'_succ, List.range'_zero, List.forIn_cons, List.forIn_nil]
  go_simp
  by_cases h1 : a = a' <;> by_cases h2 : b = b' <;> by_cases h3 : c = c' <;> by_cases h4 : d = d' <;> simp [h1, h2, h3, h4]
theorem eq_be4 (c0 c1 c2 c3 : UInt8) (N : Nat) (hN : N < 4294967296) (w : World) : (Op.equalIn 10000 TA (.agg #[.int .u8 (c0.toNat : Int), .int .u8 (c1.toNat : Int), .int .u8 (c2.toNat : Int), .int .u8 (c3.toNat : Int)]) (.agg (be4C N))).run Try.prog w = .ok (decide ([c0, c1, c2, c3] = be4 N)) w := by
  rw [eq_array]
  congr 1
  have h0 : (UInt8.ofNat (N / 16777216)).toNat = N / 16777216 := ofNat_toNat_lt (by omega)
  have h1 : (UInt8.ofNat (N / 65536 % 256)).toNat = N / 65536 % 256 := ofNat_toNat_lt (by omega)
  have h2 : (UInt8.ofNat (N / 256 % 256)).toNat = N / 256 % 256 := ofNat_toNat_lt (by omega)
  have h3 : (UInt8.ofNat (N % 256)).toNat = N % 256 := ofNat_toNat_lt (by omega)
  rw [Bool.eq_iff_iff]
  simp only [Bool.and_eq_true, beq_iff_eq, decide_eq_true_eq, be4, List.cons.injEq, and_true, ← UInt8.toNat_inj, h0, h1, h2, h3]
  omega

/-- What Open returns where the frame is long enough. -/
def openOut (s : ByteArray) (n k : Nat) : Bool → Value
  | true => .tuple #[.string (s.extract k (k + n)), .int .i64 ((k + n + 4 : Nat) : Int), .int .i64 0]
  | false => .tuple #[.string ⟨#[]⟩, .int .i64 0, .int .i64 13]

theorem keep4_below {b B : Nat} {v0 v1 v2 v3 : Value} {w w' : World} (h : w'.cell? ⟨b, 0, none⟩ = some v0 ∧ w'.cell? ⟨b, 1, none⟩ = some v1 ∧ w'.cell? ⟨b, 2, none⟩ = some v2 ∧ w'.cell? ⟨b, 3, none⟩ = some v3 ∧ Below B w w' ∧ B ≤ w'.heap.size ∧ b + 1 ≤ w'.heap.size) : Below B w w' := h.2.2.2.2.1

set_option maxRecDepth 100000 in
set_option maxHeartbeats 2000000 in
theorem open_main (s : ByteArray) (hs : s.size ≤ 9223372036854775807) (n k : Nat) (hd : decInt s.data.toList = .ok (n : Int) k) (hk : k ≤ 9) (hn : n ≤ 100000) (hlt : k + n + 4 ≤ s.size) (B : Bool) (hB : decide ((s.data.toList.drop (k + n)).take 4 = be4 (sumN (s.data.toList.take (k + n)))) = B) (w : World) :
    Calls Try.prog 22 #[.string s] w fun e w' => e = .returned (openOut s n k B) ∧ Below w.heap.size w w' := by
  have hr := readInt_any s hs w
  rw [hd] at hr
  simp only [Rd.val, Rd.len, Rd.e] at hr
  have HR := Lib.hid hr
  have hl : s.data.toList.length = s.size := by simp
  obtain ⟨c0, c1, c2, c3, h4⟩ := four_of (l := (s.extract (k + n) (k + n + 4)).data.toList) (by rw [extract_toList]; simp; omega)
  have H4 := Lib.hid h4
  have hsm := sum_any (s.extract 0 (k + n)) (by simp; omega)
  obtain ⟨N, hN⟩ : ∃ N, sumN (s.extract 0 (k + n)).data.toList = N := ⟨_, rfl⟩
  have hN2 : N < 4294967296 := by rw [← hN]; exact csOf_lt (sum_ok _)
  rw [hN] at hsm
  have HS := Lib.hid hsm
  have heq := eq_be4 c0 c1 c2 c3 N hN2
  rw [← h4, ← hN, extract_toList, extract_toList, show k + n + 4 - (k + n) = 4 from by omega, List.drop_zero, Nat.sub_zero, hB] at heq
  rw [extract_toList, List.drop_zero, Nat.sub_zero] at hN
  rw [hN] at heq
  have HQ := Lib.hid heq
  clear hr hd hl h4 hsm hN hB heq
  go_enter Try.func22, Try.ntmps22
  go_wp2_with fail
  refine HR.out.mono ?_
  rintro e w1 ⟨rfl, b1⟩
  go_wp2
  obtain ⟨w2, hw2⟩ : ∃ w2, (w1.alloc (.cells #[.int .u8 0, .int .u8 0, .int .u8 0, .int .u8 0] TA)) = w2 := ⟨_, rfl⟩
  obtain ⟨w3, hrun, hA, hO⟩ := copied4 w2.drew w1.heap.size _ c0 c1 c2 c3 H4.out (.int .u8 0) (.int .u8 0) (.int .u8 0) (.int .u8 0) (by rw [← hw2]; exact World.alloc_heap_new w1 _)
  have b2 : Below w.heap.size w w2 := by rw [← hw2]; exact b1.alloc b1.size _
  have z2 : w2.heap.size = w1.heap.size + 1 := by rw [← hw2]; simp
  rw [hw2]
  clear hw2
  have q1 : (0 : Int) ≤ (k : Int) + (n : Int) := by omega
  have q2 : (0 : Int) ≤ (k : Int) + (n : Int) + 4 := by omega
  go_region
  clear hrun q1 q2
  have z3 : w3.heap.size = w1.heap.size + 1 := by rw [hO.size]; simpa using z2
  have b3 : Below w.heap.size w w3 := (b2.drew).trans (hO.below b1.size (by simp; omega))
  have s1 := b1.size
  clear hO b2 z2
  have ca := Lib.cell_of_heap hA
  have a0 : w3.cell? ⟨w1.heap.size, 0, none⟩ = some (.int .u8 (c0.toNat : Int)) := by rw [ca]; rfl
  have a1 : w3.cell? ⟨w1.heap.size, 1, none⟩ = some (.int .u8 (c1.toNat : Int)) := by rw [ca]; rfl
  have a2 : w3.cell? ⟨w1.heap.size, 2, none⟩ = some (.int .u8 (c2.toNat : Int)) := by rw [ca]; rfl
  have a3 : w3.cell? ⟨w1.heap.size, 3, none⟩ = some (.int .u8 (c3.toNat : Int)) := by rw [ca]; rfl
  clear ca
  go_wp2
  have q1 : (0 : Int) ≤ (k : Int) + (n : Int) := by omega
  have q2 : (k : Int) + (n : Int) ≤ (s.size : Int) := by omega
  have q3 : ((k : Int) + (n : Int)).toNat = k + n := by omega
  have heq := HQ.out
  go_region_held3 (fun w' => w'.cell? ⟨w1.heap.size, 0, none⟩ = some (.int .u8 (c0.toNat : Int)) ∧ w'.cell? ⟨w1.heap.size, 1, none⟩ = some (.int .u8 (c1.toNat : Int)) ∧ w'.cell? ⟨w1.heap.size, 2, none⟩ = some (.int .u8 (c2.toNat : Int)) ∧ w'.cell? ⟨w1.heap.size, 3, none⟩ = some (.int .u8 (c3.toNat : Int)) ∧ Below w.heap.size w w' ∧ w.heap.size ≤ w'.heap.size ∧ w1.heap.size + 1 ≤ w'.heap.size)
    (first | exact ⟨a0, a1, a2, a3, b3.drew, b3.size, Nat.le_of_eq z3.symm⟩ | exact keep4 (by assumption) (by assumption))
    (first | (go_at_call 18; refine (HS.out _).mono ?_; rintro e w4 ⟨rfl, b4⟩) | (go_at_call 35; refine (sumBytes_any N hN2 _).mono ?_; rintro e w5 ⟨rfl, b5⟩))
  have hb5 : Below w.heap.size w w5 := keep4_below (by assumption)
  clear heq q3
  cases B
  · go_wp2
    go_ret3
    exact ⟨rfl, hb5⟩
  · go_wp2
    go_ret3
    exact ⟨rfl, hb5⟩

/-! ### What it is over lists -/

theorem openR_short_of {l : List UInt8} {n k : Nat} (hd : decInt l = .ok (n : Int) k) (hn : n ≤ 100000) (h : l.length < k + n + 4) : openR l = .err 11 := by
  unfold openR
  rw [hd]
  simp only [Int.toNat_natCast]
  rw [if_neg (by omega), if_pos h]
theorem openR_ok_of {l : List UInt8} {n k : Nat} (hd : decInt l = .ok (n : Int) k) (hn : n ≤ 100000) (h : k + n + 4 ≤ l.length) (hc : (l.drop (k + n)).take 4 = be4 (sumN (l.take (k + n)))) : openR l = .ok ((l.drop k).take n) (k + n + 4) := by
  unfold openR
  rw [hd]
  simp only [Int.toNat_natCast]
  rw [if_neg (by omega), if_neg (by omega), if_pos hc]
theorem openR_bad_of {l : List UInt8} {n k : Nat} (hd : decInt l = .ok (n : Int) k) (hn : n ≤ 100000) (h : k + n + 4 ≤ l.length) (hc : ¬ (l.drop (k + n)).take 4 = be4 (sumN (l.take (k + n)))) : openR l = .err 13 := by
  unfold openR
  rw [hd]
  simp only [Int.toNat_natCast]
  rw [if_neg (by omega), if_neg (by omega), if_neg hc]
theorem openR_range_of {l : List UInt8} {n : Int} {k : Nat} (hd : decInt l = .ok n k) (h : n < 0 ∨ 100000 < n) : openR l = .err 12 := by
  unfold openR
  rw [hd]
  simp only []
  rw [if_pos h]
theorem openR_err_of {l : List UInt8} {e : Nat} (hd : decInt l = .err e) : openR l = .err e := by
  unfold openR
  rw [hd]
theorem decInt_size {l : List UInt8} {n : Int} {k : Nat} (hd : decInt l = .ok n k) : k ≤ 9 := by
  obtain ⟨hr, _, h1, h2⟩ := decInt_canonical hd
  have := encInt_length_le hr
  rw [h2] at this
  simp at this
  omega

/-- Open, for every string. -/
theorem open_any (s : ByteArray) (hs : s.size ≤ 9223372036854775807) (w : World) :
    Calls Try.prog 22 #[.string s] w fun e w' => e = .returned (.tuple #[.string (strOf ((openR s.data.toList).val [])), .int .i64 ((openR s.data.toList).len : Int), .int .i64 (openR s.data.toList).e]) ∧ Below w.heap.size w w' := by
  have hl : s.data.toList.length = s.size := by simp
  cases hd : decInt s.data.toList with
  | err x =>
    rw [openR_err_of hd]
    exact open_err s hs x hd w
  | ok m k =>
    by_cases hm : m < 0 ∨ 100000 < m
    · rw [openR_range_of hd hm]
      exact open_bad s hs m k hd hm w
    · obtain ⟨n, rfl⟩ := Int.eq_ofNat_of_zero_le (a := m) (by omega)
      have hk := decInt_size hd
      by_cases hlt : s.size < k + n + 4
      · rw [openR_short_of hd (by omega) (by omega)]
        exact open_short s hs n k hd hk (by omega) hlt w
      · by_cases hc : (s.data.toList.drop (k + n)).take 4 = be4 (sumN (s.data.toList.take (k + n)))
        · rw [openR_ok_of hd (by omega) (by omega) hc]
          have := open_main s hs n k hd hk (by omega) (by omega) true (by simp [hc]) w
          have e : strOf ((s.data.toList.drop k).take n) = s.extract k (k + n) := by
            apply ByteArray.ext
            apply Array.toList_inj.1
            rw [extract_toList, strOf_toList]
            congr 1
            omega
          refine this.mono ?_
          rintro e' w' ⟨rfl, hb⟩
          unfold openOut
          simp only [Rd.val, Rd.len, Rd.e, e]
          exact ⟨trivial, hb⟩
        · rw [openR_bad_of hd (by omega) (by omega) hc]
          exact open_main s hs n k hd hk (by omega) (by omega) false (by simp [hc]) w

end Go.Proofs.Ytoffacjefnmmmaa
