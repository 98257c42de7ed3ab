/-
  What the reference's bytes, Seal and Open of checksum return, for every argument.
-/
import Derived.Test.YtoffacjefnmmmaaRefSum
namespace Go.Proofs.Ytoffacjefnmmmaa
open Go.RowKit

theorem be4_cells' (b n : Nat) (hn : n < 4294967296) (T : TypeId) (w : World) (h : w.heap[b]? = some (.cells (be4C n) T (0, 0))) :
    ∀ j (hj : j < (be4 n).length), w.cell? ((⟨b, 0, none⟩ : Addr).add j) = some (.int .u8 (((be4 n)[j]).toNat : Int)) := by
  have hA : (w.alloc (.cells (be4C n) TA)).heap[w.heap.size]? = some (.cells (be4C n) TA (0, 0)) := World.alloc_heap_new w _
  intro j hj
  have hc := Lib.cell_of_heap h
  have hc2 := Lib.cell_of_heap hA
  have e : ∀ k, (⟨k, 0, none⟩ : Addr).add j = ⟨k, j, none⟩ := fun k => by unfold Addr.add; split <;> simp_all
  have := be4_cells w.heap.size n hn _ hA j hj
  rw [e, hc2] at this
  rw [e, hc]
  exact this

theorem refBytes_any (n : Nat) (hn : n < 4294967296) (w : World) :
    Calls Try.prog 37 #[.int .i64 (n : Int)] w fun e w' => e = .returned (.string (strOf (be4 n))) ∧ Below w.heap.size w w' := by
  have hconv : (convert 35 9 (.slice (some ⟨w.heap.size, 0, none⟩) 4 4)).run Try.prog (w.alloc (.cells (be4C n) T8)) = .ok (.string (strOf (be4 n))) (w.alloc (.cells (be4C n) T8)) :=
    run_convert_bytes_back (P := Try.prog) _ 35 9 T8 ⟨w.heap.size, 0, none⟩ 4 (be4 n) Try.underlying35 Try.underlying5 Try.underlying9 (be4_cells' w.heap.size n hn T8 _ (World.alloc_heap_new w _))
  go_enter Try.func37, Try.ntmps37
  go_wp2
  go_ret
  exact ⟨rfl, (Below.refl _ _).alloc (Nat.le_refl _) _⟩

set_option maxRecDepth 100000 in
set_option maxHeartbeats 2000000 in
theorem refSeal_small (s : ByteArray) (hs : s.size ≤ 100000) (w : World) :
    Calls Try.prog 21 #[.string s] w fun e w' => e = .returned (.tuple #[.string (strOf (frameL s.data.toList)), .int .i64 0]) ∧ Below w.heap.size w w' := by
  have hl : s.data.toList.length = s.size := by simp
  have hh := headL_length_le (l := s.data.toList) (by omega)
  have hi := refInt_any (s.size : Int)
  have hr : InR (s.size : Int) := by unfold InR; omega
  unfold intL intE at hi
  rw [if_pos hr, if_pos hr, ← hl] at hi
  obtain ⟨h, hd⟩ : ∃ h, strOf (headL s.data.toList) = h := ⟨_, rfl⟩
  have HI2 : Hid (∀ w : World, Calls Try.prog 36 #[.int .i64 (s.size : Int)] w fun e w' => e = .returned (.tuple #[.string h, .int .i64 0]) ∧ Below w.heap.size w w') := Lib.hid (by rw [← hd]; unfold headL; rw [← hl]; exact hi)
  have hhs : h.size ≤ 9 := by rw [← hd, strOf_size]; exact hh.2
  have hp : (h ++ s).data.toList = protL s.data.toList := by rw [← hd]; simp [strOf, protL]
  have hsm := fun w => refSum_any (h ++ s) (by rw [ByteArray.size_append]; omega) w
  rw [hp] at hsm
  have HSM := Lib.hid hsm
  have hN : sumN (protL s.data.toList) < 4294967296 := csOf_lt (sum_ok _)
  obtain ⟨N, hNe⟩ : ∃ N, sumN (protL s.data.toList) = N := ⟨_, rfl⟩
  rw [hNe] at hN HSM
  have HF : Hid (h ++ s ++ strOf (be4 N) = strOf (frameL s.data.toList)) := Lib.hid (by
    apply ByteArray.ext
    rw [← hd]
    simp [strOf, frameL, protL, ← hNe])
  have hf4 : (strOf (be4 N)).size ≤ 4 := by rw [strOf_size]; exact Nat.le_refl 4
  clear hi hd hp hsm hNe hl hh hr
  go_enter Try.func21, Try.ntmps21
  go_wp2_with fail
  refine (HI2.out _).mono ?_
  rintro e w1 ⟨rfl, b1⟩
  have s1 := b1.size
  go_wp2_with fail
  refine (HSM.out _).mono ?_
  rintro e w2 ⟨rfl, rfl⟩
  go_wp2_with fail
  refine (refBytes_any N hN _).mono ?_
  rintro e w3 ⟨rfl, b3⟩
  go_wp2
  go_ret2
  rw [HF.out]
  exact ⟨rfl, b1.trans (b3.mono s1)⟩

theorem refSeal_any (s : ByteArray) (hs : s.size ≤ 9223372036854775807) (w : World) :
    Calls Try.prog 21 #[.string s] w fun e w' => e = .returned (.tuple #[.string (strOf (sealL s.data.toList)), .int .i64 (sealE s.data.toList)]) ∧ Below w.heap.size w w' := by
  have hl : s.data.toList.length = s.size := by simp
  unfold sealL sealE
  rw [hl]
  by_cases h : 100000 < s.size
  · rw [if_pos h, if_pos h]
    go_enter Try.func21, Try.ntmps21
    go_wp2
    go_ret2
    exact ⟨rfl, Below.refl _ _⟩
  · rw [if_neg h, if_neg h]
    exact refSeal_small s (by omega) w

/-! ### Open -/

set_option maxHeartbeats 1000000 in
theorem refOpen_err (s : ByteArray) (hs : s.size ≤ 9223372036854775807) (x : Nat) (hd : decInt s.data.toList = .err x) (w : World) :
    Calls Try.prog 23 #[.string s] w fun e w' => e = .returned (.tuple #[.string ⟨#[]⟩, .int .i64 0, .int .i64 (x : Int)]) ∧ w = w' := by
  have hx := decInt_err11 hd
  have hr := refReadInt_any s w hs
  unfold ReadsInt at hr
  rw [hd] at hr
  simp only [Rd.val, Rd.len, Rd.e] at hr
  have HR := Lib.hid hr
  clear hr hd
  rcases hx with rfl | rfl
  · go_enter Try.func23, Try.ntmps23
    go_wp2_with fail
    refine HR.out.mono ?_
    rintro e w1 ⟨rfl, rfl⟩
    go_wp2
    go_ret3
    exact ⟨rfl, rfl⟩
  · go_enter Try.func23, Try.ntmps23
    go_wp2_with fail
    refine HR.out.mono ?_
    rintro e w1 ⟨rfl, rfl⟩
    go_wp2
    go_ret3
    exact ⟨rfl, rfl⟩

set_option maxHeartbeats 1000000 in
theorem refOpen_bad (s : ByteArray) (hs : s.size ≤ 9223372036854775807) (n : Int) (k : Nat) (hd : decInt s.data.toList = .ok n k) (h : n < 0 ∨ 100000 < n) (w : World) :
    Calls Try.prog 23 #[.string s] w fun e w' => e = .returned (.tuple #[.string ⟨#[]⟩, .int .i64 0, .int .i64 12]) ∧ w = w' := by
  have hr := refReadInt_any s w hs
  unfold ReadsInt at hr
  rw [hd] at hr
  simp only [Rd.val, Rd.len, Rd.e] at hr
  have HR := Lib.hid hr
  clear hr hd
  by_cases h0 : n < 0
  · clear h
    go_enter Try.func23, Try.ntmps23
    go_wp2_with fail
    refine HR.out.mono ?_
    rintro e w1 ⟨rfl, rfl⟩
    go_wp2
    go_ret3
    exact ⟨rfl, rfl⟩
  · have h1 : 100000 < n := by omega
    clear h
    go_enter Try.func23, Try.ntmps23
    go_wp2_with fail
    refine HR.out.mono ?_
    rintro e w1 ⟨rfl, rfl⟩
    go_wp2
    go_ret3
    exact ⟨rfl, rfl⟩

set_option maxHeartbeats 1000000 in
theorem refOpen_short (s : ByteArray) (hs : s.size ≤ 9223372036854775807) (n k : Nat) (hd : decInt s.data.toList = .ok (n : Int) k) (hk : k ≤ 9) (hn : n ≤ 100000) (hlt : s.size < k + n + 4) (w : World) :
    Calls Try.prog 23 #[.string s] w fun e w' => e = .returned (.tuple #[.string ⟨#[]⟩, .int .i64 0, .int .i64 11]) ∧ w = w' := by
  have hr := refReadInt_any s w hs
  unfold ReadsInt at hr
  rw [hd] at hr
  simp only [Rd.val, Rd.len, Rd.e] at hr
  have HR := Lib.hid hr
  clear hr hd
  go_enter Try.func23, Try.ntmps23
  go_wp2_with fail
  refine HR.out.mono ?_
  rintro e w1 ⟨rfl, rfl⟩
  go_wp2
  go_ret3
  exact ⟨rfl, rfl⟩

theorem keepB {B : Nat} {w w' w'' : World} (h : Below B w w' ∧ B ≤ w'.heap.size) (hb : Below w'.heap.size w' w'') : Below B w w'' ∧ B ≤ w''.heap.size := by
  have hs := hb.size
  exact ⟨h.1.trans (hb.mono h.2), by omega⟩
theorem keepB_below {B : Nat} {w w' : World} (h : Below B w w' ∧ B ≤ w'.heap.size) : Below B w w' := h.1

set_option maxRecDepth 100000 in
set_option maxHeartbeats 2000000 in
theorem refOpen_main (s : ByteArray) (hs : s.size ≤ 9223372036854775807) (n k : Nat) (hd : decInt s.data.toList = .ok (n : Int) k) (hk : k ≤ 9) (hn : n ≤ 100000) (hlt : k + n + 4 ≤ s.size) (B : Bool) (hB : decide ((s.data.toList.drop (k + n)).take 4 = be4 (sumN (s.data.toList.take (k + n)))) = B) (w : World) :
    Calls Try.prog 23 #[.string s] w fun e w' => e = .returned (openOut s n k B) ∧ Below w.heap.size w w' := by
  have hr := refReadInt_any s w hs
  unfold ReadsInt at hr
  rw [hd] at hr
  simp only [Rd.val, Rd.len, Rd.e] at hr
  have HR := Lib.hid hr
  have hsm := refSum_any (s.extract 0 (k + n)) (by simp; omega)
  obtain ⟨N, hN⟩ : ∃ N, sumN (s.extract 0 (k + n)).data.toList = N := ⟨_, rfl⟩
  have hN2 : N < 4294967296 := by rw [← hN]; exact csOf_lt (sum_ok _)
  rw [hN] at hsm
  have HS := Lib.hid hsm
  obtain ⟨x, hx⟩ : ∃ x, s.extract (k + n) (k + n + 4) = x := ⟨_, rfl⟩
  obtain ⟨y, hy⟩ : ∃ y, strOf (be4 N) = y := ⟨_, rfl⟩
  have hby := refBytes_any N hN2
  rw [hy] at hby
  have HY := Lib.hid hby
  have heq : (x.toList == y.toList) = B := by
    rw [ByteArray.toList_eq, ByteArray.toList_eq, ← hB, ← hx, ← hy, extract_toList, strOf_toList, ← hN, extract_toList, show k + n + 4 - (k + n) = 4 from by omega, List.drop_zero, Nat.sub_zero]
    rw [Bool.eq_iff_iff]
    simp
  have HX := Lib.hid hx
  have HQ := Lib.hid heq
  clear hr hd hsm hN hB heq hby hx hy
  go_enter Try.func23, Try.ntmps23
  go_wp2_with fail
  refine HR.out.mono ?_
  rintro e w1 ⟨rfl, rfl⟩
  go_wp2
  have q1 : (0 : Int) ≤ (k : Int) + (n : Int) := by omega
  have q2 : (k : Int) + (n : Int) ≤ (s.size : Int) := by omega
  have q3 : ((k : Int) + (n : Int)).toNat = k + n := by omega
  have q4 : (0 : Int) ≤ (k : Int) + (n : Int) + 4 := by omega
  have q5 : ((k : Int) + (n : Int) + 4).toNat = k + n + 4 := by omega
  have q6 : IntKind.i64.wrap ((k : Int) + (n : Int)) = (k : Int) + (n : Int) := IntWalk.i64_in _ (by omega)
  have q7 : IntKind.i64.wrap ((k : Int) + (n : Int) + 4) = (k : Int) + (n : Int) + 4 := IntWalk.i64_in _ (by omega)
  have q8 : (k : Int) + (n : Int) ≤ (k : Int) + (n : Int) + 4 := by omega
  have q9 : (k : Int) + (n : Int) + 4 ≤ (s.size : Int) := by omega
  have heq := HQ.out
  have hx := HX.out
  go_region_held3 (fun w' => Below w.heap.size w w' ∧ w.heap.size ≤ w'.heap.size)
    (first | exact ⟨(Below.refl _ _).drew, Nat.le_refl _⟩ | assumption | exact keepB (by assumption) (by assumption))
    (first | (go_at_call 19; refine (HS.out _).mono ?_; rintro e w4 ⟨rfl, rfl⟩) | (go_at_call 37; refine (HY.out _).mono ?_; rintro e w5 ⟨rfl, b5⟩))
  have hb5 : Below w.heap.size w w5 := keepB_below (by assumption)
  clear q3 q5 q6 q7 hx
  cases B
  · go_wp2
    go_ret3
    exact ⟨rfl, hb5⟩
  · go_wp2
    go_ret3
    exact ⟨rfl, hb5⟩

/-- The reference's Open, for every string. -/
theorem refOpen_any (s : ByteArray) (hs : s.size ≤ 9223372036854775807) (w : World) :
    Calls Try.prog 23 #[.string s] w fun e w' => e = .returned (.tuple #[.string (strOf ((openR s.data.toList).val [])), .int .i64 ((openR s.data.toList).len : Int), .int .i64 (openR s.data.toList).e]) ∧ Below w.heap.size w w' := by
  have hl : s.data.toList.length = s.size := by simp
  cases hd : decInt s.data.toList with
  | err x =>
    rw [openR_err_of hd]
    refine (refOpen_err s hs x hd w).mono ?_
    rintro e' w' ⟨rfl, rfl⟩
    exact ⟨rfl, Below.refl _ _⟩
  | ok m k =>
    by_cases hm : m < 0 ∨ 100000 < m
    · rw [openR_range_of hd hm]
      refine (refOpen_bad s hs m k hd hm w).mono ?_
      rintro e' w' ⟨rfl, rfl⟩
      exact ⟨rfl, Below.refl _ _⟩
    · obtain ⟨n, rfl⟩ := Int.eq_ofNat_of_zero_le (a := m) (by omega)
      have hk := decInt_size hd
      by_cases hlt : s.size < k + n + 4
      · rw [openR_short_of hd (by omega) (by omega)]
        refine (refOpen_short s hs n k hd hk (by omega) hlt w).mono ?_
        rintro e' w' ⟨rfl, rfl⟩
        exact ⟨rfl, Below.refl _ _⟩
      · by_cases hc : (s.data.toList.drop (k + n)).take 4 = be4 (sumN (s.data.toList.take (k + n)))
        · rw [openR_ok_of hd (by omega) (by omega) hc]
          have := refOpen_main s hs n k hd hk (by omega) (by omega) true (by simp [hc]) w
          have e : strOf ((s.data.toList.drop k).take n) = s.extract k (k + n) := by
            apply ByteArray.ext
            apply Array.toList_inj.1
            rw [extract_toList, strOf_toList]
            congr 1
            omega
          refine this.mono ?_
          rintro e' w' ⟨rfl, hb⟩
          unfold openOut
          simp only [Rd.val, Rd.len, Rd.e, e]
          exact ⟨trivial, hb⟩
        · rw [openR_bad_of hd (by omega) (by omega) hc]
          exact refOpen_main s hs n k hd hk (by omega) (by omega) false (by simp [hc]) w

end Go.Proofs.Ytoffacjefnmmmaa
