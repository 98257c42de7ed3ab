/-
  What checksum's sumBytes and Seal return, for every argument.
-/
import Derived.Test.YtoffacjefnmmmaaCombine
namespace Go.Proofs.Ytoffacjefnmmmaa
open Go.RowKit

abbrev TA : TypeId := 52

abbrev be4V (n : Nat) : Value := .agg #[.int .u8 ((n / 16777216 : Nat) : Int), .int .u8 ((n / 65536 % 256 : Nat) : Int), .int .u8 ((n / 256 % 256 : Nat) : Int), .int .u8 ((n % 256 : Nat) : Int)]
theorem sumBytes_any (n : Nat) (hn : n < 4294967296) (w : World) :
    Calls Try.prog 35 #[.int .i64 (n : Int)] w fun e w' => e = .returned (be4V n) ∧ Below w.heap.size w w' := by
  go_enter Try.func35, Try.ntmps35
  go_wp2
  exact bodyPost_ret (v := be4V n) (by simp [results, Try.results35, go_sem]) rfl ⟨rfl, (Below.refl _ _).alloc (Nat.le_refl _) _⟩

/-- The cells, as a walk spells them. -/
abbrev be4C (n : Nat) : Array Value := #[.int .u8 ((n : Int) / 16777216), .int .u8 ((n : Int) / 65536 % 256), .int .u8 ((n : Int) / 256 % 256), .int .u8 ((n : Int) % 256)]
/-- Four bytes in a block are the bytes of a checksum. -/
theorem be4_cells (b n : Nat) (hn : n < 4294967296) (w : World) (h : w.heap[b]? = some (.cells (be4C n) TA (0, 0))) :
    ∀ j (hj : j < (be4 n).length), w.cell? ((⟨b, 0, none⟩ : Addr).add j) = some (.int .u8 (((be4 n)[j]).toNat : Int)) := by
  have hc := Lib.cell_of_heap h
  intro j hj
  have e : (⟨b, 0, none⟩ : Addr).add j = ⟨b, j, none⟩ := by unfold Addr.add; split <;> simp_all
  rw [e, hc]
  have h0 : ((UInt8.ofNat (n / 16777216)).toNat : Int) = (n : Int) / 16777216 := by rw [ofNat_toNat_lt (by omega)]; omega
  have h1 : ((UInt8.ofNat (n / 65536 % 256)).toNat : Int) = (n : Int) / 65536 % 256 := by rw [ofNat_toNat_lt (by omega)]; omega
  have h2 : ((UInt8.ofNat (n / 256 % 256)).toNat : Int) = (n : Int) / 256 % 256 := by rw [ofNat_toNat_lt (by omega)]; omega
  have h3 : ((UInt8.ofNat (n % 256)).toNat : Int) = (n : Int) % 256 := by rw [ofNat_toNat_lt (by omega)]; omega
  rw [be4_length] at hj
  rcases (by omega : j = 0 ∨ j = 1 ∨ j = 2 ∨ j = 3) with rfl | rfl | rfl | rfl
  · show some (Value.int .u8 _) = some (Value.int .u8 ((UInt8.ofNat (n / 16777216)).toNat : Int)); rw [h0]
  · show some (Value.int .u8 _) = some (Value.int .u8 ((UInt8.ofNat (n / 65536 % 256)).toNat : Int)); rw [h1]
  · show some (Value.int .u8 _) = some (Value.int .u8 ((UInt8.ofNat (n / 256 % 256)).toNat : Int)); rw [h2]
  · show some (Value.int .u8 _) = some (Value.int .u8 ((UInt8.ofNat (n % 256)).toNat : Int)); rw [h3]

theorem strOf_cat (l : List UInt8) (s : ByteArray) : strOf l ++ s = strOf (l ++ s.data.toList) := by
  apply ByteArray.ext
  simp [strOf]
theorem strOf_app (l r : List UInt8) : strOf l ++ strOf r = strOf (l ++ r) := by
  apply ByteArray.ext
  simp [strOf]

set_option maxRecDepth 100000 in
set_option maxHeartbeats 2000000 in
theorem seal_small (s : ByteArray) (hs : s.size ≤ 100000) (w : World) :
    Calls Try.prog 20 #[.string s] w fun e w' => e = .returned (.tuple #[.string (strOf (frameL s.data.toList)), .int .i64 0]) ∧ Below w.heap.size w w' := by
  have hl : s.data.toList.length = s.size := by simp
  have hh := headL_length_le (l := s.data.toList) (by omega)
  have hi := int_any (s.size : Int)
  have hr : InR (s.size : Int) := by unfold InR; omega
  unfold intL intE at hi
  rw [if_pos hr, if_pos hr, ← hl] at hi
  have HI := Lib.hid hi
  obtain ⟨h, hd⟩ : ∃ h, strOf (headL s.data.toList) = h := ⟨_, rfl⟩
  have HI2 : Hid (∀ w : World, Calls Try.prog 34 #[.int .i64 (s.size : Int)] w fun e w' => e = .returned (.tuple #[.string h, .int .i64 0]) ∧ Below w.heap.size w w') := Lib.hid (by rw [← hd]; unfold headL; rw [← hl]; exact hi)
  have hhs : h.size ≤ 9 := by rw [← hd, strOf_size]; exact hh.2
  have hp : (h ++ s).data.toList = protL s.data.toList := by rw [← hd]; simp [strOf, protL]
  have hsm := fun w => sum_any (h ++ s) (by rw [ByteArray.size_append]; omega) w
  rw [hp] at hsm
  have HSM := Lib.hid hsm
  have hN : sumN (protL s.data.toList) < 4294967296 := csOf_lt (sum_ok _)
  obtain ⟨N, hNe⟩ : ∃ N, sumN (protL s.data.toList) = N := ⟨_, rfl⟩
  rw [hNe] at hN HSM
  have HF : Hid (h ++ s ++ strOf (be4 N) = strOf (frameL s.data.toList)) := Lib.hid (by
    apply ByteArray.ext
    rw [← hd]
    simp [strOf, frameL, protL, ← hNe])
  clear hi HI hd hp hsm hNe hl hh hr
  go_enter Try.func20, Try.ntmps20
  go_wp2_with fail
  refine (HI2.out _).mono ?_
  rintro e w1 ⟨rfl, b1⟩
  have s1 := b1.size
  go_wp2_with fail
  refine (HSM.out _).mono ?_
  rintro e w2 ⟨rfl, b2⟩
  have s2 := b2.size
  go_wp2_with fail
  refine (sumBytes_any N hN _).mono ?_
  rintro e w3 ⟨rfl, b3⟩
  have s3 := b3.size
  have hconv : (convert 35 9 (.slice (some ⟨w3.heap.size, 0, none⟩) 4 4)).run Try.prog (w3.alloc (.cells (be4C N) TA)) = .ok (.string (strOf (be4 N))) (w3.alloc (.cells (be4C N) TA)) :=
    run_convert_bytes_back (P := Try.prog) _ 35 9 T8 ⟨w3.heap.size, 0, none⟩ 4 (be4 N) Try.underlying35 Try.underlying5 Try.underlying9 (be4_cells w3.heap.size N hN _ (World.alloc_heap_new w3 _))
  have hf4 : (strOf (be4 N)).size ≤ 4 := by rw [strOf_size]; exact Nat.le_refl 4
  go_wp2
  go_ret2
  rw [HF.out]
  exact ⟨rfl, ((b1.trans (b2.mono s1)).trans (b3.mono (by omega))).alloc (by omega) _⟩

theorem seal_any (s : ByteArray) (hs : s.size ≤ 9223372036854775807) (w : World) :
    Calls Try.prog 20 #[.string s] w fun e w' => e = .returned (.tuple #[.string (strOf (sealL s.data.toList)), .int .i64 (sealE s.data.toList)]) ∧ Below w.heap.size w w' := by
  have hl : s.data.toList.length = s.size := by simp
  unfold sealL sealE
  rw [hl]
  by_cases h : 100000 < s.size
  · rw [if_pos h, if_pos h]
    go_enter Try.func20, Try.ntmps20
    go_wp2
    go_ret2
    exact ⟨rfl, Below.refl _ _⟩
  · rw [if_neg h, if_neg h]
    exact seal_small s (by omega) w

end Go.Proofs.Ytoffacjefnmmmaa
