/-
  The two hashes are the same function.
-/
import Derived.Test.YtdnjjppidolnbaaEnc
namespace Go.Proofs.Ytdnjjppidolnbaa
open Go.RowKit

/-- The fold that both compute, on the model's own numbers. -/
def hashStep (h : Int) (c : UInt8) : Int := IntKind.u64.wrap (bits BinOp.xor IntKind.u64 h (c.toNat : Int) * 1099511628211)
def hashFold (l : List UInt8) : Int := l.foldl hashStep 14695981039346656037
theorem hashFold_snoc (l : List UInt8) (c : UInt8) : hashFold (l ++ [c]) = hashStep (hashFold l) c := by simp [hashFold]

/-- What both make of it at the end. -/
def hashOut (M : Int) : Int := wrap64 ((bits BinOp.xor IntKind.u64 M (M / 1099511627776)).tmod 1099511627776)

set_option maxRecDepth 100000 in
set_option maxHeartbeats 1000000 in
theorem hash_any (s : ByteArray) (w : World) (hs : s.size ≤ 9223372036854775807) :
    Calls Try.prog 20 #[.string s] w fun e w' => e = .returned (.int .i64 (hashOut (hashFold s.data.toList))) ∧ w = w' := by
  go_enter Try.func20, Try.ntmps20
  go_wp2
  go_loop [3, 7] (fun m i => ∃ (k : Nat) (M : Int), k ≤ s.size ∧ i = .int .i64 k ∧ m = .int .u64 M ∧ Hid (M = hashFold (s.data.toList.take k))) (fun _ i => s.size - (intOf i).toNat)
  case atStart => exact ⟨0, _, Nat.zero_le _, rfl, rfl, Lib.hid rfl⟩
  case round =>
    obtain ⟨k, M, hk, rfl, rfl, HM⟩ := hrel
    by_cases hlt : k < s.size
    · have HT := Lib.hid (take_snoc s k hlt)
      obtain ⟨c, hc⟩ : ∃ c, s[k] = c := ⟨_, rfl⟩
      rw [hc] at HT
      have hc8 := byte_lt c
      go_wp2
      go_round
      case rel =>
        refine ⟨k + 1, _, by omega, by go_num, rfl, Lib.hid ?_⟩
        rw [HT.out, hashFold_snoc, ← HM.out]
        rfl
      case measure => simp [intOf]; omega
    · go_wp2
      go_ret
      have e := HM.out
      rw [List.take_of_length_le (by simp; omega)] at e
      rw [← e]
      exact ⟨rfl, rfl⟩

set_option maxRecDepth 100000 in
set_option maxHeartbeats 1000000 in
theorem refHash_any (s : ByteArray) (w : World) (hs : s.size ≤ 9223372036854775807) :
    Calls Try.prog 21 #[.string s] w fun e w' => e = .returned (.int .i64 (hashOut (hashFold s.data.toList))) ∧ w = w' := by
  go_enter Try.func21, Try.ntmps21
  go_wp2
  go_loop [3, 4] (fun m i => ∃ (k : Nat) (M : Int), k ≤ s.size ∧ i = .int .i64 k ∧ m = .int .u64 M ∧ Hid (M = hashFold (s.data.toList.take k))) (fun _ i => s.size - (intOf i).toNat)
  case atStart => exact ⟨0, _, Nat.zero_le _, rfl, rfl, Lib.hid rfl⟩
  case round =>
    obtain ⟨k, M, hk, rfl, rfl, HM⟩ := hrel
    by_cases hlt : k < s.size
    · have HT := Lib.hid (take_snoc s k hlt)
      obtain ⟨c, hc⟩ : ∃ c, s[k] = c := ⟨_, rfl⟩
      rw [hc] at HT
      have hc8 := byte_lt c
      go_wp2
      go_round
      case rel =>
        refine ⟨k + 1, _, by omega, by go_num, rfl, Lib.hid ?_⟩
        rw [HT.out, hashFold_snoc, ← HM.out]
        rfl
      case measure => simp [intOf]; omega
    · go_wp2
      go_ret
      have e := HM.out
      rw [List.take_of_length_le (by simp; omega)] at e
      rw [← e]
      exact ⟨rfl, rfl⟩

end Go.Proofs.Ytdnjjppidolnbaa
