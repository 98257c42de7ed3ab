/-
  A row of bytes made of a string; what the laws' 'changed' returns.
-/
import Derived.Test.YtoffacjefnmmmaaAwake2
namespace Go.Proofs.Ytoffacjefnmmmaa
open Go.RowKit

theorem xor8 (c d : UInt8) : bits BinOp.xor IntKind.u8 (c.toNat : Int) (d.toNat : Int) = ((c ^^^ d).toNat : Int) := by
  have hc := c.toNat_lt
  have hd := d.toNat_lt
  have hx : c.toNat ^^^ d.toNat < 2 ^ 8 := Nat.xor_lt_two_pow hc hd
  unfold bits
  simp
  rw [show (2 : Nat) ^ IntKind.u8.bits = 256 from rfl, Nat.mod_eq_of_lt hc, Nat.mod_eq_of_lt hd]
  exact IntWalk.u8_in _ ⟨Int.natCast_nonneg _, by omega⟩

/-- The bytes l lie at the head of block b, and none of them is frozen. -/
structure BytesAt (b : Nat) (l : List UInt8) (w : World) : Prop where
  cells : ∀ j (hj : j < l.length), w.cell? ⟨b, j, none⟩ = some (.int .u8 (l[j].toNat : Int))
  free : ∀ j, j < l.length → w.frozen? ⟨b, j, none⟩ = false

theorem BytesAt.set {b : Nat} {l : List UInt8} {w : World} (h : BytesAt b l w) (i : Nat) (hi : i < l.length) (c : UInt8) : BytesAt b (l.set i c) (w.setCell ⟨b, i, none⟩ (.int .u8 (c.toNat : Int))) := by
  refine ⟨fun j hj => ?_, fun j hj => ?_⟩
  · rw [List.length_set] at hj
    by_cases e : i = j
    · subst e
      rw [World.cell?_setCell_same _ _ _ (h.cells i hi)]
      simp
    · rw [World.cell?_setCell_other _ _ _ _ (by intro e2; injection e2; exact e ‹_›), h.cells j hj]
      simp [e]
  · rw [List.length_set] at hj
    rw [World.frozen?_setCell]
    exact h.free j hj
theorem BytesAt.below {b B : Nat} {l : List UInt8} {w w' : World} (h : BytesAt b l w) (hb : Below B w w') (hB : b < B) : BytesAt b l w' :=
  ⟨fun j hj => (hb.cell (p := ⟨b, j, none⟩) hB).trans (h.cells j hj), fun j hj => (hb.frozen (p := ⟨b, j, none⟩) hB).trans (h.free j hj)⟩

/-- '[]byte(s)'. -/
theorem bytes_of (s : ByteArray) (w : World) : ∃ cap w1, (convert 9 35 (.string s)).run Try.prog w = .ok (.slice (some ⟨w.heap.size, 0, none⟩) s.size cap) w1 ∧ BytesAt w.heap.size s.data.toList w1 ∧ Below w.heap.size w w1 ∧ w1.heap.size = w.heap.size + 1 := by
  have hrun := run_bytes_of_string (P := Try.prog) w 9 35 T8 s Try.underlying9 Try.underlying35 Try.underlying5
  refine ⟨_, _, hrun, ⟨fun j hj => ?_, fun j hj => ?_⟩, (Below.refl _ _).drew.alloc (Nat.le_refl _) _, by simp⟩
  · have hn : (w.drew.alloc (.cells (bytesRow s (grownCap w s.size 0 T8)) T8 ((bytesRow s (grownCap w s.size 0 T8)).size, (bytesRow s (grownCap w s.size 0 T8)).size + 1))).heap[w.heap.size]? = some (.cells (bytesRow s (grownCap w s.size 0 T8)) T8 ((bytesRow s (grownCap w s.size 0 T8)).size, (bytesRow s (grownCap w s.size 0 T8)).size + 1)) := World.alloc_heap_new w.drew _
    rw [Lib.cell_of_heap hn j]
    have hj' : j < s.size := by simpa using hj
    unfold bytesRow
    rw [Array.getElem?_append_left (by simpa using hj')]
    simp [hj']
  · have hsz : j < (bytesRow s (grownCap w s.size 0 T8)).size := by
      have hj' : j < s.size := by simpa using hj
      unfold bytesRow
      simp
      omega
    refine (World.frozen?_alloc_mark w.drew (bytesRow s (grownCap w s.size 0 T8)) T8 (bytesRow s (grownCap w s.size 0 T8)).size ((bytesRow s (grownCap w s.size 0 T8)).size + 1) j).trans ?_
    simp
    omega

/-- 'string(b)' of such a row. -/
theorem string_of (b cap n : Nat) (l : List UInt8) (hn : l.length = n) (w : World) (h : BytesAt b l w) : (convert 35 9 (.slice (some ⟨b, 0, none⟩) n cap)).run Try.prog w = .ok (.string (strOf l)) w := by
  subst hn
  refine run_convert_bytes_back (P := Try.prog) w 35 9 T8 ⟨b, 0, none⟩ cap l Try.underlying35 Try.underlying5 Try.underlying9 fun j hj => ?_
  have e : (⟨b, 0, none⟩ : Addr).add j = ⟨b, j, none⟩ := by unfold Addr.add; split <;> simp_all
  rw [e]
  exact h.cells j hj

set_option maxHeartbeats 1000000 in
theorem changed_any (s : ByteArray) (i : Nat) (x c : UInt8) (hx : s.data.toList[i]? = some x) (w : World) :
    Calls Try.prog 25 #[.string s, .int .i64 (i : Int), .int .u8 (c.toNat : Int)] w fun e w' => e = .returned (.string (strOf (s.data.toList.set i (x ^^^ c)))) ∧ Below w.heap.size w w' := by
  obtain ⟨hi, hxe⟩ := List.getElem?_eq_some_iff.1 hx
  have his : i < s.size := by simpa using hi
  have hi2 : (i : Int) < (s.size : Int) := by omega
  obtain ⟨cap, w1, hrun, hB, hb, hz⟩ := bytes_of s w
  have c0 : w1.cell? ⟨w.heap.size, i, none⟩ = some (.int .u8 (x.toNat : Int)) := by rw [← hxe]; exact hB.cells i hi
  have f0 := hB.free i hi
  have hst := hB.set i hi (x ^^^ c)
  have hback := string_of w.heap.size cap s.size (s.data.toList.set i (x ^^^ c)) (by rw [List.length_set]; simp) _ hst
  have HX := Lib.hid (xor8 x c)
  obtain ⟨r, hr⟩ : ∃ r, strOf (s.data.toList.set i (x ^^^ c)) = r := ⟨_, rfl⟩
  obtain ⟨v, hv⟩ : ∃ v : Int, ((x ^^^ c).toNat : Int) = v := ⟨_, rfl⟩
  rw [hv] at hback HX
  rw [hr] at hback ⊢
  have hx8 := HX.out
  clear hB hx hxe hst hr hv hi
  go_enter Try.func25, Try.ntmps25
  go_wp2
  go_ret
  exact ⟨rfl, hb.setCell (Nat.le_refl _) _⟩

theorem xor_ne {x c : UInt8} (h : c ≠ 0) : x ^^^ c ≠ x := by
  intro e
  apply h
  have : x ^^^ c ^^^ x = 0 := by rw [e, UInt8.xor_self]
  rw [UInt8.xor_comm x c, UInt8.xor_assoc, UInt8.xor_self, UInt8.xor_zero] at this
  exact this

end Go.Proofs.Ytoffacjefnmmmaa
