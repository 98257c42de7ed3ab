/-
  What the reference's Cycle of digraph returns.
-/
import Derived.Test.YtcggmonnajggcaaAround
import Derived.Test.YtcggmonnajggcaaComponents
namespace Go.Proofs.Ytcggmonnajggcaa
open Go.RowKit

/-- The shorter of the cycles; the first of them, where they are equally long. -/
def pickC (N : Nat) (g : List (Nat × Nat)) (out : List Nat) (i : Nat) : List Nat := if 0 < (aroundF N g i).length ∧ (out.length = 0 ∨ (aroundF N g i).length < out.length) then aroundF N g i else out
def cycK (N : Nat) (g : List (Nat × Nat)) (k : Nat) : List Nat := (List.range k).foldl (pickC N g) []
def cycL (n : Int) (es : List (Int × Int)) : List Nat := if chkE n es = 0 then cycK n.toNat (gN es) n.toNat else []
def cycE (n : Int) (es : List (Int × Int)) : Int := if chkE n es = 0 then (if (cycK n.toNat (gN es) n.toNat).length = 0 then 7 else 0) else 1
theorem RowN.grown {B : Nat} {l : List Nat} {v : Value} {w w' : World} (h : RowN B l v w) (hg : w.grownBy w' none) : RowN B l v w' := by
  obtain ⟨g, cap, e, h⟩ := h
  exact ⟨g, cap, e, h.kept hg (by cases v.ownBlock <;> simp)⟩

set_option maxRecDepth 100000 in
set_option maxHeartbeats 8000000 in
theorem cycle_ok (n₀ N : Nat) (ad : Option Addr) (cap : Nat) (es : List (Int × Int)) (w : World) (hE : EdgesA n₀ w ad es) (hn₀ : n₀ ≤ w.heap.size) (hc : chkE (N : Int) es = 0) (hl : es.length ≤ 2000) (hN : N ≤ 200) (hok : OkE N es) (L : List Nat) (z : Int) (hL : cycK N (gN es) N = L) (hz : (L.length = 0 ∧ z = 7) ∨ (L.length ≠ 0 ∧ z = 0)) :
    Calls Try.prog 24 #[.int .i64 (N : Int), .slice ad es.length cap] w (Gives L z w) := by
  have hck := check_calm n₀ (N : Int) ad cap es w hE (by omega)
  rw [hc] at hck
  have HCK := Lib.hid hck
  have HE := Lib.hid (hE.mono hn₀)
  have HOK := Lib.hid hok
  obtain ⟨g0, hg0⟩ : ∃ g : List (Nat × Nat), gN es = g := ⟨_, rfl⟩
  rw [hg0] at hL
  have HG0 := Lib.hid hg0
  have HL := Lib.hid hL
  have HZ := Lib.hid hz
  clear hE hn₀ hc hck hok hg0 hL hz
  go_enter Try.func24, Try.ntmps24
  go_wp2_with fail
  refine HCK.out.mono ?_
  rintro e w1 ⟨rfl, b1, z1⟩
  have HR1 : Hid (RowN w.heap.size [] (.slice (some ⟨w1.heap.size, 0, none⟩) 0 0) (w1.alloc (.cells #[] TI))) := Lib.hid (RowN.empty w1 _ b1.size)
  have c1 : Below w.heap.size w (w1.alloc (.cells #[] TI)) := b1.alloc b1.size _
  clear z1 b1
  go_wp2
  go_loopw [6, 7] (fun o i wr => ∃ (k : Nat) (v : Value), k ≤ N ∧ i = .int .i64 k ∧ v = o ∧ Hid (RowN w.heap.size (cycK N g0 k) v wr) ∧ Below w.heap.size w wr) (fun _ i _ => N - (intOf i).toNat)
  case atStart => exact ⟨0, _, Nat.zero_le _, rfl, rfl, HR1, c1⟩
  case round =>
    obtain ⟨k, o, hk, rfl, rfl, HR, hb⟩ := hrel
    by_cases hlt : k < N
    · have hsz := hb.size
      have har := around_any w.heap.size N k ad cap es wr (HE.out.below hb) hsz hl hN hlt HOK.out
      rw [HG0.out] at har
      have HAR := Lib.hid har
      have hst : cycK N g0 (k + 1) = pickC N g0 (cycK N g0 k) k := range_fold _ _ _
      obtain ⟨c, hcc⟩ : ∃ c, aroundF N g0 k = c := ⟨_, rfl⟩
      obtain ⟨l, hll⟩ : ∃ l, cycK N g0 k = l := ⟨_, rfl⟩
      rw [hcc] at HAR
      unfold pickC at hst
      rw [hcc, hll] at hst
      rw [hll] at HR
      have HSZ := Lib.hid hsz
      have HST := Lib.hid hst
      clear har hst hcc hll hsz
      go_wp2_with fail
      refine HAR.out.mono ?_
      rintro e w3 ⟨v', rfl, hrow, b3⟩
      have hb3 : Below w.heap.size w w3 := hb.trans (b3.mono HSZ.out)
      have HR3 := Lib.hid (HR.out.grown (below_grown b3))
      have HC3 := Lib.hid (RowN.base hrow HSZ.out)
      obtain ⟨g1, cap1, rfl, _⟩ := id HR3.out
      obtain ⟨g2, cap2, rfl, _⟩ := id HC3.out
      clear hrow b3
      by_cases h1 : 0 < c.length
      · have i1 : 0 < (c.length : Int) := by omega
        by_cases h2 : l.length = 0
        · have HN : Hid (cycK N g0 (k + 1) = c) := Lib.hid (by rw [HST.out, if_pos ⟨h1, .inl h2⟩])
          have i2 : ((l.length : Int) == 0) = true := by rw [beq_iff_eq]; omega
          clear h2
          go_wp2
          go_roundw
          case rel => exact ⟨k + 1, _, by omega, by go_num, rfl, by rw [HN.out]; exact HC3, hb3⟩
          case measure => simp [intOf]; omega
        · have i2 : ((l.length : Int) == 0) = false := by rw [beq_eq_false_iff_ne]; omega
          by_cases h3 : c.length < l.length
          · have HN : Hid (cycK N g0 (k + 1) = c) := Lib.hid (by rw [HST.out, if_pos ⟨h1, .inr h3⟩])
            have i3 : (c.length : Int) < (l.length : Int) := by omega
            clear h2
            go_wp2
            go_roundw
            case rel => exact ⟨k + 1, _, by omega, by go_num, rfl, by rw [HN.out]; exact HC3, hb3⟩
            case measure => simp [intOf]; omega
          · have HN : Hid (cycK N g0 (k + 1) = l) := Lib.hid (by rw [HST.out, if_neg (fun h => by rcases h.2 with h | h; exact h2 h; exact h3 h)])
            have i3 : ¬ (c.length : Int) < (l.length : Int) := by omega
            clear h2
            go_wp2
            go_roundw
            case rel => exact ⟨k + 1, _, by omega, by go_num, rfl, by rw [HN.out]; exact HR3, hb3⟩
            case measure => simp [intOf]; omega
      · have HN : Hid (cycK N g0 (k + 1) = l) := Lib.hid (by rw [HST.out, if_neg (fun h => h1 h.1)])
        have i1 : ¬ 0 < (c.length : Int) := by omega
        go_wp2
        go_roundw
        case rel => exact ⟨k + 1, _, by omega, by go_num, rfl, by rw [HN.out]; exact HR3, hb3⟩
        case measure => simp [intOf]; omega
    · have HF : Hid (RowN w.heap.size L o wr) := Lib.hid (by
        have h : k = N := by omega
        rw [← HL.out]
        exact h ▸ HR.out)
      obtain ⟨g1, cap1, rfl, _⟩ := id HF.out
      have hzz := HZ.out
      rcases hzz with ⟨h0, rfl⟩ | ⟨h0, rfl⟩
      · have i2 : ((L.length : Int) == 0) = true := by rw [beq_iff_eq]; omega
        clear h0
        go_wp2
        go_ret2
        exact ⟨_, rfl, HF.out, hb⟩
      · have i2 : ((L.length : Int) == 0) = false := by rw [beq_eq_false_iff_ne]; omega
        clear h0
        go_wp2
        go_ret2
        exact ⟨_, rfl, HF.out, hb⟩

set_option maxRecDepth 100000 in
set_option maxHeartbeats 4000000 in
theorem cycle_any (n₀ : Nat) (n : Int) (ad : Option Addr) (cap : Nat) (es : List (Int × Int)) (w : World) (hE : EdgesA n₀ w ad es) (hn₀ : n₀ ≤ w.heap.size) (hl : es.length ≤ 9223372036854775807) :
    Calls Try.prog 24 #[.int .i64 n, .slice ad es.length cap] w (Gives (cycL n es) (cycE n es) w) := by
  by_cases hc : chkE n es = 0
  · obtain ⟨N, rfl, hN, hl2, hok⟩ := chk_ok hc
    unfold cycL cycE
    rw [if_pos hc, if_pos hc, Int.toNat_natCast]
    refine cycle_ok n₀ N ad cap es w hE hn₀ hc hl2 hN hok _ _ rfl ?_
    by_cases h : (cycK N (gN es) N).length = 0
    · exact .inl ⟨h, by rw [if_pos h]⟩
    · exact .inr ⟨h, by rw [if_neg h]⟩
  · unfold cycL cycE
    rw [if_neg hc, if_neg hc]
    have hck := check_calm n₀ n ad cap es w hE hl
    have hcb : (chkE n es != 0) = true := by simpa using hc
    obtain ⟨c, hce⟩ : ∃ c, chkE n es = c := ⟨_, rfl⟩
    rw [hce] at hck hcb
    have HCK := Lib.hid hck
    clear hE hc hck hce
    go_enter Try.func24, Try.ntmps24
    go_wp2_with fail
    refine HCK.out.mono ?_
    rintro e w1 ⟨rfl, b1, z1⟩
    have HL : Hid (w.heap.size ≤ w1.heap.size) := Lib.hid b1.size
    clear z1
    go_wp2
    go_ret2
    exact ⟨_, rfl, RowN.empty w1 _ HL.out, b1.alloc HL.out _⟩

end Go.Proofs.Ytcggmonnajggcaa
