/-
  What the program's firstEdge of digraph returns, by the library's BinarySearchFunc.
-/
import Derived.Test.YtcggmonnajggcaaDevPlain
import Derived.Test.YtcggmonnajggcaaDevCheck
namespace Go.Proofs.Ytcggmonnajggcaa
open Go.RowKit

theorem firstKey_any (a : Int × Int) (x : Int) (w : World) :
    Calls Try.prog 69 #[.agg #[.int .i64 a.1, .int .i64 a.2], .int .i64 x] w fun e w' => e = .returned (.int .i64 (cmpI a.1 x)) ∧ Below w.heap.size w w' := by
  have C1 := Lib.hid (cmp_any a.1 x)
  obtain ⟨z, hz⟩ : ∃ z, cmpI a.1 x = z := ⟨_, rfl⟩
  rw [hz]
  rw [hz] at C1
  clear hz
  go_enter Try.func69, Try.ntmps69
  go_wp2_with fail
  refine (C1.out _).mono ?_
  rintro e w1 ⟨rfl, rfl⟩
  go_wp2
  go_ret
  exact ⟨rfl, (Below.refl _ w).alloc (Nat.le_refl _) _⟩

set_option maxRecDepth 100000 in
set_option maxHeartbeats 4000000 in
theorem search_any (n₀ N u : Nat) (ad : Option Addr) (cap : Nat) (es : List (Int × Int)) (w : World) (hE : EdgesA n₀ w ad es) (hn₀ : n₀ ≤ w.heap.size) (hl : es.length ≤ 2000) (hok : OkE N es) (hs : SrtN (gN es)) :
    Calls Try.prog 68 #[.slice ad es.length cap, .int .i64 (u : Int), .func (.func 69) #[] #[]] w fun e w' => ∃ (i : Nat) (b : Bool), e = .returned (.tuple #[.int .i64 (i : Int), .bool b]) ∧ FirstOf (gN es) u i ∧ Below w.heap.size w w' := by
  have HE := Lib.hid (hE.mono hn₀)
  have HOK := Lib.hid hok
  have HS := Lib.hid hs
  have HB0 : Hid (Between (gN es) u 0 es.length) := Lib.hid (by have := Between.start (gN es) u; rwa [gN_length] at this)
  clear hE hok hs hn₀
  go_enter Try.func68, Try.ntmps68
  go_wp2
  go_loopw [9, 10] (fun i j wr => ∃ lo hi : Nat, lo ≤ hi ∧ hi ≤ es.length ∧ i = .int .i64 lo ∧ j = .int .i64 hi ∧ Below w.heap.size w wr ∧ Hid (Between (gN es) u lo hi)) (fun i j _ => (intOf j).toNat - (intOf i).toNat)
  case atStart => exact ⟨0, es.length, Nat.zero_le _, Nat.le_refl _, rfl, rfl, Below.refl _ _, HB0⟩
  case round =>
    obtain ⟨lo, hi, h1, h2, rfl, rfl, hb, HB⟩ := hrel
    by_cases hlt : lo < hi
    · obtain ⟨h, hh⟩ : ∃ h, (lo + hi) / 2 = h := ⟨_, rfl⟩
      have hlo : lo ≤ h := by omega
      have hhi : h < hi := by omega
      obtain ⟨b, off, rfl, hbb, hc⟩ := HE.out.some_ (by omega)
      obtain ⟨d1, d2⟩ := hc h (by omega)
      obtain ⟨a, v, he, ha, hv, hge⟩ := HOK.out.at_ (show h < es.length by omega)
      rw [he] at d1 d2
      simp only [] at d1 d2
      have c1 := (hb.cell (p := ⟨b, off + h * 2, none⟩) hbb).trans d1
      have c2 := (hb.cell (p := ⟨b, off + h * 2 + 1, none⟩) hbb).trans d2
      have CE := Lib.hid (firstKey_any ((a : Int), (v : Int)) (u : Int))
      have s0 : (0 : Int) ≤ (lo : Int) + (hi : Int) := by omega
      have s1 : (lo : Int) + (hi : Int) ≤ 4000 := by omega
      have s2 : ((lo : Int) + (hi : Int)) / 2 = (h : Int) := by omega
      have s3 : (h : Int) < (es.length : Int) := by omega
      by_cases hau : a < u
      · have hz : cmpI (a : Int) (u : Int) = -1 := cmpI_lo (by omega)
        have HN : Hid (Between (gN es) u (h + 1) hi) := Lib.hid (HB.out.up HS.out hhi hge hau)
        rw [hz] at CE
        clear hc d1 d2 he hh hz hge hau
        go_wp2_with fail
        refine (CE.out _).mono ?_
        rintro e w1 ⟨rfl, b1⟩
        have B1 := Lib.hid (hb.trans (b1.mono hb.size))
        clear b1
        go_wp2
        go_roundw
        case rel => exact ⟨h + 1, hi, by omega, by omega, by go_num, rfl, B1.out, HN⟩
        case measure => simp [intOf]; omega
      · have hz : ∃ z, cmpI (a : Int) (u : Int) = z ∧ 0 ≤ z := by
          refine ⟨_, rfl, ?_⟩
          unfold cmpI
          rw [if_neg (by omega)]
          split <;> omega
        obtain ⟨z, hz, hz0⟩ := hz
        have HN : Hid (Between (gN es) u lo h) := Lib.hid (HB.out.down HS.out hlo hhi hge (by simp only []; omega))
        rw [hz] at CE
        clear hc d1 d2 he hh hz hge hau
        go_wp2_with fail
        refine (CE.out _).mono ?_
        rintro e w1 ⟨rfl, b1⟩
        have B1 := Lib.hid (hb.trans (b1.mono hb.size))
        clear b1
        go_wp2
        go_roundw
        case rel => exact ⟨lo, h, by omega, by omega, rfl, rfl, B1.out, HN⟩
        case measure => simp [intOf]; omega
    · obtain rfl : lo = hi := by omega
      have HF := Lib.hid HB.out.done
      by_cases hll : lo < es.length
      · obtain ⟨b, off, rfl, hbb, hc⟩ := HE.out.some_ (by omega)
        obtain ⟨d1, d2⟩ := hc lo hll
        obtain ⟨⟨a, v⟩, he⟩ : ∃ e, es[lo]?.getD (0, 0) = e := ⟨_, rfl⟩
        rw [he] at d1 d2
        simp only [] at d1 d2
        have c1 := (hb.cell (p := ⟨b, off + lo * 2, none⟩) hbb).trans d1
        have c2 := (hb.cell (p := ⟨b, off + lo * 2 + 1, none⟩) hbb).trans d2
        have CE := Lib.hid (firstKey_any (a, v) (u : Int))
        have s3 : (lo : Int) < (es.length : Int) := by omega
        clear hc d1 d2 he hlt
        go_wp2_with fail
        refine (CE.out _).mono ?_
        rintro e w1 ⟨rfl, b1⟩
        have B1 := Lib.hid (hb.trans (b1.mono hb.size))
        clear b1
        go_wp2
        go_ret2
        exact ⟨lo, _, rfl, HF.out, B1.out⟩
      · clear hlt
        go_wp2
        go_ret2
        exact ⟨lo, _, rfl, HF.out, hb⟩

/-- A graph: its number of nodes, its edges. -/
abbrev gV (N : Nat) (ad : Option Addr) (len cap : Nat) : Value := .agg #[.int .i64 (N : Int), .slice ad len cap]
set_option maxRecDepth 100000 in
set_option maxHeartbeats 4000000 in
theorem firstEdge_any (n₀ N u : Nat) (ad : Option Addr) (cap : Nat) (es : List (Int × Int)) (w : World) (hE : EdgesA n₀ w ad es) (hn₀ : n₀ ≤ w.heap.size) (hl : es.length ≤ 2000) (hok : OkE N es) (hs : SrtN (gN es)) :
    Calls Try.prog 66 #[gV N ad es.length cap, .int .i64 (u : Int)] w fun e w' => ∃ i : Nat, e = .returned (.int .i64 (i : Int)) ∧ FirstOf (gN es) u i ∧ Below w.heap.size w w' := by
  have hb := (Below.refl w.heap.size w).alloc (Nat.le_refl _) (.cells (gV N ad es.length cap).cells 52)
  have HC := Lib.hid (search_any n₀ N u ad cap es _ (hE.below (hb.mono hn₀)) (by have := hb.size; omega) hl hok hs)
  have HB := Lib.hid hb
  clear hE hb hok hs
  go_enter Try.func66, Try.ntmps66
  go_wp2_with fail
  refine HC.out.mono ?_
  rintro e w1 ⟨i, b, rfl, hf, b1⟩
  have HF := Lib.hid hf
  have B1 := Lib.hid (HB.out.trans (b1.mono HB.out.size))
  clear hf b1
  go_wp2
  go_ret
  exact ⟨i, rfl, HF.out, B1.out⟩

end Go.Proofs.Ytcggmonnajggcaa
