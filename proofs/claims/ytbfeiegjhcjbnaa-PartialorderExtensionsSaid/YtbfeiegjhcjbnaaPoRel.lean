/-
  What the program's newRelation, hasLoop, contains, isTransitive, hasBetween, include and complete of partialorder do.
-/
import Derived.Test.YtbfeiegjhcjbnaaPoBase
namespace Go.Proofs.Ytbfeiegjhcjbnaa
open Go.RowKit

set_option maxRecDepth 100000 in
set_option maxHeartbeats 4000000 in
theorem newRelation_any (n₀ N : Nat) (ad : Option Addr) (cap : Nat) (es : List (Int × Int)) (w : World) (hE : EdgesA n₀ w ad es) (hn₀ : n₀ ≤ w.heap.size) (hl : es.length ≤ 2000) (hN : N ≤ 200) (hok : OkE N es) :
    Calls Try.prog 53 #[.int .i64 (N : Int), .slice ad es.length cap] w fun e w' => ∃ g, e = .returned (.slice (some ⟨w.heap.size, 0, none⟩) N N) ∧ MatK w.heap.size w.heap.size N N g (relG (gN es)) w' ∧ Below w.heap.size w w' := by
  obtain ⟨i0, hi, hz0, hz1, hz2⟩ := info_parts infoBool
  obtain ⟨i4, li, lz0, lz1, lz2⟩ := info_parts infoR
  have HE := Lib.hid (hE.mono hn₀)
  have HOK := Lib.hid hok
  clear hE hn₀ hok
  go_enter Try.func53, Try.ntmps53
  go_wp2_with (at_make; refine wpList_make_full _ rfl (.tmp 9) (.tmp 9) 53 rfl w.heap.size TR i4 (.slice none 0 0) 1 Try.underlying53 li lz0 lz1 .i64 .i64 _ _ N rfl rfl rfl rfl (by rw [lz2]; omega) (by unfold maxLen; omega) (Nat.le_refl _) ?_)
  intro w1 ho1 hg1
  rw [rowsV_zero N (fun _ => 0)] at ho1
  have HM1 : Hid (MatK w.heap.size w.heap.size N 0 (fun _ => 0) (fun _ _ => false) w1) := Lib.hid ⟨ho1, fun i h => absurd h (by omega), fun i j h => absurd h (by omega)⟩
  have HB1 : Hid (Below w.heap.size w w1) := Lib.hid ((Below.refl _ w).grown hg1 (Nat.le_refl _) (fun j hj => by cases hj))
  obtain ⟨A, hA⟩ : ∃ A, w.heap.size = A := ⟨_, rfl⟩
  rw [hA] at HM1 HB1 ⊢
  rw [hA] at HE
  clear ho1 hg1
  go_wp2_with fail
  go_loopw [13] (fun i wr => ∃ (k : Nat) (g : Nat → Nat), k ≤ N ∧ i = .int .i64 k ∧ Hid (MatK A A N k g (fun _ _ => false) wr) ∧ Hid (Below A w wr)) (fun i _ => N - (intOf i).toNat)
  case atStart => exact ⟨0, _, Nat.zero_le _, rfl, HM1, HB1⟩
  case round =>
    obtain ⟨k, g, hk, rfl, HM, HB⟩ := hrel
    by_cases hlt : k < N
    · have k1 : (k : Int) < (N : Int) := by omega
      have hAw := HM.out.lt.2
      go_wp2_with (at_make; refine wpList_make_full _ rfl (.tmp 18) (.tmp 18) 58 rfl A TBool i0 (.bool false) 1 Try.underlying58 hi hz0 hz1 .i64 .i64 _ _ N rfl rfl rfl rfl (by rw [hz2]; omega) (by unfold maxLen; omega) (by omega) ?_)
      intro w2 ho2 hg2
      rw [boolsV_false] at ho2
      have HM2 := Lib.hid (HM.out.made hlt (fun _ => rfl) hg2 ho2)
      have hm := HM.out.outer.kept hg2 (by simp [Value.ownBlock])
      have c1 := World.ownsRow.frozenAt hm k
      have c2 : w2.cell? ⟨A, k, none⟩ = some (.slice none 0 0) := by
        rw [World.ownsRow.cellAt hm k (by omega), rowsV_get _ hlt, if_neg (by omega)]
      have hb2 := HB.out.grown hg2 (by omega) (fun j hj => by cases hj)
      have HB2 : Hid (Below A w (w2.setCell ⟨A, k, none⟩ (.slice (some ⟨wr.heap.size, 0, none⟩) N N))) := Lib.hid (hb2.setCell (p := ⟨A, k, none⟩) (Nat.le_refl _) _)
      clear ho2 hg2 hm hb2
      go_wp2
      go_roundw
      case rel => exact ⟨k + 1, _, by omega, by go_num, HM2, HB2⟩
      case measure => simp [intOf]; omega
    · obtain rfl : k = N := by omega
      have HM0 : Hid (MatK A A k k g (relK (gN es) 0) wr) := Lib.hid (by rw [relK_zero]; exact HM.out)
      go_wp2_with fail
      go_loopw [24] (fun i wx => ∃ (q : Nat), q ≤ es.length ∧ i = .int .i64 q ∧ Hid (MatK A A k k g (relK (gN es) q) wx) ∧ Hid (Below A w wx)) (fun i _ => es.length - (intOf i).toNat)
      case atStart => exact ⟨0, Nat.zero_le _, rfl, HM0, HB⟩
      case round =>
        obtain ⟨q, hq, rfl, HM, HB⟩ := hrel
        by_cases hlq : q < es.length
        · obtain ⟨bl, off, rfl, hbb, hcc⟩ := HE.out.some_ (by omega)
          obtain ⟨d1, d2⟩ := hcc q hlq
          obtain ⟨a, b, hev, haN, hbN, hge⟩ := HOK.out.at_ hlq
          rw [hev] at d1 d2
          have p1 := (HB.out.cell (p := ⟨bl, off + q * 2, none⟩) hbb).trans d1
          have p2 := (HB.out.cell (p := ⟨bl, off + q * 2 + 1, none⟩) hbb).trans d2
          simp only [] at p1 p2
          have hAw := HM.out.lt.2
          have hM2 := HM.out.alloc (.cells #[.int .i64 (a : Int), .int .i64 (b : Int)] 42)
          have hB2 := HB.out.alloc (by omega) (.cells #[.int .i64 (a : Int), .int .i64 (b : Int)] 42)
          obtain ⟨wb, hwb⟩ : ∃ wb, wr.alloc (.cells #[.int .i64 (a : Int), .int .i64 (b : Int)] 42) = wb := ⟨_, rfl⟩
          have c0 : wb.cell? ⟨wr.heap.size, 0, none⟩ = some (.int .i64 (a : Int)) := by rw [← hwb]; simp
          have c1 : wb.cell? ⟨wr.heap.size, 1, none⟩ = some (.int .i64 (b : Int)) := by rw [← hwb]; simp
          rw [hwb] at hM2 hB2
          have c2 := hM2.cell1 haN haN
          have c3 := hM2.cell2 (j := b) haN hbN
          have c4 := hM2.free2 haN b
          have HM4 : Hid (MatK A A k k g (relK (gN es) (q + 1)) (wb.drew.setCell ⟨g a, b, none⟩ (.bool true))) := Lib.hid (by
            rw [relK_succ hge]
            refine hM2.drew.store haN (by unfold upd; simp) (fun i j hne => ?_)
            unfold upd
            by_cases e1 : i = a
            · have e2 : j ≠ b := fun h => hne ⟨e1, h⟩
              simp [e2]
            · simp [e1])
          have hgA := (hM2.lt_row haN).1
          have a1 : (a : Int) < (k : Int) := by omega
          have b1 : (b : Int) < (k : Int) := by omega
          have hwd : ∀ p, wb.drew.cell? p = wb.cell? p := fun _ => rfl
          rw [← hwd] at c0 c1 c2 c3
          have c6 : wb.drew.frozen? ⟨g a, b, none⟩ = false := c4
          have HB4 : Hid (Below A w (wb.drew.setCell ⟨g a, b, none⟩ (.bool true))) := Lib.hid (hB2.drew.setCell (p := ⟨g a, b, none⟩) hgA _)
          obtain ⟨W2, hW2⟩ : ∃ W2, wb.drew = W2 := ⟨_, rfl⟩
          rw [hW2] at c0 c1 c2 c3 c6 HM4 HB4
          clear hM2 hB2 hcc d1 d2 hev hge c4 hwd
          go_wp2_with fail
          refine wp_region_still_tail 8 (by kernel_rfl) (by kernel_rfl) ?_
          change wpStill _ _ wb.drew (fun a' => wpList _ _ _ _ a' wb.drew) _ _
          rw [hW2]
          simp only [List.take_succ_cons, List.take_zero, List.drop_succ_cons, List.drop_zero]
          repeat still_step
          refine wpStill_nil ?_
          clear c0 c1 c2 hW2
          go_wp2
          go_roundw
          case rel => exact ⟨q + 1, by omega, by go_num, HM4, HB4⟩
          case measure => simp [intOf]; omega
        · obtain rfl : q = es.length := by omega
          have HM2 : Hid (MatK A A k k g (relG (gN es)) wr) := Lib.hid (by
            have := HM.out
            rwa [← gN_length, relK_all] at this)
          subst hA
          go_wp2
          go_ret
          exact ⟨g, rfl, HM2.out, HB.out⟩

/-- A relation's value. -/
abbrev matV (A N : Nat) : Value := .slice (some ⟨A, 0, none⟩) N N
abbrev rowV (G N : Nat) : Value := .slice (some ⟨G, 0, none⟩) N N

set_option maxRecDepth 100000 in
set_option maxHeartbeats 4000000 in
theorem hasLoop_any (B A N : Nat) (g : Nat → Nat) (f : Nat → Nat → Bool) (w : World) (hM : MatK B A N N g f w) (hN : N ≤ 200) :
    Calls Try.prog 55 #[matV A N] w fun e w' => e = .returned (.bool (loopK f N)) ∧ w = w' := by
  have HM := Lib.hid hM
  clear hM
  go_enter Try.func55, Try.ntmps55
  go_wp2
  go_loopw [7] (fun i wr => ∃ (k : Nat), k ≤ N ∧ i = .int .i64 k ∧ Hid (loopK f k = false) ∧ w = wr) (fun i _ => N - (intOf i).toNat)
  case atStart => exact ⟨0, Nat.zero_le _, rfl, Lib.hid rfl, rfl⟩
  case round =>
    obtain ⟨k, hk, rfl, HL, rfl⟩ := hrel
    by_cases hlt : k < N
    · have k1 : (k : Int) < (N : Int) := by omega
      have c1 := HM.out.cell1 hlt hlt
      have c2 := HM.out.cell2 hlt hlt
      obtain ⟨z, hz⟩ : ∃ z, f k k = z := ⟨_, rfl⟩
      rw [hz] at c2
      cases z
      · have HL2 : Hid (loopK f (k + 1) = false) := Lib.hid (by rw [loopK_succ, HL.out, hz]; rfl)
        clear hz
        go_wp2
        go_roundw
        case rel => exact ⟨k + 1, by omega, by go_num, HL2, trivial⟩
        case measure => simp [intOf]; omega
      · have HT : Hid (loopK f N = true) := Lib.hid (by
          cases h : loopK f N with
          | true => rfl
          | false => rw [loopK_false.1 h k hlt] at hz; cases hz)
        clear hz
        go_wp2
        go_ret
        rw [HT.out]
        exact ⟨rfl, rfl⟩
    · obtain rfl : k = N := by omega
      go_wp2
      go_ret
      rw [HL.out]
      exact ⟨rfl, rfl⟩

/-- Each element of a row is in another one, up to column k. -/
def inK2 (p q : Nat → Bool) (k : Nat) : Bool := (List.range k).all fun j => !q j || p j
theorem inK2_succ (p q : Nat → Bool) (k : Nat) : inK2 p q (k + 1) = (inK2 p q k && (!q k || p k)) := by unfold inK2; rw [List.range_succ, List.all_append]; simp
theorem inK2_miss {p q : Nat → Bool} {N k : Nat} (hk : k < N) (hq : q k = true) (hp : p k = false) : inK2 p q N = false := by
  unfold inK2
  rw [List.all_eq_false]
  exact ⟨k, by simpa using hk, by simp [hq, hp]⟩
set_option maxRecDepth 100000 in
set_option maxHeartbeats 4000000 in
theorem contains_any (B A N a b : Nat) (g : Nat → Nat) (f : Nat → Nat → Bool) (w : World) (hM : MatK B A N N g f w) (hN : N ≤ 200) (ha : a < N) (hb : b < N) :
    Calls Try.prog 73 #[rowV (g a) N, rowV (g b) N] w fun e w' => e = .returned (.bool (inK2 (f a) (f b) N)) ∧ w = w' := by
  have HM := Lib.hid hM
  clear hM
  go_enter Try.func73, Try.ntmps73
  go_wp2
  go_loopw [9] (fun i wr => ∃ (k : Nat), k ≤ N ∧ i = .int .i64 k ∧ Hid (inK2 (f a) (f b) k = true) ∧ w = wr) (fun i _ => N - (intOf i).toNat)
  case atStart => exact ⟨0, Nat.zero_le _, rfl, Lib.hid rfl, rfl⟩
  case round =>
    obtain ⟨k, hk, rfl, HL, rfl⟩ := hrel
    by_cases hlt : k < N
    · have k1 : (k : Int) < (N : Int) := by omega
      have c1 := HM.out.cell2 ha hlt
      have c2 := HM.out.cell2 hb hlt
      obtain ⟨y, hy⟩ : ∃ z, f a k = z := ⟨_, rfl⟩
      obtain ⟨z, hz⟩ : ∃ z, f b k = z := ⟨_, rfl⟩
      rw [hy] at c1
      rw [hz] at c2
      cases z
      · have HL2 : Hid (inK2 (f a) (f b) (k + 1) = true) := Lib.hid (by rw [inK2_succ, HL.out, hz]; rfl)
        clear hz hy
        go_wp2
        go_roundw
        case rel => exact ⟨k + 1, by omega, by go_num, HL2, trivial⟩
        case measure => simp [intOf]; omega
      · cases y
        · have HT : Hid (inK2 (f a) (f b) N = false) := Lib.hid (inK2_miss hlt hz hy)
          clear hz hy
          go_wp2
          go_ret
          rw [HT.out]
          exact ⟨rfl, rfl⟩
        · have HL2 : Hid (inK2 (f a) (f b) (k + 1) = true) := Lib.hid (by rw [inK2_succ, HL.out, hz, hy]; rfl)
          clear hz hy
          go_wp2
          go_roundw
          case rel => exact ⟨k + 1, by omega, by go_num, HL2, trivial⟩
          case measure => simp [intOf]; omega
    · obtain rfl : k = N := by omega
      go_wp2
      go_ret
      rw [HL.out]
      exact ⟨rfl, rfl⟩

/-- The row i contains the rows of its first k elements. -/
def trsK (N : Nat) (f : Nat → Nat → Bool) (i k : Nat) : Bool := (List.range k).all fun j => !f i j || inK2 (f i) (f j) N
theorem trsK_succ (N : Nat) (f : Nat → Nat → Bool) (i k : Nat) : trsK N f i (k + 1) = (trsK N f i k && (!f i k || inK2 (f i) (f k) N)) := by unfold trsK; rw [List.range_succ, List.all_append]; simp
def trsI (N : Nat) (f : Nat → Nat → Bool) (k : Nat) : Bool := (List.range k).all fun i => trsK N f i N
theorem trsI_succ (N : Nat) (f : Nat → Nat → Bool) (k : Nat) : trsI N f (k + 1) = (trsI N f k && trsK N f k N) := by unfold trsI; rw [List.range_succ, List.all_append]; simp
theorem trsI_all (N : Nat) (f : Nat → Nat → Bool) : trsI N f N = trsB N f := rfl
theorem trsI_miss {N : Nat} {f : Nat → Nat → Bool} {i j : Nat} (hi : i < N) (hj : j < N) (h1 : f i j = true) (h2 : inK2 (f i) (f j) N = false) : trsB N f = false := by
  rw [← trsI_all]
  unfold trsI
  rw [List.all_eq_false]
  refine ⟨i, by simpa using hi, ?_⟩
  unfold trsK
  rw [Bool.not_eq_true, List.all_eq_false]
  exact ⟨j, by simpa using hj, by simp [h1, h2]⟩
set_option maxRecDepth 100000 in
set_option maxHeartbeats 4000000 in
theorem isTransitive_any (B A N : Nat) (g : Nat → Nat) (f : Nat → Nat → Bool) (w : World) (hM : MatK B A N N g f w) (hN : N ≤ 200) :
    Calls Try.prog 65 #[matV A N] w fun e w' => e = .returned (.bool (trsB N f)) ∧ w = w' := by
  have HM := Lib.hid hM
  clear hM
  go_enter Try.func65, Try.ntmps65
  go_wp2
  go_loopw [9] (fun i wr => ∃ (k : Nat), k ≤ N ∧ i = .int .i64 k ∧ Hid (trsI N f k = true) ∧ w = wr) (fun i _ => N - (intOf i).toNat)
  case atStart => exact ⟨0, Nat.zero_le _, rfl, Lib.hid rfl, rfl⟩
  case round =>
    obtain ⟨k, hk, rfl, HL, rfl⟩ := hrel
    by_cases hlt : k < N
    · have k1 : (k : Int) < (N : Int) := by omega
      have c1 := HM.out.cell1 hlt hlt
      go_wp2
      go_loopw [15] (fun i wr => ∃ (j : Nat), j ≤ N ∧ i = .int .i64 j ∧ Hid (trsK N f k j = true) ∧ w = wr) (fun i _ => N - (intOf i).toNat)
      case atStart => exact ⟨0, Nat.zero_le _, rfl, Lib.hid rfl, rfl⟩
      case round =>
        obtain ⟨j, hj, rfl, HK, rfl⟩ := hrel
        by_cases hjt : j < N
        · have j1 : (j : Int) < (N : Int) := by omega
          have c3 := HM.out.cell1 hjt hjt
          have c2 := HM.out.cell2 hlt hjt
          have HC := contains_any B A N k j g f w HM.out hN hlt hjt
          obtain ⟨z, hz⟩ : ∃ z, f k j = z := ⟨_, rfl⟩
          obtain ⟨y, hy⟩ : ∃ y, inK2 (f k) (f j) N = y := ⟨_, rfl⟩
          rw [hz] at c2
          rw [hy] at HC
          have HC := Lib.hid HC
          cases z
          · have HK2 : Hid (trsK N f k (j + 1) = true) := Lib.hid (by rw [trsK_succ, HK.out, hz]; rfl)
            clear hz hy HC
            go_wp2_with fail
            go_roundw
            case rel => exact ⟨j + 1, by omega, by go_num, HK2, trivial⟩
            case measure => simp [intOf]; omega
          · cases y
            · have HT : Hid (trsB N f = false) := Lib.hid (trsI_miss hlt hjt hz hy)
              clear hz hy
              go_wp2_with fail
              refine HC.out.mono ?_
              rintro e w1 ⟨rfl, rfl⟩
              go_wp2
              go_ret
              rw [HT.out]
              exact ⟨rfl, rfl⟩
            · have HK2 : Hid (trsK N f k (j + 1) = true) := Lib.hid (by rw [trsK_succ, HK.out, hz, hy]; rfl)
              clear hz hy
              go_wp2_with fail
              refine HC.out.mono ?_
              rintro e w1 ⟨rfl, rfl⟩
              go_wp2
              go_roundw
              case rel => exact ⟨j + 1, by omega, by go_num, HK2, trivial⟩
              case measure => simp [intOf]; omega
        · obtain rfl : j = N := by omega
          have HL2 : Hid (trsI j f (k + 1) = true) := Lib.hid (by rw [trsI_succ, HL.out, HK.out]; rfl)
          go_wp2
          go_roundw
          case rel => exact ⟨k + 1, by omega, by go_num, HL2, trivial⟩
          case measure => simp [intOf]; omega
    · obtain rfl : k = N := by omega
      have HT : Hid (trsB k f = true) := Lib.hid (by rw [← trsI_all]; exact HL.out)
      go_wp2
      go_ret
      rw [HT.out]
      exact ⟨rfl, rfl⟩

/-- Row k of the closure's stage goes into row i. -/
theorem include_any (B A N i k : Nat) (g : Nat → Nat) (f : Nat → Nat → Bool) (w : World) (hM : MatK B A N N g (stgI f k i) w) (hN : N ≤ 200) (hi : i < N) (hk : k < N) (hik : f i k = true) (hL : Low2 N f) :
    Calls Try.prog 67 #[rowV (g i) N, rowV (g k) N] w fun e w' => e = .returned (.tuple #[]) ∧ MatK B A N N g (stgI f k (i + 1)) w' ∧ Below B w w' := by
  have HM : Hid (MatK B A N N g (stgJ f k i 0) w) := Lib.hid (by rw [stgJ_zero]; exact hM)
  have HIK := Lib.hid hik
  have HLo := Lib.hid hL
  clear hM hik hL
  go_enter Try.func67, Try.ntmps67
  go_wp2
  go_loopw [8] (fun x wr => ∃ (j : Nat), j ≤ N ∧ x = .int .i64 j ∧ Hid (MatK B A N N g (stgJ f k i j) wr) ∧ Hid (Below B w wr)) (fun x _ => N - (intOf x).toNat)
  case atStart => exact ⟨0, Nat.zero_le _, rfl, HM, Lib.hid (Below.refl _ _)⟩
  case round =>
    obtain ⟨j, hj, rfl, HMj, HB⟩ := hrel
    by_cases hlt : j < N
    · have j1 : (j : Int) < (N : Int) := by omega
      have c1 := HMj.out.cell2 hk hlt
      have c2 := HMj.out.cell2 hi hlt
      rw [stgJ_row] at c1
      rw [stgJ_at] at c2
      have c3 := HMj.out.free2 hi j
      have hgB := (HMj.out.lt_row hi).1
      have HM2 : Hid (MatK B A N N g (stgJ f k i (j + 1)) (wr.setCell ⟨g i, j, none⟩ (.bool (f i j || f k j)))) := Lib.hid (by
        rw [stgJ_step HIK.out]
        exact HMj.out.store hi (by simp) (fun a b hne => by rw [if_neg hne]))
      have HB2 : Hid (Below B w (wr.setCell ⟨g i, j, none⟩ (.bool (f i j || f k j)))) := Lib.hid (HB.out.setCell (p := ⟨g i, j, none⟩) hgB _)
      obtain ⟨y, hy⟩ : ∃ z, f i j = z := ⟨_, rfl⟩
      obtain ⟨z, hz⟩ : ∃ z, f k j = z := ⟨_, rfl⟩
      rw [hy] at c2
      rw [hz] at c1
      rw [hy, hz] at HM2 HB2
      clear hy hz
      cases y
      · rw [Bool.false_or] at HM2 HB2
        go_wp2
        go_roundw
        case rel => exact ⟨j + 1, by omega, by go_num, HM2, HB2⟩
        case measure => simp [intOf]; omega
      · rw [Bool.true_or] at HM2 HB2
        go_wp2
        go_roundw
        case rel => exact ⟨j + 1, by omega, by go_num, HM2, HB2⟩
        case measure => simp [intOf]; omega
    · obtain rfl : j = N := by omega
      have HM2 : Hid (MatK B A j j g (stgI f k (i + 1)) wr) := Lib.hid (by rw [← stgJ_full HLo.out]; exact HMj.out)
      go_wp2
      go_end0
      exact ⟨rfl, HM2.out, HB.out⟩

set_option maxRecDepth 100000 in
set_option maxHeartbeats 4000000 in
theorem complete_any (B A N : Nat) (g : Nat → Nat) (f : Nat → Nat → Bool) (w : World) (hM : MatK B A N N g f w) (hN : N ≤ 200) (hL : Low2 N f) :
    Calls Try.prog 54 #[matV A N] w fun e w' => e = .returned (.tuple #[]) ∧ MatK B A N N g (war f N) w' ∧ Below B w w' := by
  have HM := Lib.hid hM
  have HLo := Lib.hid hL
  clear hM hL
  go_enter Try.func54, Try.ntmps54
  go_wp2
  go_loopw [8] (fun x wr => ∃ (k : Nat), k ≤ N ∧ x = .int .i64 k ∧ Hid (MatK B A N N g (war f k) wr) ∧ Hid (Below B w wr)) (fun x _ => N - (intOf x).toNat)
  case atStart => exact ⟨0, Nat.zero_le _, rfl, HM, Lib.hid (Below.refl _ _)⟩
  case round =>
    obtain ⟨k, hk, rfl, HMk, HB⟩ := hrel
    by_cases hlt : k < N
    · have k1 : (k : Int) < (N : Int) := by omega
      have c1 := HMk.out.cell1 hlt hlt
      have HM0 : Hid (MatK B A N N g (stgI (war f k) k 0) wr) := Lib.hid (by rw [stgI_zero]; exact HMk.out)
      go_wp2
      go_loopw [15] (fun x wx => ∃ (i : Nat), i ≤ N ∧ x = .int .i64 i ∧ Hid (MatK B A N N g (stgI (war f k) k i) wx) ∧ Hid (Below B w wx)) (fun x _ => N - (intOf x).toNat)
      case atStart => exact ⟨0, Nat.zero_le _, rfl, HM0, HB⟩
      case round =>
        obtain ⟨i, hi, rfl, HMi, HBi⟩ := hrel
        by_cases hit : i < N
        · have i1 : (i : Int) < (N : Int) := by omega
          have c2 := HMi.out.cell1 hit hit
          have c3 := HMi.out.cell2 hit hlt
          rw [stgI_col] at c3
          obtain ⟨z, hz⟩ : ∃ z, war f k i k = z := ⟨_, rfl⟩
          rw [hz] at c3
          cases z
          · have HM2 : Hid (MatK B A N N g (stgI (war f k) k (i + 1)) wr) := Lib.hid (by rw [stgI_next hz]; exact HMi.out)
            clear hz
            go_wp2_with fail
            go_roundw
            case rel => exact ⟨i + 1, by omega, by go_num, HM2, HBi⟩
            case measure => simp [intOf]; omega
          · have HC := Lib.hid (include_any B A N i k g (war f k) wr HMi.out hN hit hlt hz (HLo.out.war k))
            clear hz
            go_wp2_with fail
            refine HC.out.mono ?_
            rintro e w1 ⟨rfl, hm, hb⟩
            have HM2 := Lib.hid hm
            have HB2 := Lib.hid (HBi.out.trans hb)
            clear hm hb
            go_wp2
            go_roundw
            case rel => exact ⟨i + 1, by omega, by go_num, HM2, HB2⟩
            case measure => simp [intOf]; omega
        · obtain rfl : i = N := by omega
          have HM2 : Hid (MatK B A i i g (war f (k + 1)) wr) := Lib.hid (by
            have := HMi.out
            rwa [stgI_full (HLo.out.war k)] at this)
          go_wp2
          go_roundw
          case rel => exact ⟨k + 1, by omega, by go_num, HM2, HBi⟩
          case measure => simp [intOf]; omega
    · obtain rfl : k = N := by omega
      go_wp2
      go_end0
      exact ⟨rfl, HMk.out, HB.out⟩

end Go.Proofs.Ytbfeiegjhcjbnaa
