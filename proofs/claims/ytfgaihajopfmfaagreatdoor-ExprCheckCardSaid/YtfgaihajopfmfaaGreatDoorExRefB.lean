/-
  Bindings in memory; the reference's GreatBindings, CheckBindings and find. Which bindings are valid: the program's isBinding and areValid. What the reference's CheckBindings returns.
-/
import Derived.RangeFuncRecord
import Derived.Laws.ResultCell
import Derived.Laws.CopyOwn
import Derived.Laws.Rows
import Derived.Laws.Tables
import Derived.Test.YtfgaihajopfmfaaGreatDoorExRefA
import Derived.Deep.RegionHeld3
import Derived.Sort.Walk0
import Derived.Test.YtfgaihajopfmfaaGreatDoorHeldTop
/-! ### ExBind: Bindings in memory; the reference's GreatBindings, CheckBindings and find. -/
namespace Go.Proofs.YtfgaihajopfmfaaGreatDoor
set_option linter.unusedSimpArgs false
set_option linter.unusedVariables false
open Go.RowKit

abbrev TB : TypeId := 46
theorem infoB : (Tryz.prog.info? TB).map (fun i => (i.zero, i.size, i.bytes)) = some (some (.agg #[.string .empty, .int .i64 0, .int .i64 0]), 3, 32) := by kernel_rfl
def gb (l : List Bd) (i : Nat) : Bd := l[i]?.getD zeroB
def bdA (b : Bd) : Value := .agg #[.string b.1, .int .i64 b.2.1, .int .i64 b.2.2]
def AtB (w : World) (b o : Nat) (x : Bd) : Prop := w.cell? ⟨b, o, none⟩ = some (.string x.1) ∧ w.cell? ⟨b, o + 1, none⟩ = some (.int .i64 x.2.1) ∧ w.cell? ⟨b, o + 2, none⟩ = some (.int .i64 x.2.2)
theorem AtB.keep {w w' : World} {b o : Nat} {x : Bd} (h : AtB w b o x) (hb : w'.heap[b]? = w.heap[b]?) : AtB w' b o x :=
  ⟨(World.cell?_of_block hb).trans h.1, (World.cell?_of_block hb).trans h.2.1, (World.cell?_of_block hb).trans h.2.2⟩
theorem AtB.lt {w : World} {b o : Nat} {x : Bd} (h : AtB w b o x) : b < w.heap.size := World.block_lt_of_cell? _ _ h.1
/-- A slice value that leads to these bindings. -/
def KB (w : World) (v : Value) (l : List Bd) : Prop := ∃ (a : Option Addr) (c : Nat), v = .slice a l.length c ∧ l.length ≤ c ∧ c ≤ 9223372036854775807 ∧ ∀ j, j < l.length → ∃ b off, a = some ⟨b, off, none⟩ ∧ b < w.heap.size ∧ AtB w b (off + j * 3) (gb l j)
theorem KB.carry {w w' : World} {v : Value} {l : List Bd} (h : KB w v l) (hb : Below w.heap.size w w') : KB w' v l := by
  obtain ⟨a, c, e, h1, h2, h3⟩ := h
  refine ⟨a, c, e, h1, h2, fun j hj => ?_⟩
  obtain ⟨b, off, e1, e2, e3⟩ := h3 j hj
  exact ⟨b, off, e1, Nat.lt_of_lt_of_le e2 hb.size, e3.keep (hb.block b e2)⟩
theorem KB.nil (w : World) (a : Option Addr) (c : Nat) (hc : c ≤ 9223372036854775807) : KB w (.slice a 0 c) [] := ⟨a, c, rfl, Nat.zero_le _, hc, fun j hj => by simp at hj⟩
theorem KB.at_ {w : World} {a : Option Addr} {n c : Nat} {l : List Bd} (h : KB w (.slice a n c) l) (j : Nat) (hj : j < l.length) : ∃ b off, a = some ⟨b, off, none⟩ ∧ b < w.heap.size ∧ AtB w b (off + j * 3) (gb l j) := by
  obtain ⟨a', c', e, h1, h2, h3⟩ := h
  injection e with e1 e2 e3
  subst e1
  exact h3 j hj
theorem boxB (w : World) (x : Bd) : AtB (w.alloc (.cells #[.string x.1, .int .i64 x.2.1, .int .i64 x.2.2] TB)) w.heap.size 0 x := by
  refine ⟨?_, ?_, ?_⟩ <;> go_simp
theorem gb_mem {l : List Bd} {j : Nat} (h : j < l.length) : gb l j ∈ l := by
  unfold gb
  rw [List.getElem?_eq_getElem h]
  exact List.getElem_mem h
theorem drop_consB (l : List Bd) (j : Nat) (h : j < l.length) : l.drop j = gb l j :: l.drop (j + 1) := by
  unfold gb
  rw [List.getElem?_eq_getElem h, List.drop_eq_getElem_cons h]
  rfl

/-! ### Great bindings -/
def gtB (l : List Bd) : Bool := (l.take 70).any (fun b => decide (40 < b.1.size)) || decide (70 < l.length)
theorem gtB_step (l : List Bd) (j : Nat) (h : j < l.length) (h2 : j < 70) : ((l.take 70).drop j).any (fun b => decide (40 < b.1.size)) = (decide (40 < (gb l j).1.size) || ((l.take 70).drop (j + 1)).any (fun b => decide (40 < b.1.size))) := by
  rw [drop_consB (l.take 70) j (by rw [List.length_take]; omega)]
  have : gb (l.take 70) j = gb l j := by unfold gb; rw [List.getElem?_take_of_lt h2]
  rw [this]
  rfl
set_option maxRecDepth 100000 in
set_option maxHeartbeats 4000000 in
theorem rGreatB_any (l : List Bd) (v : Value) (w : World) (hK : KB w v l) :
    Calls Tryz.prog 29 #[v] w fun x w' => x = .returned (.bool (gtB l)) ∧ Below w.heap.size w w' := by
  obtain ⟨a, c, rfl, h1, h2, hc⟩ := hK
  have HC := Lib.hid hc
  clear hc
  go_enter Tryz.func29, Tryz.ntmps29
  go_wp2
  go_loopw [3] (fun x wr => ∃ j : Nat, j ≤ l.length ∧ j ≤ 70 ∧ x = .int .i64 j ∧ Hid ((l.take 70).any (fun b => decide (40 < b.1.size)) = ((l.take 70).drop j).any (fun b => decide (40 < b.1.size))) ∧ Hid (Below w.heap.size w wr)) (fun x _ => l.length - (intOf x).toNat)
  case atStart => exact ⟨0, Nat.zero_le _, by omega, rfl, Lib.hid rfl, Lib.hid (Below.refl _ _)⟩
  case round =>
    obtain ⟨j, hj, hj7, rfl, HI, HB⟩ := hrel
    by_cases hlt : j < l.length
    · have k1 : (j : Int) < (l.length : Int) := by omega
      by_cases h70 : j < 70
      · have k2 : (j : Int) < 70 := by omega
        obtain ⟨b, off, rfl, hbl, y⟩ := HC.out j hlt
        obtain ⟨y0, y1, y2⟩ := y.keep (HB.out.block b hbl)
        have HI2 := Lib.hid (HI.out.trans (gtB_step l j hlt h70))
        obtain ⟨q, hq⟩ : ∃ q, gb l j = q := ⟨_, rfl⟩
        rw [hq] at HI2 y0 y1 y2
        clear hq y
        by_cases hs : 40 < q.1.size
        · have hs2 : (40 : Int) < (q.1.size : Int) := by omega
          have HE : Hid (gtB l = true) := Lib.hid (by unfold gtB; rw [HI2.out]; simp [hs])
          clear hs
          go_wp2
          go_ret
          exact ⟨by rw [HE.out]; rfl, HB.out⟩
        · have hs2 : ¬ (40 : Int) < (q.1.size : Int) := by omega
          have HI3 : Hid ((l.take 70).any (fun b => decide (40 < b.1.size)) = ((l.take 70).drop (j + 1)).any (fun b => decide (40 < b.1.size))) := Lib.hid (by rw [HI2.out]; simp [hs])
          clear hs
          go_wp2
          go_roundw
          case rel => exact ⟨j + 1, by omega, by omega, by go_num, HI3, HB⟩
          case measure => simp [intOf]; omega
      · have k2 : ¬ (j : Int) < 70 := by omega
        have HE : Hid (gtB l = decide (70 < l.length)) := Lib.hid (by unfold gtB; rw [HI.out, List.drop_eq_nil_of_le (by rw [List.length_take]; omega)]; simp)
        have k3 : decide (70 < l.length) = decide ((70 : Int) < (l.length : Int)) := by rw [decide_eq_decide]; omega
        have HK3 := Lib.hid k3
        clear k3
        go_wp2
        go_ret
        exact ⟨by rw [HE.out, HK3.out]; rfl, HB.out⟩
    · have k1 : ¬ (j : Int) < (l.length : Int) := by omega
      have HE : Hid (gtB l = decide (70 < l.length)) := Lib.hid (by unfold gtB; rw [HI.out, List.drop_eq_nil_of_le (by rw [List.length_take]; omega)]; simp)
      have k3 : decide (70 < l.length) = decide ((70 : Int) < (l.length : Int)) := by rw [decide_eq_decide]; omega
      have HK3 := Lib.hid k3
      clear k3
      go_wp2
      go_ret
      exact ⟨by rw [HE.out, HK3.out]; rfl, HB.out⟩

/-! ### The binding of a name -/
theorem fdB_step {l : List Bd} {j : Nat} (h : j < l.length) (s : ByteArray) : fdB (l.drop j) s = if (gb l j).1 = s then some (gb l j) else fdB (l.drop (j + 1)) s := by
  rw [drop_consB l j h]
  simp only [fdB]
def fdD (l : List Bd) (s : ByteArray) : Bd := (fdB l s).getD zeroB
set_option maxRecDepth 100000 in
set_option maxHeartbeats 4000000 in
theorem rfind_any (l : List Bd) (v : Value) (s : ByteArray) (w : World) (hK : KB w v l) :
    Calls Tryz.prog 130 #[v, .string s] w fun x w' => x = .returned (.tuple #[bdA (fdD l s), .bool (fdB l s).isSome]) ∧ Below w.heap.size w w' := by
  obtain ⟨a, c, rfl, h1, h2, hc⟩ := hK
  have HC := Lib.hid hc
  obtain ⟨w1, hw1⟩ : ∃ W, w.alloc (.cells #[.string ⟨#[]⟩, .int .i64 0, .int .i64 0] TB) = W := ⟨_, rfl⟩
  have hb1 : Below w.heap.size w w1 := by rw [← hw1]; exact (Below.refl _ _).alloc (Nat.le_refl _) _
  have hh1 : w1.heap[w.heap.size]? = some (.cells #[.string ⟨#[]⟩, .int .i64 0, .int .i64 0] TB) := by rw [← hw1]; exact World.alloc_heap_new w _
  have HW := Lib.hid hw1
  have HB1 := Lib.hid hb1
  have HH1 := Lib.hid hh1
  clear hc hw1 hb1 hh1
  go_enter Tryz.func130, Tryz.ntmps130
  go_wp2
  rw [HW.out]
  go_loopw [6] (fun x wr => ∃ j : Nat, j ≤ l.length ∧ x = .int .i64 j ∧ Hid (fdB l s = fdB (l.drop j) s) ∧ Hid (Below w.heap.size w wr) ∧ Hid (wr.heap[w.heap.size]? = some (.cells #[.string ⟨#[]⟩, .int .i64 0, .int .i64 0] TB))) (fun x _ => l.length - (intOf x).toNat)
  case atStart => exact ⟨0, Nat.zero_le _, rfl, Lib.hid rfl, HB1, HH1⟩
  case round =>
    obtain ⟨j, hj, rfl, HI, HB, HH⟩ := hrel
    by_cases hlt : j < l.length
    · have k1 : (j : Int) < (l.length : Int) := by omega
      obtain ⟨b, off, rfl, hbl, y⟩ := HC.out j hlt
      obtain ⟨y0, y1, y2⟩ := y.keep (HB.out.block b hbl)
      have HI2 := Lib.hid (HI.out.trans (fdB_step hlt s))
      obtain ⟨q, hq⟩ : ∃ q, gb l j = q := ⟨_, rfl⟩
      rw [hq] at HI2 y0 y1 y2
      clear hq y
      by_cases hs : q.1 = s
      · obtain ⟨s1, s2, s3⟩ := str_yes hs
        have HE : Hid (fdB l s = some q) := Lib.hid (by rw [HI2.out, if_pos hs])
        clear hs
        have HH4 := Lib.hid (setRow_heap wr w.heap.size _ #[.string q.1, .int .i64 q.2.1, .int .i64 q.2.2] _ _ HH.out)
        have HB4 : Hid (Below w.heap.size w (wr.setRow w.heap.size #[.string q.1, .int .i64 q.2.1, .int .i64 q.2.2])) := Lib.hid (below_setRow HB.out (Nat.le_refl _) _)
        go_wp2_with (refine wpList_store_row rfl TB (.tmp 4) (.tmp 23) rfl w.heap.size #[.string q.1, .int .i64 q.2.1, .int .i64 q.2.2] rfl rfl _ _ HH.out (by kernel_rfl) rfl (by simp [Value.oneCell']) ?_)
        have hl := run_loadVar_row (P := Tryz.prog) (wr.setRow w.heap.size #[.string q.1, .int .i64 q.2.1, .int .i64 q.2.2]) w.heap.size _ TB _ (0, 0) _ HH4.out Tryz.underlying46 rfl (by kernel_rfl)
        try simp only [Exit.inBlock, Exit.then]
        refine bodyPost_ret (v := .tuple #[bdA (fdD l s), .bool (fdB l s).isSome]) ?_ rfl ⟨rfl, HB4.out⟩
        rw [results_cell_tmp Tryz.results130]
        simp [asAddr, hl, Result.andThen, fdD, HE.out, bdA]
      · obtain ⟨s1, s2, s3⟩ := str_no hs
        have HI3 : Hid (fdB l s = fdB (l.drop (j + 1)) s) := Lib.hid (by rw [HI2.out, if_neg hs])
        clear hs
        go_wp2
        go_roundw
        case rel => exact ⟨j + 1, by omega, by go_num, HI3, HB, HH⟩
        case measure => simp [intOf]; omega
    · have k1 : ¬ (j : Int) < (l.length : Int) := by omega
      have HE : Hid (fdB l s = none) := Lib.hid (by rw [HI.out, List.drop_eq_nil_of_le (by omega)]; rfl)
      have HH4 := Lib.hid (setRow_heap wr w.heap.size _ #[.string ⟨#[]⟩, .int .i64 0, .int .i64 0] _ _ HH.out)
      have HB4 : Hid (Below w.heap.size w (wr.setRow w.heap.size #[.string ⟨#[]⟩, .int .i64 0, .int .i64 0])) := Lib.hid (below_setRow HB.out (Nat.le_refl _) _)
      go_wp2_with (refine wpList_store_row rfl TB (.tmp 4) (.tmp 24) rfl w.heap.size #[.string ⟨#[]⟩, .int .i64 0, .int .i64 0] rfl rfl _ _ HH.out (by kernel_rfl) rfl (by simp [Value.oneCell']) ?_)
      have hl := run_loadVar_row (P := Tryz.prog) (wr.setRow w.heap.size #[.string ⟨#[]⟩, .int .i64 0, .int .i64 0]) w.heap.size _ TB _ (0, 0) _ HH4.out Tryz.underlying46 rfl (by kernel_rfl)
      try simp only [Exit.inBlock, Exit.then]
      refine bodyPost_ret (v := .tuple #[bdA (fdD l s), .bool (fdB l s).isSome]) ?_ rfl ⟨rfl, HB4.out⟩
      rw [results_cell_tmp Tryz.results130]
      simp [asAddr, hl, Result.andThen, fdD, HE.out, bdA, zeroB]; rfl

end Go.Proofs.YtfgaihajopfmfaaGreatDoor

/-! ### ExBindV: Which bindings are valid: the program's isBinding and areValid. -/
namespace Go.Proofs.YtfgaihajopfmfaaGreatDoor
set_option linter.unusedSimpArgs false
set_option linter.unusedVariables false
open Go.RowKit

def ltS (a b : ByteArray) : Bool := Op.bytesLess a.toList b.toList
theorem ltS_eq (a b : ByteArray) : ltS a b = decide (a.data.toList < b.data.toList) := by unfold ltS; rw [bytesLess_eq, ByteArray.toList_eq, ByteArray.toList_eq]
/-- Whether a binding is valid. -/
def okB (b : Bd) : Bool := nmB b.1 && ((decide (b.2.1 = 1) && decide (-1099511627776 ≤ b.2.2) && decide (b.2.2 ≤ 1099511627776)) || (decide (b.2.1 = 2) && (decide (b.2.2 = 0) || decide (b.2.2 = 1))))
def goodB (l : List Bd) (j : Nat) : Bool := okB (gb l j) && (decide (j = 0) || ltS (gb l (j - 1)).1 (gb l j).1)
def ckB (l : List Bd) : Bool := decide (l.length ≤ 64) && allP (goodB l) l.length
theorem ckB_no {l : List Bd} {j : Nat} (h : j < l.length) (hj : goodB l j = false) : ckB l = false := by unfold ckB; rw [allP_no h hj]; simp

set_option maxRecDepth 100000 in
set_option maxHeartbeats 4000000 in
theorem isBinding_any (x : Bd) (w : World) (hs : x.1.size ≤ 9223372036854775807) :
    Calls Tryz.prog 109 #[bdA x] w fun e w' => e = .returned (.bool (okB x)) ∧ Below w.heap.size w w' := by
  obtain ⟨s, t, v⟩ := x
  have hb0 : Below w.heap.size w (w.alloc (.cells #[.string s, .int .i64 t, .int .i64 v] TB)) := (Below.refl _ w).alloc (Nat.le_refl _) _
  have HB0 := Lib.hid hb0
  have HX := Lib.hid (boxB w (s, t, v))
  have hN := isName_same s (w.alloc (.cells #[.string s, .int .i64 t, .int .i64 v] TB)) hs
  simp only [bdA] at *
  clear hb0
  cases hn : nmB s with
  | false =>
    have HE : Hid (okB (s, t, v) = false) := Lib.hid (by simp [okB, hn])
    rw [hn] at hN
    have HN := Lib.hid hN
    clear hn hN
    go_enter Tryz.func109, Tryz.ntmps109
    go_wp2_with fail
    refine HN.out.mono ?_
    rintro e w4 ⟨rfl, hw⟩
    have hw := hw.symm
    subst hw
    go_wp2
    go_ret
    exact ⟨by rw [HE.out]; rfl, HB0.out⟩
  | true =>
    rw [hn] at hN
    have HN := Lib.hid hN
    have HE : Hid (okB (s, t, v) = ((decide (t = 1) && decide (-1099511627776 ≤ v) && decide (v ≤ 1099511627776)) || (decide (t = 2) && (decide (v = 0) || decide (v = 1))))) := Lib.hid (by simp [okB, hn])
    clear hn hN
    by_cases h1 : t = 1
    · subst h1
      by_cases h2 : (-1099511627776 : Int) ≤ v
      · by_cases h3 : v ≤ 1099511627776
        · have HE2 : Hid (okB (s, 1, v) = true) := Lib.hid (by rw [HE.out]; simp [h2, h3])
          go_enter Tryz.func109, Tryz.ntmps109
          go_wp2_with fail
          refine HN.out.mono ?_
          rintro e w4 ⟨rfl, hw⟩
          have hw := hw.symm
          subst hw
          have HD : Hid (decide (v ≤ 1099511627776) = true) := Lib.hid (by simpa using h3)
          go_wp2
          go_ret
          exact ⟨by rw [HE2.out]; first | rfl | (simp only [HD.out]; rfl), HB0.out⟩
        · have HE2 : Hid (okB (s, 1, v) = false) := Lib.hid (by rw [HE.out]; simp [h3])
          go_enter Tryz.func109, Tryz.ntmps109
          go_wp2_with fail
          refine HN.out.mono ?_
          rintro e w4 ⟨rfl, hw⟩
          have hw := hw.symm
          subst hw
          have HD : Hid (decide (v ≤ 1099511627776) = false) := Lib.hid (by simpa using h3)
          go_wp2
          go_ret
          exact ⟨by rw [HE2.out]; first | rfl | (simp only [HD.out]; rfl), HB0.out⟩
      · have HE2 : Hid (okB (s, 1, v) = false) := Lib.hid (by rw [HE.out]; simp [h2])
        go_enter Tryz.func109, Tryz.ntmps109
        go_wp2_with fail
        refine HN.out.mono ?_
        rintro e w4 ⟨rfl, hw⟩
        have hw := hw.symm
        subst hw
        go_wp2
        go_ret
        exact ⟨by rw [HE2.out]; rfl, HB0.out⟩
    · obtain ⟨t1, t2⟩ := ine h1
      by_cases h2 : t = 2
      · subst h2
        by_cases h3 : v = 0
        · obtain ⟨v1, v2⟩ := ieq h3
          have HE2 : Hid (okB (s, 2, v) = true) := Lib.hid (by rw [HE.out]; simp [h3])
          clear h1 h3
          go_enter Tryz.func109, Tryz.ntmps109
          go_wp2_with fail
          refine HN.out.mono ?_
          rintro e w4 ⟨rfl, hw⟩
          have hw := hw.symm
          subst hw
          go_wp2
          go_ret
          exact ⟨by rw [HE2.out]; rfl, HB0.out⟩
        · obtain ⟨v1, v2⟩ := ine h3
          have HE2 : Hid (okB (s, 2, v) = (v == 1)) := Lib.hid (by rw [HE.out]; simp [h3]; rw [Bool.eq_iff_iff]; simp)
          clear h1 h3
          go_enter Tryz.func109, Tryz.ntmps109
          go_wp2_with fail
          refine HN.out.mono ?_
          rintro e w4 ⟨rfl, hw⟩
          have hw := hw.symm
          subst hw
          go_wp2
          go_ret
          exact ⟨by rw [HE2.out]; rfl, HB0.out⟩
      · obtain ⟨t3, t4⟩ := ine h2
        have HE2 : Hid (okB (s, t, v) = false) := Lib.hid (by rw [HE.out]; simp [h1, h2])
        clear h1 h2
        go_enter Tryz.func109, Tryz.ntmps109
        go_wp2_with fail
        refine HN.out.mono ?_
        rintro e w4 ⟨rfl, hw⟩
        have hw := hw.symm
        subst hw
        go_wp2
        go_ret
        exact ⟨by rw [HE2.out]; rfl, HB0.out⟩

theorem ltS_yes {a b : ByteArray} (h : ltS a b = true) : Op.bytesLess a.toList b.toList = true ∧ Op.bytesLess b.toList a.toList = false ∧ (b.toList == a.toList) = false := by
  refine ⟨h, ?_, ?_⟩
  · have h1 : decide (a.data.toList < b.data.toList) = true := by rw [← ltS_eq]; exact h
    have h2 := of_decide_eq_true h1
    have h3 : ltS b a = decide (b.data.toList < a.data.toList) := ltS_eq b a
    have : ¬ b.data.toList < a.data.toList := fun h3 => List.lt_irrefl _ (List.lt_trans h2 h3)
    have h4 : ltS b a = false := by rw [h3]; simpa using this
    exact h4
  · have h1 : decide (a.data.toList < b.data.toList) = true := by rw [← ltS_eq]; exact h
    have h2 := of_decide_eq_true h1
    rw [ByteArray.toList_eq, ByteArray.toList_eq, beq_eq_false_iff_ne]
    intro e
    rw [e] at h2
    exact List.lt_irrefl _ h2
theorem ltS_no {a b : ByteArray} (h : ltS a b = false) : Op.bytesLess a.toList b.toList = false ∧ (Op.bytesLess b.toList a.toList || b.toList == a.toList) = true := by
  refine ⟨h, ?_⟩
  have h1 : decide (a.data.toList < b.data.toList) = false := by rw [← ltS_eq]; exact h
  have h2 : ¬ a.data.toList < b.data.toList := by simpa using h1
  have h3 : Op.bytesLess b.toList a.toList = decide (b.data.toList < a.data.toList) := ltS_eq b a
  rw [h3, ByteArray.toList_eq, ByteArray.toList_eq]
  have h4 : b.data.toList ≤ a.data.toList := List.not_lt.1 h2
  by_cases h5 : b.data.toList = a.data.toList
  · simp [h5]
  · have : b.data.toList < a.data.toList := by
      rcases Classical.em (b.data.toList < a.data.toList) with h | h
      · exact h
      · exact absurd (List.le_antisymm h4 (List.not_lt.1 h)) h5
    simp [this]

/-! ### areValid -/
section
variable {P : Program} {ops : Array Oper} {Q : Exit → Act → World → Prop} {md : Region.Mode} {S : World → Prop}
/-- An operation that its guard passes over. -/
theorem wpAnyH_skip {i : Nat} {oi : Oper} {fuel : Nat} {listed : Array Bool} {a : Act} {w : World} (hi : ops.toList[i]? = some oi)
    (hs : Region.noSelect ops = true) (hf : Region.free md ops listed i = true) (hr : (Region.ready md ops listed).contains i = true)
    (hQ : ∀ c a w, Q (.panic c) (a.put oi.dst undef) w → Q (.panic c) a w) (hw : Region.wanted oi (yielded ops a.tmps) = false) (hS : S w)
    (h : wpAnyH P md ops Q S fuel (listed.setIfInBounds i true) (a.put oi.dst undef) w) : wpAnyH P md ops Q S (fuel + 1) listed a w :=
  wpAnyH_take (by rw [← hi]; exact Array.getElem?_toList.symm) hs hf hr hQ (Or.inr ⟨hw, rfl⟩) hS h
end
/-- What a round of areValid knows: the new variable, the one before, the list. -/
abbrev AvS (w w' : World) (bx : Nat) (x : Bd) (bp op : Nat) (p : ByteArray) : Prop :=
  w'.cell? ⟨bx, 0, none⟩ = some (.string x.1) ∧ w'.cell? ⟨bx, 1, none⟩ = some (.int .i64 x.2.1) ∧ w'.cell? ⟨bx, 2, none⟩ = some (.int .i64 x.2.2) ∧ w'.cell? ⟨bp, op, none⟩ = some (.string p) ∧ Below w.heap.size w w' ∧ w.heap.size ≤ w'.heap.size
theorem AvS.keep {w w1 w2 : World} {bx : Nat} {x : Bd} {bp op : Nat} {p : ByteArray} (h : AvS w w1 bx x bp op p) (hb : Below w1.heap.size w1 w2) : AvS w w2 bx x bp op p := by
  obtain ⟨h0, h1, h2, h3, h4, h5⟩ := h
  have later : ∀ {q : Addr} {v : Value}, w1.cell? q = some v → w2.cell? q = some v := fun h => (hb.cell (World.block_lt_of_cell? _ _ h)).trans h
  exact ⟨later h0, later h1, later h2, later h3, h4.trans (hb.mono h5), Nat.le_trans h5 hb.size⟩
theorem AvS.drew {w w1 : World} {n : Nat} {bx : Nat} {x : Bd} {bp op : Nat} {p : ByteArray} (h : AvS w w1 bx x bp op p) : AvS w (w1.drewN n) bx x bp op p := h.keep ⟨rfl, rfl, rfl, Nat.le_refl _, fun _ _ => rfl⟩

theorem goodB_zero (l : List Bd) : goodB l 0 = okB (gb l 0) := by simp [goodB]
theorem goodB_succ (l : List Bd) (j : Nat) (h : 0 < j) : goodB l j = (okB (gb l j) && ltS (gb l (j - 1)).1 (gb l j).1) := by
  have : ¬ j = 0 := by omega
  simp [goodB, this]
set_option maxRecDepth 100000 in
set_option maxHeartbeats 4000000 in
theorem areValid_any (l : List Bd) (v : Value) (w : World) (hK : KB w v l) (hs : ∀ x ∈ l, x.1.size ≤ 9223372036854775807) :
    Calls Tryz.prog 62 #[v] w fun x w' => x = .returned (.bool (ckB l)) ∧ Below w.heap.size w w' := by
  obtain ⟨a, c, rfl, h1, h2, hc⟩ := hK
  have HC := Lib.hid hc
  have HS := Lib.hid hs
  clear hc hs
  by_cases h64 : 64 < l.length
  · have m1 : (64 : Int) < (l.length : Int) := by omega
    have HE : Hid (ckB l = false) := Lib.hid (by unfold ckB; simp; omega)
    clear h64
    go_enter Tryz.func62, Tryz.ntmps62
    go_wp2
    go_ret
    exact ⟨by rw [HE.out]; rfl, Below.refl _ _⟩
  have m1 : ¬ (64 : Int) < (l.length : Int) := by omega
  have HE : Hid (ckB l = allP (goodB l) l.length) := Lib.hid (by unfold ckB; simp; omega)
  clear h64
  go_enter Tryz.func62, Tryz.ntmps62
  go_wp2
  go_loopw [10] (fun x wr => ∃ j : Nat, j ≤ l.length ∧ x = .int .i64 j ∧ Hid (allP (goodB l) j = true) ∧ Hid (Below w.heap.size w wr)) (fun x _ => l.length - (intOf x).toNat)
  case atStart => exact ⟨0, Nat.zero_le _, rfl, Lib.hid rfl, Lib.hid (Below.refl _ _)⟩
  case round =>
    obtain ⟨j, hj, rfl, HI, HB⟩ := hrel
    by_cases hlt : j < l.length
    · have k1 : (j : Int) < (l.length : Int) := by omega
      obtain ⟨b, off, rfl, hbl, y⟩ := HC.out j hlt
      have hy := y.keep (HB.out.block b hbl)
      obtain ⟨y0, y1, y2⟩ := hy
      have HBA : Hid (Below w.heap.size w (wr.alloc (.cells #[.string (gb l j).1, .int .i64 (gb l j).2.1, .int .i64 (gb l j).2.2] TB))) := Lib.hid (HB.out.alloc HB.out.size _)
      have hNb := fun W => isBinding_any (gb l j) W (HS.out _ (gb_mem hlt))
      have HX := Lib.hid (boxB wr (gb l j))
      have HG1 := Lib.hid (fun h => ckB_no (l := l) hlt h)
      cases hq : okB (gb l j) with
      | false =>
        have HR : Hid (ckB l = false) := Lib.hid (HG1.out (by unfold goodB; rw [hq]; rfl))
        have HS0 : Hid (AvS w (wr.alloc (.cells #[.string (gb l j).1, .int .i64 (gb l j).2.1, .int .i64 (gb l j).2.2] TB)) wr.heap.size (gb l j) wr.heap.size 0 (gb l j).1) := Lib.hid ⟨HX.out.1, HX.out.2.1, HX.out.2.2, HX.out.1, HBA.out, HBA.out.size⟩
        rw [hq] at hNb
        obtain ⟨x, hx⟩ : ∃ x, gb l j = x := ⟨_, rfl⟩
        rw [hx] at hNb y0 y1 y2 HS0
        obtain ⟨p, hp⟩ : ∃ p, x.1 = p := ⟨_, rfl⟩
        obtain ⟨bq, hbq⟩ : ∃ bq, wr.heap.size = bq := ⟨_, rfl⟩
        obtain ⟨oq, hoq⟩ : ∃ oq : Nat, 0 = oq := ⟨_, rfl⟩
        replace HS0 : Hid (AvS w (wr.alloc (.cells #[.string x.1, .int .i64 x.2.1, .int .i64 x.2.2] TB)) wr.heap.size x bq oq p) := Lib.hid (by rw [← hp, ← hbq, ← hoq]; exact HS0.out)
        simp only [bdA] at hNb
        have HN := Lib.hid hNb
        clear hNb hq hx hp hbq hoq HX HBA y
        go_wp2_with fail
        refine wp_region_held (S := fun w' => AvS w w' wr.heap.size x bq oq p) (by kernel_rfl) ?_
        change wpAnyH _ _ _ _ _ _ _ _ (wr.alloc (.cells #[.string x.1, .int .i64 x.2.1, .int .i64 x.2.2] TB)).drew
        have HSw : Hid (AvS w (wr.alloc (.cells #[.string x.1, .int .i64 x.2.1, .int .i64 x.2.2] TB)).drew wr.heap.size x bq oq p) := Lib.hid (HS0.out.keep ⟨rfl, rfl, rfl, Nat.le_refl _, fun _ _ => rfl⟩)
        generalize (wr.alloc (.cells #[.string x.1, .int .i64 x.2.1, .int .i64 x.2.2] TB)).drew = W1 at HSw ⊢
        refine wpAnyH_read (i := 0) (v := bdA x) rfl (by kernel_rfl) (by kernel_rfl) (by kernel_rfl) (fun _ _ _ h => h) (by rfl) (by rintro V ⟨h0, h1, h2, h3⟩; unfold bdA; go_simp) HSw.out ?_
        simp only [Act.put, List.setIfInBounds_toArray, List.set_cons_zero, List.set_cons_succ]
        refine wpAnyH_next (i := 1) rfl (by kernel_rfl) ?_
        unfold bdA
        go_wp2_with fail
        refine (HN.out _).mono ?_
        rintro e w4 ⟨rfl, b4⟩
        have HSw4 : Hid (AvS w w4 wr.heap.size x bq oq p) := Lib.hid (HSw.out.keep b4)
        clear b4
        go_wp2_with fail
        refine ⟨HSw4.out, ?_⟩
        refine wpAnyH_read (i := 2) (v := .bool true) rfl (by kernel_rfl) (by kernel_rfl) (by kernel_rfl) (fun _ _ _ h => h) (by rfl) (fun _ _ => rfl) HSw4.out ?_
        simp only [Act.put, List.setIfInBounds_toArray, List.set_cons_zero, List.set_cons_succ]
        refine wpAnyH_read (i := 3) (v := .bool true) rfl (by kernel_rfl) (by kernel_rfl) (by kernel_rfl) (fun _ _ _ h => h) (by rfl) (fun _ _ => rfl) HSw4.out ?_
        simp only [Act.put, List.setIfInBounds_toArray, List.set_cons_zero, List.set_cons_succ]
        refine wpAnyH_skip (i := 4) rfl (by kernel_rfl) (by kernel_rfl) (by kernel_rfl) (fun _ _ _ h => h) (by rfl) HSw4.out ?_
        simp only [Act.put, List.setIfInBounds_toArray, List.set_cons_zero, List.set_cons_succ]
        refine wpAnyH_skip (i := 5) rfl (by kernel_rfl) (by kernel_rfl) (by kernel_rfl) (fun _ _ _ h => h) (by rfl) HSw4.out ?_
        simp only [Act.put, List.setIfInBounds_toArray, List.set_cons_zero, List.set_cons_succ]
        refine wpAnyH_skip (i := 6) rfl (by kernel_rfl) (by kernel_rfl) (by kernel_rfl) (fun _ _ _ h => h) (by rfl) HSw4.out ?_
        simp only [Act.put, List.setIfInBounds_toArray, List.set_cons_zero, List.set_cons_succ]
        refine wpAnyH_skip (i := 7) rfl (by kernel_rfl) (by kernel_rfl) (by kernel_rfl) (fun _ _ _ h => h) (by rfl) HSw4.out ?_
        simp only [Act.put, List.setIfInBounds_toArray, List.set_cons_zero, List.set_cons_succ]
        refine wpAnyH_skip (i := 8) rfl (by kernel_rfl) (by kernel_rfl) (by kernel_rfl) (fun _ _ _ h => h) (by rfl) HSw4.out ?_
        simp only [Act.put, List.setIfInBounds_toArray, List.set_cons_zero, List.set_cons_succ]
        refine wpAnyH_skip (i := 9) rfl (by kernel_rfl) (by kernel_rfl) (by kernel_rfl) (fun _ _ _ h => h) (by rfl) HSw4.out ?_
        simp only [Act.put, List.setIfInBounds_toArray, List.set_cons_zero, List.set_cons_succ]
        refine wpAnyH_skip (i := 10) rfl (by kernel_rfl) (by kernel_rfl) (by kernel_rfl) (fun _ _ _ h => h) (by rfl) HSw4.out ?_
        simp only [Act.put, List.setIfInBounds_toArray, List.set_cons_zero, List.set_cons_succ]
        refine wpAnyH_skip (i := 11) rfl (by kernel_rfl) (by kernel_rfl) (by kernel_rfl) (fun _ _ _ h => h) (by rfl) HSw4.out ?_
        simp only [Act.put, List.setIfInBounds_toArray, List.set_cons_zero, List.set_cons_succ]
        refine wpAnyH_skip (i := 12) rfl (by kernel_rfl) (by kernel_rfl) (by kernel_rfl) (fun _ _ _ h => h) (by rfl) HSw4.out ?_
        simp only [Act.put, List.setIfInBounds_toArray, List.set_cons_zero, List.set_cons_succ]
        refine wpAnyH_skip (i := 13) rfl (by kernel_rfl) (by kernel_rfl) (by kernel_rfl) (fun _ _ _ h => h) (by rfl) HSw4.out ?_
        simp only [Act.put, List.setIfInBounds_toArray, List.set_cons_zero, List.set_cons_succ]
        refine wpAnyH_skip (i := 14) rfl (by kernel_rfl) (by kernel_rfl) (by kernel_rfl) (fun _ _ _ h => h) (by rfl) HSw4.out ?_
        simp only [Act.put, List.setIfInBounds_toArray, List.set_cons_zero, List.set_cons_succ]
        refine wpAnyH_skip (i := 15) rfl (by kernel_rfl) (by kernel_rfl) (by kernel_rfl) (fun _ _ _ h => h) (by rfl) HSw4.out ?_
        simp only [Act.put, List.setIfInBounds_toArray, List.set_cons_zero, List.set_cons_succ]
        refine wpAnyH_skip (i := 16) rfl (by kernel_rfl) (by kernel_rfl) (by kernel_rfl) (fun _ _ _ h => h) (by rfl) HSw4.out ?_
        simp only [Act.put, List.setIfInBounds_toArray, List.set_cons_zero, List.set_cons_succ]
        refine wpAnyH_read (i := 17) (v := .bool true) rfl (by kernel_rfl) (by kernel_rfl) (by kernel_rfl) (fun _ _ _ h => h) (by rfl) (fun _ _ => rfl) HSw4.out ?_
        simp only [Act.put, List.setIfInBounds_toArray, List.set_cons_zero, List.set_cons_succ]
        refine wpAnyH_done (by kernel_rfl) ?_ _
        go_wp2
        go_ret
        exact ⟨by rw [HR.out]; rfl, HSw4.out.2.2.2.2.1⟩
      | true =>
        rw [hq] at hNb
        by_cases h0 : j = 0
        · subst h0
          have HR : Hid (allP (goodB l) (0 + 1) = true) := Lib.hid (by rw [allP_succ, HI.out, goodB_zero, hq]; rfl)
          have HS0 : Hid (AvS w (wr.alloc (.cells #[.string (gb l 0).1, .int .i64 (gb l 0).2.1, .int .i64 (gb l 0).2.2] TB)) wr.heap.size (gb l 0) wr.heap.size 0 (gb l 0).1) := Lib.hid ⟨HX.out.1, HX.out.2.1, HX.out.2.2, HX.out.1, HBA.out, HBA.out.size⟩
          obtain ⟨x, hx⟩ : ∃ x, gb l 0 = x := ⟨_, rfl⟩
          rw [hx] at hNb y0 y1 y2 HS0
          simp only [Nat.zero_mul, Nat.add_zero] at y0 y1 y2
          obtain ⟨p, hp⟩ : ∃ p, x.1 = p := ⟨_, rfl⟩
          obtain ⟨bq, hbq⟩ : ∃ bq, wr.heap.size = bq := ⟨_, rfl⟩
          obtain ⟨oq, hoq⟩ : ∃ oq : Nat, 0 = oq := ⟨_, rfl⟩
          replace HS0 : Hid (AvS w (wr.alloc (.cells #[.string x.1, .int .i64 x.2.1, .int .i64 x.2.2] TB)) wr.heap.size x bq oq p) := Lib.hid (by rw [← hp, ← hbq, ← hoq]; exact HS0.out)
          simp only [bdA] at hNb
          have HN := Lib.hid hNb
          clear hNb hq hx hp hbq hoq HX HBA y
          go_wp2_with fail
          refine wp_region_held (S := fun w' => AvS w w' wr.heap.size x bq oq p) (by kernel_rfl) ?_
          change wpAnyH _ _ _ _ _ _ _ _ (wr.alloc (.cells #[.string x.1, .int .i64 x.2.1, .int .i64 x.2.2] TB)).drew
          have HSw : Hid (AvS w (wr.alloc (.cells #[.string x.1, .int .i64 x.2.1, .int .i64 x.2.2] TB)).drew wr.heap.size x bq oq p) := Lib.hid (HS0.out.keep ⟨rfl, rfl, rfl, Nat.le_refl _, fun _ _ => rfl⟩)
          generalize (wr.alloc (.cells #[.string x.1, .int .i64 x.2.1, .int .i64 x.2.2] TB)).drew = W1 at HSw ⊢
          refine wpAnyH_read (i := 0) (v := bdA x) rfl (by kernel_rfl) (by kernel_rfl) (by kernel_rfl) (fun _ _ _ h => h) (by rfl) (by rintro V ⟨h0, h1, h2, h3⟩; unfold bdA; go_simp) HSw.out ?_
          simp only [Act.put, List.setIfInBounds_toArray, List.set_cons_zero, List.set_cons_succ]
          refine wpAnyH_next (i := 1) rfl (by kernel_rfl) ?_
          unfold bdA
          go_wp2_with fail
          refine (HN.out _).mono ?_
          rintro e w4 ⟨rfl, b4⟩
          have HSw4 : Hid (AvS w w4 wr.heap.size x bq oq p) := Lib.hid (HSw.out.keep b4)
          clear b4
          go_wp2_with fail
          refine ⟨HSw4.out, ?_⟩
          refine wpAnyH_read (i := 2) (v := .bool false) rfl (by kernel_rfl) (by kernel_rfl) (by kernel_rfl) (fun _ _ _ h => h) (by rfl) (fun _ _ => rfl) HSw4.out ?_
          simp only [Act.put, List.setIfInBounds_toArray, List.set_cons_zero, List.set_cons_succ]
          refine wpAnyH_read (i := 3) (v := .bool false) rfl (by kernel_rfl) (by kernel_rfl) (by kernel_rfl) (fun _ _ _ h => h) (by rfl) (fun _ _ => rfl) HSw4.out ?_
          simp only [Act.put, List.setIfInBounds_toArray, List.set_cons_zero, List.set_cons_succ]
          refine wpAnyH_read (i := 4) (v := .int .i64 0) rfl (by kernel_rfl) (by kernel_rfl) (by kernel_rfl) (fun _ _ _ h => h) (by rfl) (fun _ _ => rfl) HSw4.out ?_
          simp only [Act.put, List.setIfInBounds_toArray, List.set_cons_zero, List.set_cons_succ]
          refine wpAnyH_read (i := 5) (v := .bool false) rfl (by kernel_rfl) (by kernel_rfl) (by kernel_rfl) (fun _ _ _ h => h) (by rfl) (fun _ _ => rfl) HSw4.out ?_
          simp only [Act.put, List.setIfInBounds_toArray, List.set_cons_zero, List.set_cons_succ]
          refine wpAnyH_read (i := 6) (v := .bool false) rfl (by kernel_rfl) (by kernel_rfl) (by kernel_rfl) (fun _ _ _ h => h) (by rfl) (fun _ _ => rfl) HSw4.out ?_
          simp only [Act.put, List.setIfInBounds_toArray, List.set_cons_zero, List.set_cons_succ]
          refine wpAnyH_skip (i := 7) rfl (by kernel_rfl) (by kernel_rfl) (by kernel_rfl) (fun _ _ _ h => h) (by rfl) HSw4.out ?_
          simp only [Act.put, List.setIfInBounds_toArray, List.set_cons_zero, List.set_cons_succ]
          refine wpAnyH_skip (i := 8) rfl (by kernel_rfl) (by kernel_rfl) (by kernel_rfl) (fun _ _ _ h => h) (by rfl) HSw4.out ?_
          simp only [Act.put, List.setIfInBounds_toArray, List.set_cons_zero, List.set_cons_succ]
          refine wpAnyH_skip (i := 9) rfl (by kernel_rfl) (by kernel_rfl) (by kernel_rfl) (fun _ _ _ h => h) (by rfl) HSw4.out ?_
          simp only [Act.put, List.setIfInBounds_toArray, List.set_cons_zero, List.set_cons_succ]
          refine wpAnyH_skip (i := 10) rfl (by kernel_rfl) (by kernel_rfl) (by kernel_rfl) (fun _ _ _ h => h) (by rfl) HSw4.out ?_
          simp only [Act.put, List.setIfInBounds_toArray, List.set_cons_zero, List.set_cons_succ]
          refine wpAnyH_skip (i := 11) rfl (by kernel_rfl) (by kernel_rfl) (by kernel_rfl) (fun _ _ _ h => h) (by rfl) HSw4.out ?_
          simp only [Act.put, List.setIfInBounds_toArray, List.set_cons_zero, List.set_cons_succ]
          refine wpAnyH_skip (i := 12) rfl (by kernel_rfl) (by kernel_rfl) (by kernel_rfl) (fun _ _ _ h => h) (by rfl) HSw4.out ?_
          simp only [Act.put, List.setIfInBounds_toArray, List.set_cons_zero, List.set_cons_succ]
          refine wpAnyH_skip (i := 13) rfl (by kernel_rfl) (by kernel_rfl) (by kernel_rfl) (fun _ _ _ h => h) (by rfl) HSw4.out ?_
          simp only [Act.put, List.setIfInBounds_toArray, List.set_cons_zero, List.set_cons_succ]
          refine wpAnyH_skip (i := 14) rfl (by kernel_rfl) (by kernel_rfl) (by kernel_rfl) (fun _ _ _ h => h) (by rfl) HSw4.out ?_
          simp only [Act.put, List.setIfInBounds_toArray, List.set_cons_zero, List.set_cons_succ]
          refine wpAnyH_skip (i := 15) rfl (by kernel_rfl) (by kernel_rfl) (by kernel_rfl) (fun _ _ _ h => h) (by rfl) HSw4.out ?_
          simp only [Act.put, List.setIfInBounds_toArray, List.set_cons_zero, List.set_cons_succ]
          refine wpAnyH_read (i := 16) (v := .bool false) rfl (by kernel_rfl) (by kernel_rfl) (by kernel_rfl) (fun _ _ _ h => h) (by rfl) (fun _ _ => rfl) HSw4.out ?_
          simp only [Act.put, List.setIfInBounds_toArray, List.set_cons_zero, List.set_cons_succ]
          refine wpAnyH_read (i := 17) (v := .bool false) rfl (by kernel_rfl) (by kernel_rfl) (by kernel_rfl) (fun _ _ _ h => h) (by rfl) (fun _ _ => rfl) HSw4.out ?_
          simp only [Act.put, List.setIfInBounds_toArray, List.set_cons_zero, List.set_cons_succ]
          refine wpAnyH_done (by kernel_rfl) ?_ _
          go_wp2
          go_roundw
          case rel => exact ⟨0 + 1, by omega, by go_num, HR, Lib.hid HSw4.out.2.2.2.2.1⟩
          case measure => simp [intOf]; omega
        · have z1 : (0 : Int) < (j : Int) := by omega
          obtain ⟨b', off', e', hbl', yp⟩ := HC.out (j - 1) (by omega)
          injection e' with e'
          injection e' with e1 e2
          subst e1 e2
          have hyp := yp.keep (HB.out.block b hbl)
          have HS0 : Hid (AvS w (wr.alloc (.cells #[.string (gb l j).1, .int .i64 (gb l j).2.1, .int .i64 (gb l j).2.2] TB)) wr.heap.size (gb l j) b (off + (j - 1) * 3) (gb l (j - 1)).1) := Lib.hid ⟨HX.out.1, HX.out.2.1, HX.out.2.2, (AtB.keep hyp (Below.heap_alloc _ _ _ hyp.lt)).1, HBA.out, HBA.out.size⟩
          have HG : Hid (goodB l j = ltS (gb l (j - 1)).1 (gb l j).1) := Lib.hid (by rw [goodB_succ l j (by omega), hq]; rfl)
          obtain ⟨x, hx⟩ : ∃ x, gb l j = x := ⟨_, rfl⟩
          obtain ⟨p, hp⟩ : ∃ p, (gb l (j - 1)).1 = p := ⟨_, rfl⟩
          rw [hx] at hNb y0 y1 y2 HS0 HG
          rw [hp] at HS0 HG
          simp only [bdA] at hNb
          have HN := Lib.hid hNb
          clear hx hp hyp yp HX HBA y h0 hNb hq
          obtain ⟨oq, hoq⟩ : ∃ oq : Nat, oq = off + (j - 1) * 3 := ⟨_, rfl⟩
          rw [← hoq] at HS0
          have HOQ := Lib.hid hoq
          clear hoq
          cases hq : ltS p x.1 with
          | false =>
            have HR := Lib.hid (HG1.out (by rw [HG.out, hq]))
            obtain ⟨s1, s2⟩ := ltS_no hq
            clear hq
            go_wp2_with fail
            refine wp_region_held (S := fun w' => AvS w w' wr.heap.size x b oq p) (by kernel_rfl) ?_
            change wpAnyH _ _ _ _ _ _ _ _ (wr.alloc (.cells #[.string x.1, .int .i64 x.2.1, .int .i64 x.2.2] TB)).drew
            have HSw : Hid (AvS w (wr.alloc (.cells #[.string x.1, .int .i64 x.2.1, .int .i64 x.2.2] TB)).drew wr.heap.size x b oq p) := Lib.hid (HS0.out.keep ⟨rfl, rfl, rfl, Nat.le_refl _, fun _ _ => rfl⟩)
            generalize (wr.alloc (.cells #[.string x.1, .int .i64 x.2.1, .int .i64 x.2.2] TB)).drew = W1 at HSw ⊢
            refine wpAnyH_read (i := 0) (v := bdA x) rfl (by kernel_rfl) (by kernel_rfl) (by kernel_rfl) (fun _ _ _ h => h) (by rfl) (by rintro V ⟨h0, h1, h2, h3⟩; unfold bdA; go_simp) HSw.out ?_
            simp only [Act.put, List.setIfInBounds_toArray, List.set_cons_zero, List.set_cons_succ]
            refine wpAnyH_next (i := 1) rfl (by kernel_rfl) ?_
            unfold bdA
            go_wp2_with fail
            refine (HN.out _).mono ?_
            rintro e w4 ⟨rfl, b4⟩
            have HSw4 : Hid (AvS w w4 wr.heap.size x b oq p) := Lib.hid (HSw.out.keep b4)
            clear b4
            go_wp2_with fail
            refine ⟨HSw4.out, ?_⟩
            refine wpAnyH_read (i := 2) (v := .bool false) rfl (by kernel_rfl) (by kernel_rfl) (by kernel_rfl) (fun _ _ _ h => h) (by rfl) (fun _ _ => rfl) HSw4.out ?_
            simp only [Act.put, List.setIfInBounds_toArray, List.set_cons_zero, List.set_cons_succ]
            refine wpAnyH_read (i := 3) (v := .bool false) rfl (by kernel_rfl) (by kernel_rfl) (by kernel_rfl) (fun _ _ _ h => h) (by rfl) (fun _ _ => rfl) HSw4.out ?_
            simp only [Act.put, List.setIfInBounds_toArray, List.set_cons_zero, List.set_cons_succ]
            refine wpAnyH_read (i := 4) (v := .int .i64 (j : Int)) rfl (by kernel_rfl) (by kernel_rfl) (by kernel_rfl) (fun _ _ _ h => h) (by rfl) (fun _ _ => rfl) HSw4.out ?_
            simp only [Act.put, List.setIfInBounds_toArray, List.set_cons_zero, List.set_cons_succ]
            refine wpAnyH_read (i := 5) (v := .bool true) rfl (by kernel_rfl) (by kernel_rfl) (by kernel_rfl) (fun _ _ _ h => h) (by rfl) (by intro V hV; go_simp; omega) HSw4.out ?_
            simp only [Act.put, List.setIfInBounds_toArray, List.set_cons_zero, List.set_cons_succ]
            refine wpAnyH_read (i := 6) (v := .bool true) rfl (by kernel_rfl) (by kernel_rfl) (by kernel_rfl) (fun _ _ _ h => h) (by rfl) (fun _ _ => rfl) HSw4.out ?_
            simp only [Act.put, List.setIfInBounds_toArray, List.set_cons_zero, List.set_cons_succ]
            refine wpAnyH_read (i := 7) (v := .pointer (some ⟨wr.heap.size, 0, none⟩)) rfl (by kernel_rfl) (by kernel_rfl) (by kernel_rfl) (fun _ _ _ h => h) (by rfl) (fun _ _ => rfl) HSw4.out ?_
            simp only [Act.put, List.setIfInBounds_toArray, List.set_cons_zero, List.set_cons_succ]
            refine wpAnyH_read (i := 8) (v := .string x.1) rfl (by kernel_rfl) (by kernel_rfl) (by kernel_rfl) (fun _ _ _ h => h) (by rfl) (by rintro V ⟨h0, h1, h2, h3⟩; go_simp) HSw4.out ?_
            simp only [Act.put, List.setIfInBounds_toArray, List.set_cons_zero, List.set_cons_succ]
            refine wpAnyH_read (i := 9) (v := .slice (some ⟨b, off, none⟩) l.length c) rfl (by kernel_rfl) (by kernel_rfl) (by kernel_rfl) (fun _ _ _ h => h) (by rfl) (fun _ _ => rfl) HSw4.out ?_
            simp only [Act.put, List.setIfInBounds_toArray, List.set_cons_zero, List.set_cons_succ]
            refine wpAnyH_read (i := 10) (v := .int .i64 (j : Int)) rfl (by kernel_rfl) (by kernel_rfl) (by kernel_rfl) (fun _ _ _ h => h) (by rfl) (fun _ _ => rfl) HSw4.out ?_
            simp only [Act.put, List.setIfInBounds_toArray, List.set_cons_zero, List.set_cons_succ]
            refine wpAnyH_read (i := 11) (v := .int .i64 ((j : Int) - 1)) rfl (by kernel_rfl) (by kernel_rfl) (by kernel_rfl) (fun _ _ _ h => h) (by rfl) (by intro V hV; go_simp; exact IntWalk.i64_in _ (by omega)) HSw4.out ?_
            simp only [Act.put, List.setIfInBounds_toArray, List.set_cons_zero, List.set_cons_succ]
            refine wpAnyH_read (i := 12) (v := .pointer (some ⟨b, oq, none⟩)) rfl (by kernel_rfl) (by kernel_rfl) (by kernel_rfl) (fun _ _ _ h => h) (by rfl) (by intro V hV; rw [HOQ.out]; go_simp; intro h; exfalso; omega) HSw4.out ?_
            simp only [Act.put, List.setIfInBounds_toArray, List.set_cons_zero, List.set_cons_succ]
            refine wpAnyH_read (i := 13) (v := .pointer (some ⟨b, oq, none⟩)) rfl (by kernel_rfl) (by kernel_rfl) (by kernel_rfl) (fun _ _ _ h => h) (by rfl) (fun _ _ => rfl) HSw4.out ?_
            simp only [Act.put, List.setIfInBounds_toArray, List.set_cons_zero, List.set_cons_succ]
            refine wpAnyH_read (i := 14) (v := .string p) rfl (by kernel_rfl) (by kernel_rfl) (by kernel_rfl) (fun _ _ _ h => h) (by rfl) (by rintro V ⟨h0, h1, h2, h3, h4⟩; go_simp) HSw4.out ?_
            simp only [Act.put, List.setIfInBounds_toArray, List.set_cons_zero, List.set_cons_succ]
            refine wpAnyH_read (i := 15) (v := .bool true) rfl (by kernel_rfl) (by kernel_rfl) (by kernel_rfl) (fun _ _ _ h => h) (by rfl) (by intro V hV; go_simp) HSw4.out ?_
            simp only [Act.put, List.setIfInBounds_toArray, List.set_cons_zero, List.set_cons_succ]
            refine wpAnyH_read (i := 16) (v := .bool true) rfl (by kernel_rfl) (by kernel_rfl) (by kernel_rfl) (fun _ _ _ h => h) (by rfl) (fun _ _ => rfl) HSw4.out ?_
            simp only [Act.put, List.setIfInBounds_toArray, List.set_cons_zero, List.set_cons_succ]
            refine wpAnyH_read (i := 17) (v := .bool true) rfl (by kernel_rfl) (by kernel_rfl) (by kernel_rfl) (fun _ _ _ h => h) (by rfl) (fun _ _ => rfl) HSw4.out ?_
            simp only [Act.put, List.setIfInBounds_toArray, List.set_cons_zero, List.set_cons_succ]
            refine wpAnyH_done (by kernel_rfl) ?_ _
            go_wp2
            go_ret
            exact ⟨by rw [HR.out]; rfl, HSw4.out.2.2.2.2.1⟩
          | true =>
            have HR : Hid (allP (goodB l) (j + 1) = true) := Lib.hid (by rw [allP_succ, HI.out, HG.out, hq]; rfl)
            obtain ⟨s1, s2, s3⟩ := ltS_yes hq
            clear hq
            go_wp2_with fail
            refine wp_region_held (S := fun w' => AvS w w' wr.heap.size x b oq p) (by kernel_rfl) ?_
            change wpAnyH _ _ _ _ _ _ _ _ (wr.alloc (.cells #[.string x.1, .int .i64 x.2.1, .int .i64 x.2.2] TB)).drew
            have HSw : Hid (AvS w (wr.alloc (.cells #[.string x.1, .int .i64 x.2.1, .int .i64 x.2.2] TB)).drew wr.heap.size x b oq p) := Lib.hid (HS0.out.keep ⟨rfl, rfl, rfl, Nat.le_refl _, fun _ _ => rfl⟩)
            generalize (wr.alloc (.cells #[.string x.1, .int .i64 x.2.1, .int .i64 x.2.2] TB)).drew = W1 at HSw ⊢
            refine wpAnyH_read (i := 0) (v := bdA x) rfl (by kernel_rfl) (by kernel_rfl) (by kernel_rfl) (fun _ _ _ h => h) (by rfl) (by rintro V ⟨h0, h1, h2, h3⟩; unfold bdA; go_simp) HSw.out ?_
            simp only [Act.put, List.setIfInBounds_toArray, List.set_cons_zero, List.set_cons_succ]
            refine wpAnyH_next (i := 1) rfl (by kernel_rfl) ?_
            unfold bdA
            go_wp2_with fail
            refine (HN.out _).mono ?_
            rintro e w4 ⟨rfl, b4⟩
            have HSw4 : Hid (AvS w w4 wr.heap.size x b oq p) := Lib.hid (HSw.out.keep b4)
            clear b4
            go_wp2_with fail
            refine ⟨HSw4.out, ?_⟩
            refine wpAnyH_read (i := 2) (v := .bool false) rfl (by kernel_rfl) (by kernel_rfl) (by kernel_rfl) (fun _ _ _ h => h) (by rfl) (fun _ _ => rfl) HSw4.out ?_
            simp only [Act.put, List.setIfInBounds_toArray, List.set_cons_zero, List.set_cons_succ]
            refine wpAnyH_read (i := 3) (v := .bool false) rfl (by kernel_rfl) (by kernel_rfl) (by kernel_rfl) (fun _ _ _ h => h) (by rfl) (fun _ _ => rfl) HSw4.out ?_
            simp only [Act.put, List.setIfInBounds_toArray, List.set_cons_zero, List.set_cons_succ]
            refine wpAnyH_read (i := 4) (v := .int .i64 (j : Int)) rfl (by kernel_rfl) (by kernel_rfl) (by kernel_rfl) (fun _ _ _ h => h) (by rfl) (fun _ _ => rfl) HSw4.out ?_
            simp only [Act.put, List.setIfInBounds_toArray, List.set_cons_zero, List.set_cons_succ]
            refine wpAnyH_read (i := 5) (v := .bool true) rfl (by kernel_rfl) (by kernel_rfl) (by kernel_rfl) (fun _ _ _ h => h) (by rfl) (by intro V hV; go_simp; omega) HSw4.out ?_
            simp only [Act.put, List.setIfInBounds_toArray, List.set_cons_zero, List.set_cons_succ]
            refine wpAnyH_read (i := 6) (v := .bool true) rfl (by kernel_rfl) (by kernel_rfl) (by kernel_rfl) (fun _ _ _ h => h) (by rfl) (fun _ _ => rfl) HSw4.out ?_
            simp only [Act.put, List.setIfInBounds_toArray, List.set_cons_zero, List.set_cons_succ]
            refine wpAnyH_read (i := 7) (v := .pointer (some ⟨wr.heap.size, 0, none⟩)) rfl (by kernel_rfl) (by kernel_rfl) (by kernel_rfl) (fun _ _ _ h => h) (by rfl) (fun _ _ => rfl) HSw4.out ?_
            simp only [Act.put, List.setIfInBounds_toArray, List.set_cons_zero, List.set_cons_succ]
            refine wpAnyH_read (i := 8) (v := .string x.1) rfl (by kernel_rfl) (by kernel_rfl) (by kernel_rfl) (fun _ _ _ h => h) (by rfl) (by rintro V ⟨h0, h1, h2, h3⟩; go_simp) HSw4.out ?_
            simp only [Act.put, List.setIfInBounds_toArray, List.set_cons_zero, List.set_cons_succ]
            refine wpAnyH_read (i := 9) (v := .slice (some ⟨b, off, none⟩) l.length c) rfl (by kernel_rfl) (by kernel_rfl) (by kernel_rfl) (fun _ _ _ h => h) (by rfl) (fun _ _ => rfl) HSw4.out ?_
            simp only [Act.put, List.setIfInBounds_toArray, List.set_cons_zero, List.set_cons_succ]
            refine wpAnyH_read (i := 10) (v := .int .i64 (j : Int)) rfl (by kernel_rfl) (by kernel_rfl) (by kernel_rfl) (fun _ _ _ h => h) (by rfl) (fun _ _ => rfl) HSw4.out ?_
            simp only [Act.put, List.setIfInBounds_toArray, List.set_cons_zero, List.set_cons_succ]
            refine wpAnyH_read (i := 11) (v := .int .i64 ((j : Int) - 1)) rfl (by kernel_rfl) (by kernel_rfl) (by kernel_rfl) (fun _ _ _ h => h) (by rfl) (by intro V hV; go_simp; exact IntWalk.i64_in _ (by omega)) HSw4.out ?_
            simp only [Act.put, List.setIfInBounds_toArray, List.set_cons_zero, List.set_cons_succ]
            refine wpAnyH_read (i := 12) (v := .pointer (some ⟨b, oq, none⟩)) rfl (by kernel_rfl) (by kernel_rfl) (by kernel_rfl) (fun _ _ _ h => h) (by rfl) (by intro V hV; rw [HOQ.out]; go_simp; intro h; exfalso; omega) HSw4.out ?_
            simp only [Act.put, List.setIfInBounds_toArray, List.set_cons_zero, List.set_cons_succ]
            refine wpAnyH_read (i := 13) (v := .pointer (some ⟨b, oq, none⟩)) rfl (by kernel_rfl) (by kernel_rfl) (by kernel_rfl) (fun _ _ _ h => h) (by rfl) (fun _ _ => rfl) HSw4.out ?_
            simp only [Act.put, List.setIfInBounds_toArray, List.set_cons_zero, List.set_cons_succ]
            refine wpAnyH_read (i := 14) (v := .string p) rfl (by kernel_rfl) (by kernel_rfl) (by kernel_rfl) (fun _ _ _ h => h) (by rfl) (by rintro V ⟨h0, h1, h2, h3, h4⟩; go_simp) HSw4.out ?_
            simp only [Act.put, List.setIfInBounds_toArray, List.set_cons_zero, List.set_cons_succ]
            refine wpAnyH_read (i := 15) (v := .bool false) rfl (by kernel_rfl) (by kernel_rfl) (by kernel_rfl) (fun _ _ _ h => h) (by rfl) (by intro V hV; go_simp) HSw4.out ?_
            simp only [Act.put, List.setIfInBounds_toArray, List.set_cons_zero, List.set_cons_succ]
            refine wpAnyH_read (i := 16) (v := .bool false) rfl (by kernel_rfl) (by kernel_rfl) (by kernel_rfl) (fun _ _ _ h => h) (by rfl) (fun _ _ => rfl) HSw4.out ?_
            simp only [Act.put, List.setIfInBounds_toArray, List.set_cons_zero, List.set_cons_succ]
            refine wpAnyH_read (i := 17) (v := .bool false) rfl (by kernel_rfl) (by kernel_rfl) (by kernel_rfl) (fun _ _ _ h => h) (by rfl) (fun _ _ => rfl) HSw4.out ?_
            simp only [Act.put, List.setIfInBounds_toArray, List.set_cons_zero, List.set_cons_succ]
            refine wpAnyH_done (by kernel_rfl) ?_ _
            go_wp2
            go_roundw
            case rel => exact ⟨j + 1, by omega, by go_num, HR, Lib.hid HSw4.out.2.2.2.2.1⟩
            case measure => simp [intOf]; omega
    · have k1 : ¬ (j : Int) < (l.length : Int) := by omega
      have HR : Hid (ckB l = true) := Lib.hid (by rw [HE.out, show l.length = j by omega, HI.out])
      go_wp2
      go_ret
      exact ⟨by rw [HR.out]; rfl, HB.out⟩

end Go.Proofs.YtfgaihajopfmfaaGreatDoor

/-! ### ExRCheckB: What the reference's CheckBindings returns. -/
namespace Go.Proofs.YtfgaihajopfmfaaGreatDoor
set_option linter.unusedSimpArgs false
set_option linter.unusedVariables false
open Go.RowKit

def ckBE (l : List Bd) : Int := if ckB l = true then 0 else 1
set_option maxRecDepth 100000 in
set_option maxHeartbeats 8000000 in
theorem rCheckB_any (l : List Bd) (v : Value) (w : World) (hK : KB w v l) (hs : ∀ x ∈ l, x.1.size ≤ 9223372036854775807) :
    Calls Tryz.prog 25 #[v] w fun x w' => x = .returned (.int .i64 (ckBE l)) ∧ Below w.heap.size w w' := by
  obtain ⟨a, c, rfl, h1, h2, hc⟩ := hK
  have HC := Lib.hid hc
  have HS := Lib.hid hs
  clear hc hs
  by_cases h64 : 64 < l.length
  · have m1 : (64 : Int) < (l.length : Int) := by omega
    have HE : Hid (ckBE l = 1) := Lib.hid (by
      have : ckB l = false := by unfold ckB; simp; omega
      unfold ckBE
      rw [this]
      rfl)
    clear h64
    go_enter Tryz.func25, Tryz.ntmps25
    go_wp2
    go_ret
    exact ⟨by rw [HE.out]; rfl, Below.refl _ _⟩
  have m1 : ¬ (64 : Int) < (l.length : Int) := by omega
  have HE : Hid (ckB l = allP (goodB l) l.length) := Lib.hid (by unfold ckB; simp; omega)
  clear h64
  go_enter Tryz.func25, Tryz.ntmps25
  go_wp2
  go_loopw [3] (fun x wr => ∃ j : Nat, j ≤ l.length ∧ x = .int .i64 j ∧ Hid (allP (goodB l) j = true) ∧ Hid (Below w.heap.size w wr)) (fun x _ => l.length - (intOf x).toNat)
  case atStart => exact ⟨0, Nat.zero_le _, rfl, Lib.hid rfl, Lib.hid (Below.refl _ _)⟩
  case round =>
    obtain ⟨j, hj, rfl, HI, HB⟩ := hrel
    by_cases hlt : j < l.length
    · have k1 : (j : Int) < (l.length : Int) := by omega
      obtain ⟨b, off, rfl, hbl, y⟩ := HC.out j hlt
      have hy := y.keep (HB.out.block b hbl)
      obtain ⟨y0, y1, y2⟩ := hy
      have hNb := fun W => rIsName_same (gb l j).1 W (HS.out _ (gb_mem hlt))
      have HG1 : Hid (goodB l j = false → ckBE l = 1) := Lib.hid (fun h => by unfold ckBE; rw [ckB_no hlt h]; rfl)
      have HG2 : Hid (goodB l j = true → allP (goodB l) (j + 1) = true) := Lib.hid (fun h => by rw [allP_succ, HI.out, h]; rfl)
      have HBA : Hid (Below w.heap.size w (wr.alloc (.cells #[.string (gb l j).1, .int .i64 (gb l j).2.1, .int .i64 (gb l j).2.2] TB))) := Lib.hid (HB.out.alloc HB.out.size _)
      by_cases h0 : j = 0
      · subst h0
        have HG := Lib.hid (goodB_zero l)
        simp only [Nat.zero_mul, Nat.add_zero] at y0 y1 y2
        obtain ⟨x, hx⟩ : ∃ x, gb l 0 = x := ⟨_, rfl⟩
        rw [hx] at hNb y0 y1 y2 HG HBA
        clear hx y
        cases hq : nmB x.1 with
        | false =>
          have HR := Lib.hid (HG1.out (by rw [HG.out]; simp [okB, hq]))
          rw [hq] at hNb
          have HN := Lib.hid hNb
          clear hNb hq
          go_wp2_with fail
          go_quiet ((go_at_call 58; exact Calls.quiet_of_same (HN.out _)))
          go_wp2
          go_ret
          exact ⟨by rw [HR.out]; rfl, drewB HBA.out⟩
        | true =>
          rw [hq] at hNb
          have HN := Lib.hid hNb
          clear hNb
          by_cases t1 : x.2.1 = 1
          · obtain ⟨p1, p2⟩ := ieq t1
            obtain ⟨p3, p4⟩ := ine (show ¬ x.2.1 = 2 by omega)
            by_cases v1 : x.2.2 < -1099511627776
            · have HR := Lib.hid (HG1.out (by rw [HG.out]; simp [okB, t1]; intros; omega))
              clear t1
              go_wp2_with fail
              go_quiet ((go_at_call 58; exact Calls.quiet_of_same (HN.out _)))
              go_wp2
              go_ret
              exact ⟨by rw [HR.out]; rfl, drewB HBA.out⟩
            · by_cases v2 : 1099511627776 < x.2.2
              · have HR := Lib.hid (HG1.out (by rw [HG.out]; simp [okB, t1]; intros; omega))
                clear t1
                go_wp2_with fail
                go_quiet ((go_at_call 58; exact Calls.quiet_of_same (HN.out _)))
                go_wp2
                go_ret
                exact ⟨by rw [HR.out]; rfl, drewB HBA.out⟩
              · have HR := Lib.hid (HG2.out (by rw [HG.out]; simp [okB, t1, hq]; omega))
                clear t1
                go_wp2_with fail
                go_quiet ((go_at_call 58; exact Calls.quiet_of_same (HN.out _)))
                go_wp2
                go_roundw
                case rel => exact ⟨0 + 1, by omega, by go_num, HR, Lib.hid (drewB HBA.out)⟩
                case measure => simp [intOf]; omega
          · obtain ⟨p1, p2⟩ := ine t1
            by_cases t2 : x.2.1 = 2
            · obtain ⟨p3, p4⟩ := ieq t2
              by_cases v1 : x.2.2 < -1099511627776
              · have HR := Lib.hid (HG1.out (by rw [HG.out]; simp [okB, t1, t2]; intros; omega))
                clear t1 t2
                go_wp2_with fail
                go_quiet ((go_at_call 58; exact Calls.quiet_of_same (HN.out _)))
                go_wp2
                go_ret
                exact ⟨by rw [HR.out]; rfl, drewB HBA.out⟩
              · by_cases v2 : 1099511627776 < x.2.2
                · have HR := Lib.hid (HG1.out (by rw [HG.out]; simp [okB, t1, t2]; intros; omega))
                  clear t1 t2
                  go_wp2_with fail
                  go_quiet ((go_at_call 58; exact Calls.quiet_of_same (HN.out _)))
                  go_wp2
                  go_ret
                  exact ⟨by rw [HR.out]; rfl, drewB HBA.out⟩
                · by_cases v3 : x.2.2 = 0
                  · obtain ⟨p5, p6⟩ := ieq v3
                    have HR := Lib.hid (HG2.out (by rw [HG.out]; simp [okB, t2, hq, v3]))
                    clear t1 t2 v3
                    go_wp2_with fail
                    go_quiet ((go_at_call 58; exact Calls.quiet_of_same (HN.out _)))
                    go_wp2
                    go_roundw
                    case rel => exact ⟨0 + 1, by omega, by go_num, HR, Lib.hid (drewB HBA.out)⟩
                    case measure => simp [intOf]; omega
                  · obtain ⟨p5, p6⟩ := ine v3
                    by_cases v4 : x.2.2 = 1
                    · obtain ⟨p7, p8⟩ := ieq v4
                      have HR := Lib.hid (HG2.out (by rw [HG.out]; simp [okB, t2, hq, v4]))
                      clear t1 t2 v3 v4
                      go_wp2_with fail
                      go_quiet ((go_at_call 58; exact Calls.quiet_of_same (HN.out _)))
                      go_wp2
                      go_roundw
                      case rel => exact ⟨0 + 1, by omega, by go_num, HR, Lib.hid (drewB HBA.out)⟩
                      case measure => simp [intOf]; omega
                    · obtain ⟨p7, p8⟩ := ine v4
                      have HR := Lib.hid (HG1.out (by rw [HG.out]; simp [okB, t1, t2, v3, v4]))
                      clear t1 t2 v3 v4
                      go_wp2_with fail
                      go_quiet ((go_at_call 58; exact Calls.quiet_of_same (HN.out _)))
                      go_wp2
                      go_ret
                      exact ⟨by rw [HR.out]; rfl, drewB HBA.out⟩
            · obtain ⟨p3, p4⟩ := ine t2
              have HR := Lib.hid (HG1.out (by rw [HG.out]; simp [okB, t1, t2]))
              clear t1 t2
              go_wp2_with fail
              go_quiet ((go_at_call 58; exact Calls.quiet_of_same (HN.out _)))
              go_wp2
              go_ret
              exact ⟨by rw [HR.out]; rfl, drewB HBA.out⟩
      · have z1 : (0 : Int) < (j : Int) := by omega
        have HG := Lib.hid (goodB_succ l j (by omega))
        obtain ⟨b', off', e', hbl', yp⟩ := HC.out (j - 1) (by omega)
        injection e' with e'
        injection e' with e1 e2
        subst e1 e2
        have hyp := yp.keep (HB.out.block b hbl)
        have z0 := (hyp.keep (Below.heap_alloc _ (.cells #[.string (gb l j).1, .int .i64 (gb l j).2.1, .int .i64 (gb l j).2.2] TB) _ hyp.lt)).1
        obtain ⟨p, hp⟩ : ∃ p, (gb l (j - 1)).1 = p := ⟨_, rfl⟩
        rw [hp] at z0 HG
        obtain ⟨x, hx⟩ : ∃ x, gb l j = x := ⟨_, rfl⟩
        rw [hx] at hNb y0 y1 y2 HG HBA
        rw [hx] at z0
        clear hx hp yp y
        have z2 : (1 : Int) ≤ (j : Int) := by omega
        have z5 : ¬ (l.length : Int) ≤ (j : Int) - 1 := by omega
        have z3 : (j : Int) - 1 < (l.length : Int) := by omega
        have z4 : ((j : Int) - 1).toNat = j - 1 := by omega
        have zn : 0 < j := by omega
        have zd : decide (0 < j) = true := by simpa using zn
        have wj : IntKind.i64.wrap ((j : Int) - 1) = (j : Int) - 1 := IntWalk.i64_in _ (by omega)
        cases hq : nmB x.1 with
        | false =>
          have HR := Lib.hid (HG1.out (by rw [HG.out]; simp [okB, hq]))
          rw [hq] at hNb
          have HN := Lib.hid hNb
          clear hNb hq
          go_wp2_with fail
          go_quiet ((go_at_call 58; exact Calls.quiet_of_same (HN.out _)))
          go_wp2
          go_ret
          exact ⟨by rw [HR.out]; rfl, drewB HBA.out⟩
        | true =>
          rw [hq] at hNb
          have HN := Lib.hid hNb
          clear hNb
          cases ho : ltS p x.1 with
          | false =>
            have HR := Lib.hid (HG1.out (by rw [HG.out, ho]; simp))
            obtain ⟨s1, s2⟩ := ltS_no ho
            clear ho hq
            go_wp2_with fail
            go_quiet ((go_at_call 58; exact Calls.quiet_of_same (HN.out _)))
            go_wp2
            go_ret
            exact ⟨by rw [HR.out]; rfl, drewB HBA.out⟩
          | true =>
            rw [ho, Bool.and_true] at HG
            obtain ⟨s1, s2, s3⟩ := ltS_yes ho
            clear ho
            by_cases t1 : x.2.1 = 1
            · obtain ⟨p1, p2⟩ := ieq t1
              obtain ⟨p3, p4⟩ := ine (show ¬ x.2.1 = 2 by omega)
              by_cases v1 : x.2.2 < -1099511627776
              · have HR := Lib.hid (HG1.out (by rw [HG.out]; simp [okB, t1]; intros; omega))
                clear t1
                go_wp2_with fail
                go_quiet ((go_at_call 58; exact Calls.quiet_of_same (HN.out _)))
                go_wp2
                go_ret
                exact ⟨by rw [HR.out]; rfl, drewB HBA.out⟩
              · by_cases v2 : 1099511627776 < x.2.2
                · have HR := Lib.hid (HG1.out (by rw [HG.out]; simp [okB, t1]; intros; omega))
                  clear t1
                  go_wp2_with fail
                  go_quiet ((go_at_call 58; exact Calls.quiet_of_same (HN.out _)))
                  go_wp2
                  go_ret
                  exact ⟨by rw [HR.out]; rfl, drewB HBA.out⟩
                · have HR := Lib.hid (HG2.out (by rw [HG.out]; simp [okB, t1, hq]; omega))
                  clear t1
                  go_wp2_with fail
                  go_quiet ((go_at_call 58; exact Calls.quiet_of_same (HN.out _)))
                  go_wp2
                  go_roundw
                  case rel => exact ⟨j + 1, by omega, by go_num, HR, Lib.hid (drewB HBA.out)⟩
                  case measure => simp [intOf]; omega
            · obtain ⟨p1, p2⟩ := ine t1
              by_cases t2 : x.2.1 = 2
              · obtain ⟨p3, p4⟩ := ieq t2
                by_cases v1 : x.2.2 < -1099511627776
                · have HR := Lib.hid (HG1.out (by rw [HG.out]; simp [okB, t1, t2]; intros; omega))
                  clear t1 t2
                  go_wp2_with fail
                  go_quiet ((go_at_call 58; exact Calls.quiet_of_same (HN.out _)))
                  go_wp2
                  go_ret
                  exact ⟨by rw [HR.out]; rfl, drewB HBA.out⟩
                · by_cases v2 : 1099511627776 < x.2.2
                  · have HR := Lib.hid (HG1.out (by rw [HG.out]; simp [okB, t1, t2]; intros; omega))
                    clear t1 t2
                    go_wp2_with fail
                    go_quiet ((go_at_call 58; exact Calls.quiet_of_same (HN.out _)))
                    go_wp2
                    go_ret
                    exact ⟨by rw [HR.out]; rfl, drewB HBA.out⟩
                  · by_cases v3 : x.2.2 = 0
                    · obtain ⟨p5, p6⟩ := ieq v3
                      have HR := Lib.hid (HG2.out (by rw [HG.out]; simp [okB, t2, hq, v3]))
                      clear t1 t2 v3
                      go_wp2_with fail
                      go_quiet ((go_at_call 58; exact Calls.quiet_of_same (HN.out _)))
                      go_wp2
                      go_roundw
                      case rel => exact ⟨j + 1, by omega, by go_num, HR, Lib.hid (drewB HBA.out)⟩
                      case measure => simp [intOf]; omega
                    · obtain ⟨p5, p6⟩ := ine v3
                      by_cases v4 : x.2.2 = 1
                      · obtain ⟨p7, p8⟩ := ieq v4
                        have HR := Lib.hid (HG2.out (by rw [HG.out]; simp [okB, t2, hq, v4]))
                        clear t1 t2 v3 v4
                        go_wp2_with fail
                        go_quiet ((go_at_call 58; exact Calls.quiet_of_same (HN.out _)))
                        go_wp2
                        go_roundw
                        case rel => exact ⟨j + 1, by omega, by go_num, HR, Lib.hid (drewB HBA.out)⟩
                        case measure => simp [intOf]; omega
                      · obtain ⟨p7, p8⟩ := ine v4
                        have HR := Lib.hid (HG1.out (by rw [HG.out]; simp [okB, t1, t2, v3, v4]))
                        clear t1 t2 v3 v4
                        go_wp2_with fail
                        go_quiet ((go_at_call 58; exact Calls.quiet_of_same (HN.out _)))
                        go_wp2
                        go_ret
                        exact ⟨by rw [HR.out]; rfl, drewB HBA.out⟩
              · obtain ⟨p3, p4⟩ := ine t2
                have HR := Lib.hid (HG1.out (by rw [HG.out]; simp [okB, t1, t2]))
                clear t1 t2
                go_wp2_with fail
                go_quiet ((go_at_call 58; exact Calls.quiet_of_same (HN.out _)))
                go_wp2
                go_ret
                exact ⟨by rw [HR.out]; rfl, drewB HBA.out⟩
    · have k1 : ¬ (j : Int) < (l.length : Int) := by omega
      have HR : Hid (ckBE l = 0) := Lib.hid (by
        have : ckB l = true := by rw [HE.out, show l.length = j by omega, HI.out]
        unfold ckBE
        rw [if_pos this])
      go_wp2
      go_ret
      exact ⟨by rw [HR.out]; rfl, HB.out⟩

end Go.Proofs.YtfgaihajopfmfaaGreatDoor
