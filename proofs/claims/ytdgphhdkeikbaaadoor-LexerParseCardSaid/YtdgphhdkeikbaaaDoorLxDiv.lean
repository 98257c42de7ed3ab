/-
  The program's divide and Tokens.
-/
import Derived.Test.YtdgphhdkeikbaaaDoorLxDivM
namespace Go.Proofs.YtdgphhdkeikbaaaDoor
set_option linter.unusedSimpArgs false
set_option linter.unusedVariables false
open Go.RowKit

abbrev TTs : TypeId := 22
set_option maxRecDepth 100000 in
set_option maxHeartbeats 8000000 in
theorem divide_any (s : ByteArray) (w : World) (hs : s.size ≤ 4000) (hv : ErV w) (hg : SgV w) :
    Calls Tryd.prog 39 #[.string s] w fun x w' => ∃ v, x = .returned (.tuple #[v, .int .i64 ((lexL s.data.toList).2.1 : Nat), .int .i64 (lexL s.data.toList).2.2]) ∧ LkC (fun b => w.heap.size ≤ b) w' v (lexL s.data.toList).1 ∧ Below w.heap.size w w' := by
  obtain ⟨R, hR⟩ : ∃ R, lexL s.data.toList = R := ⟨_, rfl⟩
  have HR := Lib.hid hR
  have HS := Lib.hid hs
  have HV := Lib.hid hv
  have HG := Lib.hid hg
  have hltE := hv.lt
  have hltS : 0 < w.heap.size := hg.lt
  have hsl : ∀ v, (∃ a n c, v = Value.slice a n c) → True := fun _ _ => trivial
  rw [hR]
  obtain ⟨i4, ki, kz0, kz1, kz2⟩ := info_parts infoTk
  have HI0 : Hid ((w.alloc (.stringIter s 0)).heap[w.heap.size]? = some (.stringIter s 0)) := Lib.hid (heapNew w _)
  have HB0 : Hid (Below w.heap.size w (w.alloc (.stringIter s 0))) := Lib.hid ((Below.refl _ w).alloc (Nat.le_refl _) _)
  clear hR hv hg hsl
  go_enter Tryd.func39, Tryd.ntmps39
  go_wp2
  go_step3
  go_wp2
  go_step3
  go_wp2
  go_loopw [5, 6] (fun u5 u6 wr => ∃ (pos en : Nat) (v : Value) (acc : List Tk), v = u5 ∧ u6 = .int .i64 (en : Int) ∧ Hid (wr.heap[w.heap.size]? = some (.stringIter s pos)) ∧ Hid (LxI s pos en acc) ∧ Hid (OwnK (w.heap.size + 1) acc v wr) ∧ Hid (Below w.heap.size w wr) ∧ en ≤ s.size ∧ pos ≤ s.size) (fun _ _ wr => s.size - wr.iterPos w.heap.size)
  case atStart => exact ⟨0, 0, _, [], rfl, rfl, HI0, Lib.hid (LxI.start s), Lib.hid (OwnK.nil _ _), HB0, Nat.zero_le _, Nat.zero_le _⟩
  case round =>
    obtain ⟨pos, en, v, acc, rfl, rfl, HI, HL, HO, HB, hen, hpo⟩ := hrel
    have hip := ipos HI.out
    by_cases hp : pos < s.size
    · obtain ⟨c, hc, hr⟩ := rune_at s pos hp
      have hnx : ∀ ty, (Instr.next (.pointer (some ⟨w.heap.size, 0, none⟩)) true ty).run Tryd.prog wr = _ := fun ty => Lib.run_next_any_at wr w.heap.size s pos ty HI.out hp
      obtain ⟨r, hrr⟩ : ∃ R, (Utf8.decode s pos).1 = R := ⟨_, rfl⟩
      obtain ⟨wd, hwd⟩ : ∃ R, (Utf8.decode s pos).2 = R := ⟨_, rfl⟩
      rw [hrr] at hr hnx
      rw [hwd] at hr hnx
      obtain ⟨W, hW⟩ : ∃ W, wr.iterAt w.heap.size s (pos + wd) = W := ⟨_, rfl⟩
      rw [hW] at hnx
      have HI1 : Hid (W.heap[w.heap.size]? = some (.stringIter s (pos + wd))) := Lib.hid (by rw [← hW]; exact Lib.iterAt_heap wr _ s pos _ HI.out)
      have HB1 : Hid (Below w.heap.size w W) := Lib.hid (by rw [← hW]; exact Lib.below_iterAt HB.out (Nat.le_refl _) _ _)
      have HO1 : Hid (OwnK (w.heap.size + 1) acc v W) := Lib.hid (by rw [← hW]; exact HO.out.keep (fun k h1 _ => Lib.iterAt_other wr _ k s _ (by omega)))
      have hi1 := ipos HI1.out
      have hlt := hr.wl
      have hw1 := hr.w1
      have HC := Lib.hid hc
      have HR1 := Lib.hid hr
      have e32 := hr.is (d := 32) (by decide)
      have e9 := hr.is (d := 9) (by decide)
      have e10 := hr.is (d := 10) (by decide)
      have e35 := hr.is (d := 35) (by decide)
      have E32 : ((r : Int) == 32) = (c == 32) := e32
      have E9 : ((r : Int) == 9) = (c == 9) := e9
      have E10 : ((r : Int) == 10) = (c == 10) := e10
      have E35 : ((r : Int) == 35) = (c == 35) := e35
      clear e32 e9 e10 e35 hW hr hwd hrr HI HO HB
      by_cases hpe : pos < en
      · have k1 : (pos : Int) < (en : Int) := by omega
        have HL1 := Lib.hid (HL.out.skip hpe HC.out HR1.out)
        clear E32 E9 E10 E35
        go_wp2
        go_roundw
        case rel => exact ⟨_, _, _, _, rfl, rfl, HI1, HL1, HO1, HB1, hen, hlt⟩
        case measure => rw [hi1, hip]; omega
      · have k1 : ¬ (pos : Int) < (en : Int) := by omega
        have k1b : decide ((pos : Int) < (en : Int)) = false := by simpa using k1
        by_cases h32 : c = 32
        · subst h32
          have HL1 := Lib.hid (HL.out.space hpe hp HC.out (by decide))
          obtain ⟨_, rfl⟩ := HR1.out.asc (by decide)
          have K1 : ((r : Int) == 32) = true := E32
          clear E32 E9 E10 E35
          go_wp2
          go_roundw
          case rel => exact ⟨_, _, _, _, rfl, rfl, HI1, HL1, HO1, HB1, hen, hlt⟩
          case measure => rw [hi1, hip]; omega
        · have K1 : ((r : Int) == 32) = false := by rw [E32]; simpa using h32
          by_cases h9 : c = 9
          · subst h9
            have HL1 := Lib.hid (HL.out.space hpe hp HC.out (by decide))
            obtain ⟨_, rfl⟩ := HR1.out.asc (by decide)
            have K2 : ((r : Int) == 9) = true := E9
            clear E32 E9 E10 E35 h32
            go_wp2
            go_roundw
            case rel => exact ⟨_, _, _, _, rfl, rfl, HI1, HL1, HO1, HB1, hen, hlt⟩
            case measure => rw [hi1, hip]; omega
          · have K2 : ((r : Int) == 9) = false := by rw [E9]; simpa using h9
            by_cases h10 : c = 10
            · subst h10
              have HL1 := Lib.hid (HL.out.space hpe hp HC.out (by decide))
              obtain ⟨_, rfl⟩ := HR1.out.asc (by decide)
              have K3 : ((r : Int) == 10) = true := E10
              clear E32 E9 E10 E35 h32 h9
              go_wp2
              go_roundw
              case rel => exact ⟨_, _, _, _, rfl, rfl, HI1, HL1, HO1, HB1, hen, hlt⟩
              case measure => rw [hi1, hip]; omega
            · have K3 : ((r : Int) == 10) = false := by rw [E10]; simpa using h10
              have hsp : isSp c = false := by unfold isSp; simp [h32, h9, h10]
              by_cases h35 : c = 35
              · subst h35
                have K4 : ((r : Int) == 35) = true := E35
                clear E32 E9 E10 E35 h32 h9 h10 hsp
                obtain ⟨rs, hrs⟩ : ∃ rs, s.extract pos s.size = rs := ⟨_, rfl⟩
                have hrl := ext_drop s pos
                rw [hrs] at hrl
                have HRL := Lib.hid hrl
                have hrz : rs.size + pos = s.size := by rw [← list_len rs, hrl, List.length_drop, list_len]; omega
                have HBI : Hid (∀ j, Below W.heap.size W (W.iter rs j)) := Lib.hid (fun j => (Below.refl _ W).alloc (Nat.le_refl _) _)
                have hltW := ltH HI1.out
                clear hrl
                go_wp2
                go_loopw [9] (fun _ w2 => ∃ j : Nat, w2 = W.iter rs j ∧ j ≤ rs.size ∧ Hid (j + ((rs.data.toList.drop j).takeWhile isCm).length = (rs.data.toList.takeWhile isCm).length)) (fun _ w2 => rs.size - w2.iterPos W.heap.size)
                case atStart => exact ⟨0, rfl, Nat.zero_le _, Lib.hid (by simp)⟩
                case round =>
                  obtain ⟨j, rfl, hj, HJ⟩ := hrel
                  have HBJ := Lib.hid (HBI.out j)
                  by_cases hjr : j < rs.size
                  · obtain ⟨d, hd, hdr⟩ := rune_at rs j hjr
                    have hnx2 : ∀ ty, (Instr.next (.pointer (some ⟨W.heap.size, 0, none⟩)) true ty).run Tryd.prog (W.iter rs j) = _ := fun ty => run_next_any W rs j ty hjr
                    obtain ⟨r2, hr2⟩ : ∃ R, (Utf8.decode rs j).1 = R := ⟨_, rfl⟩
                    obtain ⟨wd2, hwd2⟩ : ∃ R, (Utf8.decode rs j).2 = R := ⟨_, rfl⟩
                    rw [hr2] at hdr hnx2
                    rw [hwd2] at hdr hnx2
                    have E10 : ((r2 : Int) == 10) = (d == 10) := hdr.is (d := 10) (by decide)
                    have hl2 := hdr.wl
                    have hw2 := hdr.w1
                    have HD := Lib.hid hd
                    have HDR := Lib.hid hdr
                    clear hr2 hwd2 hdr hd
                    by_cases hd10 : d = 10
                    · subst hd10
                      have K5 : ((r2 : Int) == 10) = true := E10
                      obtain ⟨_, rfl⟩ := HDR.out.asc (by decide)
                      have hcm : ((s.data.toList.drop pos).takeWhile isCm).length = j := by rw [← HRL.out]; exact tw_stop HD.out (by decide) HJ.out
                      have hcn : (s.data.toList.drop pos)[j]? = some 10 := by rw [← HRL.out]; exact HD.out
                      have HL2 := Lib.hid (HL.out.commN hpe hp HC.out hcm hcn)
                      have hx := HR1.out.asc (by decide)
                      obtain ⟨_, rfl⟩ := hx
                      have HBX := Lib.hid (HBI.out (j + 1))
                      have HI3 := Lib.hid ((HBX.out.block _ hltW).trans HI1.out)
                      have HO3 := Lib.hid (HO1.out.keep (fun k _ h => HBX.out.block k h))
                      have HB3 := Lib.hid (HB1.out.trans (HBX.out.mono HB1.out.size))
                      have hi3 := ipos HI3.out
                      clear E10 hcm hcn HBX
                      go_wp2
                      go_roundw
                      case rel => exact ⟨_, _, _, _, rfl, by go_num, HI3, HL2, HO3, HB3, by omega, by omega⟩
                      case measure => rw [hi3, hip]; omega
                    · have K5 : ((r2 : Int) == 10) = false := by rw [E10]; simpa using hd10
                      have HJ2 := Lib.hid (tw_go (p := isCm) wd2 (fun k h1 h2 => by
                        rcases Nat.eq_or_lt_of_le h1 with rfl | h1
                        · exact ⟨d, HD.out, by simpa [isCm] using hd10⟩
                        · obtain ⟨x, hx, hx2⟩ := HDR.out.cont k h1 h2
                          exact ⟨x, hx, by unfold isCm; rw [decide_eq_true_eq]; rintro rfl; revert hx2; decide⟩) HJ.out)
                      clear E10 hd10
                      go_wp2
                      go_roundw
                      case rel => exact ⟨_, rfl, hl2, HJ2⟩
                      case measure => simp; omega
                  · have hnx2 : ∀ ty, (Instr.next (.pointer (some ⟨W.heap.size, 0, none⟩)) true ty).run Tryd.prog (W.iter rs j) = _ := fun ty => run_next_end W rs j ty hjr
                    obtain rfl : j = rs.size := by omega
                    have hcm : ((s.data.toList.drop pos).takeWhile isCm).length = rs.size := by
                      rw [← HRL.out, ← HJ.out, List.drop_of_length_le (by rw [list_len]; exact Nat.le_refl _)]; rfl
                    obtain ⟨X, hX⟩ : ∃ X, W.iter rs rs.size = X := ⟨_, rfl⟩
                    rw [hX] at HBJ hnx2
                    have HIX := Lib.hid ((HBJ.out.block _ hltW).trans HI1.out)
                    have HO3 := Lib.hid (HO1.out.keep (fun k _ h => HBJ.out.block k h))
                    have HB3 := Lib.hid (HB1.out.trans (HBJ.out.mono HB1.out.size))
                    rw [hX]
                    have HLA := Lib.hid (LxI.last ((HL.out.comm (c := 35) hpe hp HC.out hcm).1) (by omega))
                    have HSH := Lib.hid (Nat.le_trans HL.out.sh (show max pos en ≤ 4000 by omega))
                    have HNC := Lib.hid (newCellK X ⟨0, .empty, 0, s.size⟩)
                    have HRW := Lib.hid (show (X).ownsRow (w.heap.size + 1) TTk 4 v acc.length (tkL acc) from HO3.out)
                    have HOB := Lib.hid (fun t (ht : v.ownBlock = some t) => (World.ownsRow.lt HRW.out t ht).1)
                    have HBB := Lib.hid HB3.out
                    obtain ⟨q, hq⟩ : ∃ q, acc.length = q := ⟨_, rfl⟩
                    rw [hq] at HRW HSH
                    have HQ := Lib.hid hq
                    clear hq
                    go_wp2_with (at_builtin; refine wpList_append_own _ rfl _ _ TTs rfl (w.heap.size + 1) TTk i4 (.agg #[.int .i64 0, .string ⟨#[]⟩, .int .i64 0, .int .i64 0]) 4 40 Tryd.underlying22 ki kz0 kz1 kz2 rfl (by decide) _ _ _ rfl (HRW.out.alloc _) ⟨(X).heap.size, 0, none⟩ 1 1 (encK ⟨0, .empty, 0, s.size⟩) rfl rfl HNC.out (encK_one _) ?qb4 ?qb5 ?qb6 ?_)
                    case qb4 => have := HSH.out; unfold maxLen; omega
                    case qb5 => have := HSH.out; omega
                    case qb6 => have := ltH HIX.out; simp; omega
                    intro v' w4 hown hgrow hnil
                    have HO4 : Hid (OwnK (w.heap.size + 1) (acc ++ [⟨0, .empty, 0, s.size⟩]) v' w4) := Lib.hid (by
                      unfold OwnK
                      rw [tkL_snoc, List.length_append, HQ.out]
                      exact hown)
                    have HB4 := Lib.hid ((HBB.out.alloc HBB.out.size _).grown hgrow (by have := HBB.out.size; simp; omega) (fun k hk => by have := HOB.out k hk; omega))
                    clear hown hgrow hnil
                    go_wp2
                    try simp only [Exit.inBlock, Exit.then, Exit.noGoto]
                    go_ret3
                    have hRR := HLA.out
                    rw [HR.out] at hRR
                    subst hRR
                    exact ⟨_, rfl, HO4.out.fresh.keep (Nat.le_refl _) (fun b _ h => ⟨by omega, rfl⟩), HB4.out⟩
              · have K4 : ((r : Int) == 35) = false := by rw [E35]; simpa using h35
                have HTK := Lib.hid (HL.out.tok hpe hp HC.out hsp h35)
                clear E32 E9 E10 E35 h32 h9 h10 h35 hsp
                have HTA := Lib.hid (tokenAt_any s pos W hs hp (HV.out.below HB1.out hltE) (HG.out.below HB1.out hltS))
                rcases HTK.out with ⟨e, h1, h2, h3⟩ | ⟨T, h1, h2, h3⟩
                · rw [h1] at HTA
                  have HE := Lib.hid h3
                  have k2 : (e != 0) = true := by simpa using h2
                  clear h1 h2 h3 HTK
                  simp only [tkV, zTk] at HTA
                  go_wp2_with fail
                  refine HTA.out.mono ?_
                  rintro x w3 ⟨rfl, b3⟩
                  have HB3 := Lib.hid (HB1.out.trans (b3.mono HB1.out.size))
                  clear b3
                  go_wp2
                  try simp only [Exit.inBlock, Exit.then, Exit.noGoto]
                  go_ret3
                  have hRR := HE.out
                  rw [HR.out] at hRR
                  subst hRR
                  exact ⟨_, rfl, ⟨none, 0, rfl, Nat.zero_le _, by decide, fun j hj => absurd hj (by simp), fun j hj => absurd hj (by simp)⟩, HB3.out.alloc (by have := HB3.out.size; omega) _⟩
                · rw [h1] at HTA
                  have hwd1 := (HR1.out.asc h2).2
                  subst hwd1
                  have HL2 := Lib.hid h3
                  obtain ⟨tk, tt, tv, ta⟩ := T
                  clear h1 h2 h3 HTK
                  simp only [tkV] at HTA
                  go_wp2_with fail
                  refine HTA.out.mono ?_
                  rintro x w3 ⟨rfl, b3⟩
                  have HI3 := Lib.hid ((b3.block _ (ltH HI1.out)).trans HI1.out)
                  have HO3 := Lib.hid (HO1.out.keep (fun k _ h => b3.block k h))
                  have HB3 := Lib.hid (HB1.out.trans (b3.mono HB1.out.size))
                  clear b3
                  obtain ⟨W0, hW0⟩ : ∃ W0, w3.alloc (.cells #[.int .i64 tk, .string tt, .int .i64 tv, .int .i64 (ta : Int)] TTk) = W0 := ⟨_, rfl⟩
                  have hz0 : W0.heap.size = w3.heap.size + 1 := by rw [← hW0]; simp
                  have hNC := newCellK W0 ⟨tk, tt, tv, ta⟩
                  rw [hz0] at hNC
                  have HNC := Lib.hid hNC
                  have HRW := Lib.hid (show W0.ownsRow (w.heap.size + 1) TTk 4 v acc.length (tkL acc) from by rw [← hW0]; exact World.ownsRow.alloc HO3.out _)
                  have HOB := Lib.hid (fun t (ht : v.ownBlock = some t) => (World.ownsRow.lt HRW.out t ht).1)
                  have HBB : Hid (Below w.heap.size w W0) := Lib.hid (by rw [← hW0]; exact HB3.out.alloc HB3.out.size _)
                  have HSH := Lib.hid (Nat.le_trans HL.out.sh (show max pos en ≤ 4000 by omega))
                  have HI4 := Lib.hid (show W0.heap[w.heap.size]? = some (.stringIter s (pos + 1)) by rw [← hW0, Below.heap_alloc _ _ _ (ltH HI3.out)]; exact HI3.out)
                  obtain ⟨q, hq⟩ : ∃ q, acc.length = q := ⟨_, rfl⟩
                  rw [hq] at HRW HSH
                  have HQ := Lib.hid hq
                  have HW0 := Lib.hid hW0
                  have HZ0 := Lib.hid hz0
                  have HTE := Lib.hid HL2.out.enl
                  clear hq hW0 hNC hz0
                  have hle2 : pos + tt.size ≤ s.size := HTE.out
                  go_wp2_with (first
                    | (at_builtin; rw [HW0.out]; refine wpList_append_own _ rfl _ _ TTs rfl (w.heap.size + 1) TTk i4 (.agg #[.int .i64 0, .string ⟨#[]⟩, .int .i64 0, .int .i64 0]) 4 40 Tryd.underlying22 ki kz0 kz1 kz2 rfl (by decide) _ _ _ rfl (HRW.out.alloc _) ⟨w3.heap.size + 1, 0, none⟩ 1 1 (encK ⟨tk, tt, tv, ta⟩) rfl rfl HNC.out (encK_one _) ?qd4 ?qd5 ?qd6 ?_))
                  case qd4 => have := HSH.out; unfold maxLen; omega
                  case qd5 => have := HSH.out; omega
                  case qd6 => have := HBB.out.size; rw [World.size_alloc]; have := ltH HI4.out; omega
                  intro v' w4 hown hgrow hnil
                  have HO4 : Hid (OwnK (w.heap.size + 1) (acc ++ [⟨tk, tt, tv, ta⟩]) v' w4) := Lib.hid (by
                    unfold OwnK
                    rw [tkL_snoc, List.length_append, HQ.out]
                    exact hown)
                  have hga : ∀ k, k < W0.heap.size → (∀ t, v.ownBlock = some t → k ≠ t) → w4.heap[k]? = W0.heap[k]? := fun k hk hne => by
                    rw [hgrow.block k (by rw [World.size_alloc]; omega) (fun e => hne k e.symm rfl)]
                    exact Below.heap_alloc _ _ _ hk
                  have HI5 := Lib.hid ((hga w.heap.size (ltH HI4.out) (fun t ht => by have := HOB.out t ht; omega)).trans HI4.out)
                  have hct : w4.heap[w3.heap.size]? = some (.cells #[.int .i64 tk, .string tt, .int .i64 tv, .int .i64 (ta : Int)] TTk (0, 0)) := by
                    rw [hga w3.heap.size (by have := HZ0.out; omega) (fun t ht => by have := (World.ownsRow.lt HO3.out t ht).2; omega), ← HW0.out]
                    exact heapNew w3 _
                  have hc1 : w4.cell? ⟨w3.heap.size, 1, none⟩ = some (.string tt) := by rw [Lib.cell_of_heap hct]; rfl
                  have HB4 := Lib.hid ((HBB.out.alloc HBB.out.size _).grown hgrow (by rw [World.size_alloc]; have := HBB.out.size; omega) (fun k hk => by have := HOB.out k hk; omega))
                  have hi5 := ipos HI5.out
                  clear hown hgrow hnil hga hct
                  go_wp2
                  go_roundw
                  case rel => exact ⟨_, _, _, _, rfl, by go_num, HI5, HL2, HO4, HB4, hle2, by omega⟩
                  case measure => rw [hi5, hip]; omega
    · have hnx : ∀ ty, (Instr.next (.pointer (some ⟨w.heap.size, 0, none⟩)) true ty).run Tryd.prog wr = _ := fun ty => Lib.run_next_end_at wr w.heap.size s pos ty HI.out hp
      have HLA := Lib.hid (LxI.last HL.out.res (by omega))
      have HSH := Lib.hid (Nat.le_trans HL.out.sh (show max pos en ≤ 4000 by omega))
      have HNC := Lib.hid (newCellK wr ⟨0, .empty, 0, s.size⟩)
      have HRW := Lib.hid (show (wr).ownsRow (w.heap.size + 1) TTk 4 v acc.length (tkL acc) from HO.out)
      have HOB := Lib.hid (fun t (ht : v.ownBlock = some t) => (World.ownsRow.lt HRW.out t ht).1)
      have HBB := Lib.hid HB.out
      obtain ⟨q, hq⟩ : ∃ q, acc.length = q := ⟨_, rfl⟩
      rw [hq] at HRW HSH
      have HQ := Lib.hid hq
      clear hq
      go_wp2_with (at_builtin; refine wpList_append_own _ rfl _ _ TTs rfl (w.heap.size + 1) TTk i4 (.agg #[.int .i64 0, .string ⟨#[]⟩, .int .i64 0, .int .i64 0]) 4 40 Tryd.underlying22 ki kz0 kz1 kz2 rfl (by decide) _ _ _ rfl (HRW.out.alloc _) ⟨(wr).heap.size, 0, none⟩ 1 1 (encK ⟨0, .empty, 0, s.size⟩) rfl rfl HNC.out (encK_one _) ?qa4 ?qa5 ?qa6 ?_)
      case qa4 => have := HSH.out; unfold maxLen; omega
      case qa5 => have := HSH.out; omega
      case qa6 => have := ltH HI.out; simp; omega
      intro v' w4 hown hgrow hnil
      have HO4 : Hid (OwnK (w.heap.size + 1) (acc ++ [⟨0, .empty, 0, s.size⟩]) v' w4) := Lib.hid (by
        unfold OwnK
        rw [tkL_snoc, List.length_append, HQ.out]
        exact hown)
      have HB4 := Lib.hid ((HBB.out.alloc HBB.out.size _).grown hgrow (by have := HBB.out.size; simp; omega) (fun k hk => by have := HOB.out k hk; omega))
      clear hown hgrow hnil
      go_wp2
      try simp only [Exit.inBlock, Exit.then, Exit.noGoto]
      go_ret3
      have hRR := HLA.out
      rw [HR.out] at hRR
      subst hRR
      exact ⟨_, rfl, HO4.out.fresh.keep (Nat.le_refl _) (fun b _ h => ⟨by omega, rfl⟩), HB4.out⟩
end Go.Proofs.YtdgphhdkeikbaaaDoor
