/-
  What the statement's bound returns.
-/
import Derived.StillTailTactics
import Derived.OwnWalkIn
import Derived.Test.YtfgaihajopfmfaaGreatDoorExIns
import Derived.Test.YtfgaihajopfmfaaGreatDoorExRefC
namespace Go.Proofs.YtfgaihajopfmfaaGreatDoor
set_option linter.unusedSimpArgs false
set_option linter.unusedVariables false
open Go.RowKit Go.Shelf

def oB (l : List Bd) (s : ByteArray) : List Bd := l.filter fun x => decide (x.1 ≠ s)
def upB (o : List Bd) (s : ByteArray) : Nat := (o.takeWhile fun x => ltS x.1 s).length
/-- The bindings with another one. -/
def insB (l : List Bd) (t : Bd) : List Bd := (oB l t.1).take (upB (oB l t.1) t.1) ++ t :: (oB l t.1).drop (upB (oB l t.1) t.1)
theorem oB_len (l : List Bd) (s : ByteArray) : (oB l s).length ≤ l.length := List.length_filter_le _ _
theorem oB_step (l : List Bd) (s : ByteArray) (j : Nat) (h : j < l.length) : oB (l.take (j + 1)) s = oB (l.take j) s ++ (if (gb l j).1 = s then [] else [gb l j]) := by
  have e : l.take (j + 1) = l.take j ++ [gb l j] := by
    rw [List.take_succ_eq_append_getElem h]
    unfold gb
    rw [List.getElem?_eq_getElem h]
    rfl
  unfold oB
  rw [e, List.filter_append]
  congr 1
  by_cases hs : (gb l j).1 = s
  · rw [if_pos hs]; simp [hs]
  · rw [if_neg hs]; simp [hs]
theorem upB_is {o : List Bd} {s : ByteArray} {i : Nat} (hi : i ≤ o.length) (h1 : ∀ j, j < i → ltS (gb o j).1 s = true) (h2 : i < o.length → ltS (gb o i).1 s = false) : upB o s = i := by
  unfold upB
  have e1 : (o.takeWhile fun x => ltS x.1 s) = o.take i := by
    conv => lhs; rw [← List.take_append_drop i o]
    rw [List.takeWhile_append_of_pos (fun t ht => by
      obtain ⟨k, hk, e⟩ := mem_gb ht
      rw [List.length_take] at hk
      rw [← e, gb_take (by omega)]
      exact h1 k (by omega))]
    by_cases hlt : i < o.length
    · rw [drop_consB o i hlt, List.takeWhile_cons, if_neg (by rw [h2 hlt]; simp), List.append_nil]
    · rw [List.drop_eq_nil_of_le (by omega)]; simp
  rw [e1, List.length_take]
  omega
theorem newCellB (w : World) (t : Bd) : ∀ (j : Nat) (u : Value), (encD t)[j]? = some u → (w.alloc (.cells #[.string t.1, .int .i64 t.2.1, .int .i64 t.2.2] TB)).cell? ((⟨w.heap.size, 0, none⟩ : Addr).add j) = some u := by
  intro j u hj
  rw [Addr.add_lit, Lib.cell_of_heap (World.alloc_heap_new w _)]
  match j, hj with
  | 0, hj => simpa [encD] using hj
  | 1, hj => simpa [encD] using hj
  | 2, hj => simpa [encD] using hj

set_option maxRecDepth 100000 in
set_option maxHeartbeats 8000000 in
theorem bound_any (l : List Bd) (v : Value) (s : ByteArray) (ty vl : Int) (w : World) (hl : l.length ≤ 900) (hK : KB w v l) :
    Calls Tryz.prog 28 #[v, .agg #[.string s, .int .i64 ty, .int .i64 vl]] w fun e w' => ∃ v', e = .returned v' ∧ KB w' v' (insB l (s, ty, vl)) ∧ Below w.heap.size w w' := by
  obtain ⟨i3, ki, kz0, kz1, kz2⟩ := info_parts infoB
  obtain ⟨w1, hw1⟩ : ∃ W, w.alloc (.cells #[.string s, .int .i64 ty, .int .i64 vl] TB) = W := ⟨_, rfl⟩
  have b1 : Below w.heap.size w w1 := by rw [← hw1]; exact below_allocW w _
  have x1 : AtB w1 w.heap.size 0 (s, ty, vl) := by rw [← hw1]; exact boxB w (s, ty, vl)
  have HK := Lib.hid (hK.carry b1)
  have HB1 := Lib.hid b1
  have HX := Lib.hid x1
  have HW := Lib.hid hw1
  obtain ⟨a, c, rfl, h1, h2, _⟩ := hK
  clear b1 x1 hw1
  go_enter Tryz.func28, Tryz.ntmps28
  go_wp2
  rw [HW.out]
  go_loopw [5, 11] (fun x y wr => ∃ (u : Value) (j : Nat), u = x ∧ j ≤ l.length ∧ y = .int .i64 j ∧ Hid (OwnD w1.heap.size (oB (l.take j) s) u wr) ∧ Hid (Below w1.heap.size w1 wr)) (fun _ y _ => l.length - (intOf y).toNat)
  case atStart => exact ⟨_, 0, rfl, Nat.zero_le _, rfl, Lib.hid (OwnD.nil _ _), Lib.hid (Below.refl _ _)⟩
  case round =>
    obtain ⟨u, j, rfl, hj, rfl, HO, HB⟩ := hrel
    by_cases hlt : j < l.length
    · have k1 : (j : Int) < (l.length : Int) := by omega
      obtain ⟨b, off, rfl, hbl, y⟩ := KB.at_ (HK.out.carry HB.out) j hlt
      obtain ⟨y0, y1, y2⟩ := y
      have HOS := Lib.hid (oB_step l s j hlt)
      obtain ⟨q, hq⟩ : ∃ q, gb l j = q := ⟨_, rfl⟩
      rw [hq] at HOS y0 y1 y2
      have HXA : Hid (AtB (wr.alloc (.cells #[.string q.1, .int .i64 q.2.1, .int .i64 q.2.2] TB)) w.heap.size 0 (s, ty, vl)) := Lib.hid (HX.out.keep (((HB.out.alloc HB.out.size _)).block _ HX.out.lt))
      obtain ⟨p0, p1, p2⟩ := HXA.out
      obtain ⟨n0, n1, n2⟩ := boxB wr q
      simp only [Nat.zero_add] at p0 p1 p2 n0 n1 n2
      clear hq
      by_cases hs : q.1 = s
      · obtain ⟨s1, s2, s3⟩ := str_yes hs
        have HO2 : Hid (OwnD w1.heap.size (oB (l.take (j + 1)) s) u (wr.alloc (.cells #[.string q.1, .int .i64 q.2.1, .int .i64 q.2.2] TB))) := Lib.hid (by rw [HOS.out, if_pos hs, List.append_nil]; exact HO.out.below (below_allocW wr _))
        have HB2 : Hid (Below w1.heap.size w1 (wr.alloc (.cells #[.string q.1, .int .i64 q.2.1, .int .i64 q.2.2] TB))) := Lib.hid (HB.out.alloc HB.out.size _)
        clear hs
        go_wp2
        go_roundw
        case rel => exact ⟨u, j + 1, rfl, by omega, by go_num, HO2, HB2⟩
        case measure => simp [intOf]; omega
      · obtain ⟨s1, s2, s3⟩ := str_no hs
        obtain ⟨o, ho⟩ : ∃ o, oB (l.take j) s = o := ⟨_, rfl⟩
        have hol : o.length ≤ 900 := by
          have := oB_len (l.take j) s
          rw [ho, List.length_take] at this
          omega
        rw [ho] at HO HOS
        have HR := Lib.hid (show wr.ownsRow w1.heap.size TB 3 u o.length (bsV o) from HO.out)
        have HOB : Hid (∀ t, u.ownBlock = some t → w1.heap.size ≤ t) := Lib.hid fun t ht => (World.ownsRow.lt HR.out t ht).1
        have hnc := newCellB (wr.alloc (.cells #[.string q.1, .int .i64 q.2.1, .int .i64 q.2.2] TB)) q
        rw [show (wr.alloc (.cells #[.string q.1, .int .i64 q.2.1, .int .i64 q.2.2] TB)).heap.size = wr.heap.size + 1 by simp] at hnc
        have HNC := Lib.hid hnc
        have HX2 : Hid (∀ v' w4, w4.ownsRow w1.heap.size TB 3 v' (o.length + 1) (bsV o ++ encD q) → OwnD w1.heap.size (oB (l.take (j + 1)) s) v' w4) := Lib.hid (fun v' w4 h => by
          rw [HOS.out, if_neg hs]
          unfold OwnD
          rw [bsV_snoc, List.length_append]
          exact h)
        clear hs ho hnc
        go_wp2_with (at_builtin; refine wpList_append_own _ rfl _ _ 40 rfl w1.heap.size TB i3 (.agg #[.string .empty, .int .i64 0, .int .i64 0]) 3 32 Tryz.underlying40 ki kz0 kz1 kz2 rfl (by decide) _ _ _ rfl ((HR.out.alloc _).alloc _) ⟨wr.heap.size + 1, 0, none⟩ 1 1 (encD q) rfl rfl HNC.out (encD_one _) ?qc4 ?qc5 ?qc6 ?_)
        case qc4 => unfold maxLen; omega
        case qc5 => omega
        case qc6 => have := HB.out.size; simp; omega
        intro v' w4 hown hgrow hnil
        have HO4 := Lib.hid (HX2.out v' w4 hown)
        have HB4 := Lib.hid (((HB.out.alloc HB.out.size _).alloc (by have := HB.out.size; simp; omega) _).grown hgrow (by have := HB.out.size; simp; omega) HOB.out)
        clear hown hgrow hnil
        go_wp2
        go_roundw
        case rel => exact ⟨v', j + 1, rfl, by omega, by go_num, HO4, HB4⟩
        case measure => simp [intOf]; omega
    · have k1 : ¬ (j : Int) < (l.length : Int) := by omega
      obtain ⟨o, ho⟩ : ∃ o, oB l s = o := ⟨_, rfl⟩
      have HO2 : Hid (OwnD w1.heap.size o u wr) := Lib.hid (by have := HO.out; rw [List.take_of_length_le (by omega), ho] at this; exact this)
      have hol : o.length ≤ 900 := by have := oB_len l s; rw [ho] at this; omega
      have HIN : Hid (insB l (s, ty, vl) = o.take (upB o s) ++ (s, ty, vl) :: o.drop (upB o s)) := Lib.hid (by unfold insB; rw [ho])
      obtain ⟨ad, cap, rfl, hc1, hc2⟩ := ownZ_slice (show wr.ownsRow w1.heap.size TB 3 u o.length (bsV o) from HO2.out)
      have HBr := HB
      clear ho HO HB hj hlt
      rename World => w2
      go_wp2
      go_loopw [8] (fun x wr => ∃ k : Nat, k ≤ o.length ∧ x = .int .i64 k ∧ Hid (∀ q, q < k → ltS (gb o q).1 s = true) ∧ Hid (Below w2.heap.size w2 wr)) (fun x _ => o.length - (intOf x).toNat)
      case atStart => exact ⟨0, Nat.zero_le _, rfl, Lib.hid (fun q hq => by omega), Lib.hid (Below.refl _ _)⟩
      case round =>
        obtain ⟨k, hk, rfl, HN, HBk⟩ := hrel
        have HOk : Hid (OwnD w1.heap.size o (.slice ad o.length cap) wr) := Lib.hid (HO2.out.below HBk.out)
        have HXk : Hid (AtB wr w.heap.size 0 (s, ty, vl)) := Lib.hid (HX.out.keep ((HBr.out.trans (HBk.out.mono HBr.out.size)).block _ HX.out.lt))
        have HBw : Hid (Below w1.heap.size w1 wr) := Lib.hid (HBr.out.trans (HBk.out.mono HBr.out.size))
        obtain ⟨p0, p1, p2⟩ := HXk.out
        obtain ⟨wd, hwd⟩ : ∃ W, wr.drew = W := ⟨_, rfl⟩
        have HBd : Hid (Below w2.heap.size w2 wd) := Lib.hid (by rw [← hwd]; exact HBk.out.drew)
        have HBdw : Hid (Below w1.heap.size w1 wd) := Lib.hid (HBr.out.trans (HBd.out.mono HBr.out.size))
        have HOd : Hid (OwnD w1.heap.size o (.slice ad o.length cap) wd) := Lib.hid (HO2.out.below HBd.out)
        have HXd : Hid (AtB wd w.heap.size 0 (s, ty, vl)) := Lib.hid (HX.out.keep (HBdw.out.block _ HX.out.lt))
        have HINS : Hid (∀ W, Below w2.heap.size w2 W → Calls Tryz.prog 64 #[.slice ad o.length cap, .int .i64 (k : Int), .slice (some ⟨W.heap.size, 0, none⟩) 1 1] (W.alloc (.cells #[.string s, .int .i64 ty, .int .i64 vl] TB)) fun e w' => ∃ v', e = .returned v' ∧ KB w' v' (o.take k ++ (s, ty, vl) :: o.drop k) ∧ Below w.heap.size w w') := Lib.hid (fun W hW => by
          have hO := HO2.out.below hW
          have hB := HBr.out.trans (hW.mono HBr.out.size)
          refine (bInsert_any w1.heap.size (.slice ad o.length cap) o k s ty vl W.heap.size (W.alloc (.cells #[.string s, .int .i64 ty, .int .i64 vl] TB)) (by omega) hk (by have := hB.size; simp; omega) (hO.below (below_allocW W _)) (fun e => by have := (hO.lt _ e).2; omega) (World.alloc_heap_new W _)).mono ?_
          rintro e w9 ⟨v9, rfl, o9, g9⟩
          exact ⟨v9, rfl, o9.kb, HB1.out.trans (((hB.alloc hB.size _).grown g9 (by have := hB.size; simp; omega) (fun t e => (hO.lt t e).1)).mono HB1.out.size)⟩)
        by_cases hkt : k < o.length
        · have kk1 : (k : Int) < (o.length : Int) := by omega
          have kk0 : (0 : Int) ≤ (k : Int) := by omega
          have q0 : decide ((k : Int) < (o.length : Int)) = true := decide_eq_true (by omega)
          have q1 : decide (k < o.length) = true := decide_eq_true hkt
          obtain ⟨bk, off, e', hbk, c0, c1, c2⟩ := KB.at_ HOd.out.kb k hkt
          obtain ⟨t, ht⟩ : ∃ t, gb o k = t := ⟨_, rfl⟩
          rw [ht] at c0 c1 c2
          have HE' := Lib.hid e'
          subst e'
          obtain ⟨s0, s1, s2⟩ := HXd.out
          simp only [Nat.zero_add] at s0 s1 s2
          cases hle : ltS t.1 s with
          | true =>
            have HN' : Hid (∀ q, q < k + 1 → ltS (gb o q).1 s = true) := Lib.hid (fun q hq => by
              by_cases e : q = k
              · rw [e, ht]; exact hle
              · exact HN.out q (by omega))
            obtain ⟨d1, d2, d3⟩ := ltS_yes hle
            clear hle ht
            go_wp2_with fail
            refine wp_region_still_tail 13 (by kernel_rfl) (by kernel_rfl) ?_
            change wpStill _ _ wr.drew (fun a' => wpList _ _ _ _ a' wr.drew) _ _
            rw [hwd]
            clear hwd p0 p1 p2
            simp only [List.take_succ_cons, List.take_zero, List.drop_succ_cons, List.drop_zero]
            repeat still_step
            refine wpStill_nil ?_
            go_wp2
            go_roundw
            case rel => exact ⟨k + 1, by omega, by go_num, HN', HBd⟩
            case measure => simp [intOf]; omega
          | false =>
            have HPL : Hid (upB o s = k) := Lib.hid (upB_is hk HN.out (fun _ => by rw [ht]; exact hle))
            obtain ⟨d1, d2⟩ := ltS_no hle
            clear hle ht
            go_wp2_with fail
            refine wp_region_still_tail 13 (by kernel_rfl) (by kernel_rfl) ?_
            change wpStill _ _ wr.drew (fun a' => wpList _ _ _ _ a' wr.drew) _ _
            rw [hwd]
            clear hwd p0 p1 p2
            simp only [List.take_succ_cons, List.take_zero, List.drop_succ_cons, List.drop_zero]
            repeat still_step
            refine wpStill_nil ?_
            go_wp2_with fail
            refine (HINS.out wd HBd.out).mono ?_
            rintro e w9 ⟨v9, rfl, o9, b9⟩
            have HR9 : Hid (KB w9 v9 (insB l (s, ty, vl))) := Lib.hid (by rw [HIN.out, HPL.out]; exact o9)
            have HB9 := Lib.hid b9
            clear o9 b9
            go_wp2
            go_ret
            exact ⟨_, rfl, HR9.out, HB9.out⟩
        · have HPL : Hid (upB o s = k) := Lib.hid (upB_is hk HN.out (fun h => absurd h hkt))
          have q0 : decide ((k : Int) < (o.length : Int)) = false := decide_eq_false (by omega)
          have q1 : decide (k < o.length) = false := decide_eq_false hkt
          go_wp2_with fail
          go_quiet (fail)
          have HB5 : Hid (Below w2.heap.size w2 (wr.drewN nq)) := Lib.hid ⟨HBk.out.os, HBk.out.tape, HBk.out.output, HBk.out.size, HBk.out.block⟩
          have HXd2 : Hid (AtB (wr.drewN nq) w.heap.size 0 (s, ty, vl)) := Lib.hid (HX.out.keep ((HBr.out.trans (HB5.out.mono HBr.out.size)).block _ HX.out.lt))
          obtain ⟨s0, s1, s2⟩ := HXd2.out
          simp only [Nat.zero_add] at s0 s1 s2
          go_wp2_with fail
          refine (HINS.out _ HB5.out).mono ?_
          rintro e w9 ⟨v9, rfl, o9, b9⟩
          have HR9 : Hid (KB w9 v9 (insB l (s, ty, vl))) := Lib.hid (by rw [HIN.out, HPL.out]; exact o9)
          have HB9 := Lib.hid b9
          clear o9 b9
          go_wp2
          go_ret
          exact ⟨_, rfl, HR9.out, HB9.out⟩

end Go.Proofs.YtfgaihajopfmfaaGreatDoor
