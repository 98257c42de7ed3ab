/-
  What the reference's insert returns.
-/
import Derived.OwnWalkIn
import Derived.Test.YtfgaihajopfmfaaGreatDoorExChkM
namespace Go.Proofs.YtfgaihajopfmfaaGreatDoor
set_option linter.unusedSimpArgs false
set_option linter.unusedVariables false
open Go.RowKit Go.Shelf

/-- What stands in the new row when these have been looked at. -/
def outF (l : List (List UInt8)) (s : List UInt8) : List (List UInt8) := if l.all (fun x => !decide (s < x)) = true then l else l.takeWhile (fun x => !decide (s < x)) ++ s :: l.dropWhile (fun x => !decide (s < x))
theorem tw_all {α : Type} {p : α → Bool} {l : List α} (h : l.all p = true) : l.takeWhile p = l ∧ l.dropWhile p = [] := by
  induction l with
  | nil => exact ⟨rfl, rfl⟩
  | cons a r ih =>
    simp only [List.all_cons, Bool.and_eq_true] at h
    rw [List.takeWhile_cons, List.dropWhile_cons, if_pos h.1, if_pos h.1, (ih h.2).1, (ih h.2).2]
    exact ⟨rfl, rfl⟩
theorem tw_app {α : Type} {p : α → Bool} {l r : List α} (h : l.all p = false) : (l ++ r).takeWhile p = l.takeWhile p ∧ (l ++ r).dropWhile p = l.dropWhile p ++ r := by
  induction l with
  | nil => cases h
  | cons a t ih =>
    rw [List.cons_append, List.takeWhile_cons, List.takeWhile_cons, List.dropWhile_cons, List.dropWhile_cons]
    cases hp : p a with
    | false => simp
    | true =>
      rw [List.all_cons, hp, Bool.true_and] at h
      simp [(ih h).1, (ih h).2]
theorem outF_old {l : List (List UInt8)} {s x : List UInt8} (h : l.all (fun x => !decide (s < x)) = false) : outF (l ++ [x]) s = outF l s ++ [x] ∧ (l ++ [x]).all (fun x => !decide (s < x)) = false := by
  have h2 : (l ++ [x]).all (fun x => !decide (s < x)) = false := by rw [List.all_append, h]; rfl
  refine ⟨?_, h2⟩
  unfold outF
  rw [if_neg (by rw [h2]; simp), if_neg (by rw [h]; simp), (tw_app h).1, (tw_app h).2]
  simp
theorem outF_same {l : List (List UInt8)} {s x : List UInt8} (h : l.all (fun x => !decide (s < x)) = true) (hx : ¬ s < x) : outF (l ++ [x]) s = outF l s ++ [x] ∧ (l ++ [x]).all (fun x => !decide (s < x)) = true := by
  have h2 : (l ++ [x]).all (fun x => !decide (s < x)) = true := by rw [List.all_append, h]; simp [hx]
  refine ⟨?_, h2⟩
  unfold outF
  rw [if_pos h2, if_pos h]
theorem outF_new {l : List (List UInt8)} {s x : List UInt8} (h : l.all (fun x => !decide (s < x)) = true) (hx : s < x) : outF (l ++ [x]) s = outF l s ++ [s] ++ [x] ∧ (l ++ [x]).all (fun x => !decide (s < x)) = false := by
  have h2 : (l ++ [x]).all (fun x => !decide (s < x)) = false := by rw [List.all_append, h]; simp [hx]
  refine ⟨?_, h2⟩
  unfold outF
  rw [if_neg (by rw [h2]; simp), if_pos h]
  obtain ⟨t1, t2⟩ := tw_all h
  have e1 : (l ++ [x]).takeWhile (fun x => !decide (s < x)) = l := by
    rw [List.takeWhile_append_of_pos (List.all_eq_true.1 h), List.takeWhile_cons, if_neg (by simp [hx]), List.append_nil]
  have e2 : (l ++ [x]).dropWhile (fun x => !decide (s < x)) = [x] := by
    rw [List.dropWhile_append_of_pos (List.all_eq_true.1 h), List.dropWhile_cons, if_neg (by simp [hx])]
  rw [e1, e2]
  simp
theorem insF_old {l : List (List UInt8)} {s : List UInt8} (hs : s ∉ l) (h : l.all (fun x => !decide (s < x)) = false) : insF l s = outF l s := by
  unfold insF outF
  rw [if_neg hs, if_neg (by rw [h]; simp)]
theorem insF_end {l : List (List UInt8)} {s : List UInt8} (hs : s ∉ l) (h : l.all (fun x => !decide (s < x)) = true) : insF l s = outF l s ++ [s] := by
  unfold insF outF
  rw [if_neg hs, if_pos h, (tw_all h).1, (tw_all h).2]
theorem outF_len (l : List (List UInt8)) (s : List UInt8) : (outF l s).length ≤ l.length + 1 := by
  unfold outF
  split
  · omega
  · have := congrArg List.length (List.takeWhile_append_dropWhile (p := fun x => !decide (s < x)) (l := l))
    rw [List.length_append] at this
    rw [List.length_append, List.length_cons]
    omega
theorem newCellS (W : World) (x : ByteArray) : ∀ (j : Nat) (u : Value), [Value.string x][j]? = some u → (W.alloc (.cells #[.string x] TS)).cell? ((⟨W.heap.size, 0, none⟩ : Addr).add j) = some u := by
  intro j u hj
  rw [Addr.add_lit, Lib.cell_of_heap (World.alloc_heap_new W _)]
  match j, hj with
  | 0, hj => simpa using hj
theorem one_str (x : ByteArray) : ∀ u ∈ [Value.string x], u.oneCell' = true := by
  intro u hu
  obtain rfl : u = Value.string x := by simpa using hu
  rfl
theorem OwnS.app {B : Nat} {ss : List (List UInt8)} {v : Value} {w : World} {x : ByteArray} (h : w.ownsRow B TS 1 v (ss.length + 1) (ss.map encStr ++ [.string x])) : OwnS B (ss ++ [x.data.toList]) v w := by
  unfold OwnS
  rw [List.length_append, List.map_append]
  simpa [encStr] using h
theorem take_snocS (ts : List (List UInt8)) (k : Nat) (h : k < ts.length) : ts.take (k + 1) = ts.take k ++ [gs ts k] := by
  rw [List.take_succ_eq_append_getElem h]; simp [gs, h]
theorem KS.at2 {w : World} {a : Option Addr} {n c : Nat} {ss : List (List UInt8)} (h : KS w (.slice a n c) ss) (j : Nat) (hj : j < ss.length) : ∃ b off, a = some ⟨b, off, none⟩ ∧ b < w.heap.size ∧ w.cell? ⟨b, off + j, none⟩ = some (encStr (gs ss j)) := by
  obtain ⟨a', c', e, _, _, h3⟩ := h
  injection e with e1 e2 e3
  subst e1
  exact h3 j hj
theorem gs_str (ls : List (List UInt8)) (j : Nat) : ∃ q : ByteArray, encStr (gs ls j) = .string q ∧ q.data.toList = gs ls j := ⟨⟨(gs ls j).toArray⟩, rfl, rfl⟩

set_option maxRecDepth 100000 in
set_option maxHeartbeats 8000000 in
theorem rinsert_any (ls : List (List UInt8)) (v : Value) (s : ByteArray) (w : World) (hl : ls.length ≤ 5000) (hK : KS w v ls) :
    Calls Tryz.prog 98 #[v, .string s] w fun e w' => ∃ v', e = .returned v' ∧ KS w' v' (insF ls s.data.toList) ∧ Below w.heap.size w w' := by
  obtain ⟨i1, ji, jz0, jz1, jz2⟩ := info_parts infoS
  have HK := Lib.hid hK
  have ho0 := World.ownsRow_made (e := TS) (size := 1) w #[] 0 (Nat.le_refl w.heap.size) (Nat.zero_le _) (by rfl)
  have HO0 : Hid (OwnS w.heap.size (outF (ls.take 0) s.data.toList) (.slice (some ⟨w.heap.size, 0, none⟩) 0 0) (w.alloc (.cells #[] TS))) := Lib.hid ho0
  have HB0 : Hid (Below w.heap.size w (w.alloc (.cells #[] TS))) := Lib.hid (below_allocW w _)
  obtain ⟨a, c, rfl, h1, h2, _⟩ := hK
  clear ho0
  go_enter Tryz.func98, Tryz.ntmps98
  go_wp2
  go_loopw [5, 6, 7] (fun x y z wr => ∃ (u : Value) (d : Bool) (j : Nat), u = x ∧ y = .bool d ∧ j ≤ ls.length ∧ z = .int .i64 j ∧ Hid ((ls.take j).all (fun x => !decide (s.data.toList < x)) = !d) ∧ Hid (s.data.toList ∉ ls.take j) ∧ Hid (OwnS w.heap.size (outF (ls.take j) s.data.toList) u wr) ∧ Hid (Below w.heap.size w wr)) (fun _ _ z _ => ls.length - (intOf z).toNat)
  case atStart => exact ⟨_, false, 0, rfl, rfl, Nat.zero_le _, rfl, Lib.hid (by simp), Lib.hid (by simp), HO0, HB0⟩
  case round =>
    obtain ⟨u, d, j, rfl, rfl, hj, rfl, HD, HNI, HO, HB⟩ := hrel
    have hol : (outF (ls.take j) s.data.toList).length ≤ 5001 := by
      have := outF_len (ls.take j) s.data.toList
      rw [List.length_take] at this
      omega
    obtain ⟨o, ho⟩ : ∃ o, outF (ls.take j) s.data.toList = o := ⟨_, rfl⟩
    rw [ho] at hol HO
    have HOE := Lib.hid ho
    clear ho
    have HR := Lib.hid (show wr.ownsRow w.heap.size TS 1 u o.length (o.map encStr) from HO.out)
    have HOB : Hid (∀ t, u.ownBlock = some t → w.heap.size ≤ t) := Lib.hid fun t ht => (World.ownsRow.lt HR.out t ht).1
    by_cases hlt : j < ls.length
    · have k1 : (j : Int) < (ls.length : Int) := by omega
      obtain ⟨b, off, rfl, hbl, y0⟩ := KS.at2 (HK.out.carry HB.out) j hlt
      obtain ⟨q, hq1, hq2⟩ := gs_str ls j
      rw [hq1] at y0
      have HTK := Lib.hid (take_snocS ls j hlt)
      rw [← hq2] at HTK
      by_cases hs : q = s
      · obtain ⟨s1, s2, s3⟩ := str_yes hs
        have HRT : Hid (insF ls s.data.toList = ls) := Lib.hid (by unfold insF; rw [if_pos]; rw [← hs, hq2]; unfold gs; rw [List.getElem?_eq_getElem hlt]; exact List.getElem_mem hlt)
        have HKR := Lib.hid (HK.out.carry HB.out)
        clear hs hq1 hq2
        go_wp2
        go_ret
        exact ⟨_, rfl, by rw [HRT.out]; exact HKR.out, HB.out⟩
      · obtain ⟨s1, s2, s3⟩ := str_no hs
        have hne : s.data.toList ≠ q.data.toList := fun e => hs (by cases q; cases s; simp at e; rw [e])
        have HNI2 : Hid (s.data.toList ∉ ls.take (j + 1)) := Lib.hid (by rw [HTK.out]; simp [HNI.out, hne])
        have HNC := Lib.hid (newCellS wr q)
        clear hs hne hq1 hq2
        cases d with
        | true =>
          go_wp2_with (at_builtin; refine wpList_append_own _ rfl _ _ 33 rfl w.heap.size TS i1 (.string .empty) 1 16 Tryz.underlying33 ji jz0 jz1 jz2 rfl (by decide) _ _ _ rfl (HR.out.alloc _) ⟨wr.heap.size, 0, none⟩ 1 1 [.string q] rfl rfl HNC.out (one_str _) ?qa4 ?qa5 ?qa6 ?_)
          case qa4 => unfold maxLen; omega
          case qa5 => omega
          case qa6 => have := HB.out.size; simp; omega
          intro v' w4 hown hgrow hnil
          have HO4 : Hid (OwnS w.heap.size (outF (ls.take (j + 1)) s.data.toList) v' w4) := Lib.hid (by rw [HTK.out, (outF_old (by rw [HD.out]; rfl)).1, HOE.out]; exact OwnS.app hown)
          have HD4 : Hid ((ls.take (j + 1)).all (fun x => !decide (s.data.toList < x)) = !true) := Lib.hid (by rw [HTK.out, (outF_old (by rw [HD.out]; rfl)).2]; rfl)
          have HB4 := Lib.hid ((HB.out.alloc HB.out.size _).grown hgrow (by have := HB.out.size; simp; omega) HOB.out)
          clear hown hgrow hnil
          go_wp2
          go_roundw
          case rel => exact ⟨v', true, j + 1, rfl, rfl, by omega, by go_num, HD4, HNI2, HO4, HB4⟩
          case measure => simp [intOf]; omega
        | false =>
          cases hlq : ltS s q with
          | false =>
            obtain ⟨d1, d2⟩ := ltS_no hlq
            have HLQ : Hid (¬ s.data.toList < q.data.toList) := Lib.hid (fun e => by rw [ltS_iff.2 e] at hlq; cases hlq)
            clear hlq
            go_wp2_with (at_builtin; refine wpList_append_own _ rfl _ _ 33 rfl w.heap.size TS i1 (.string .empty) 1 16 Tryz.underlying33 ji jz0 jz1 jz2 rfl (by decide) _ _ _ rfl (HR.out.alloc _) ⟨wr.heap.size, 0, none⟩ 1 1 [.string q] rfl rfl HNC.out (one_str _) ?qb4 ?qb5 ?qb6 ?_)
            case qb4 => unfold maxLen; omega
            case qb5 => omega
            case qb6 => have := HB.out.size; simp; omega
            intro v' w4 hown hgrow hnil
            have HO4 : Hid (OwnS w.heap.size (outF (ls.take (j + 1)) s.data.toList) v' w4) := Lib.hid (by rw [HTK.out, (outF_same (by rw [HD.out]; rfl) HLQ.out).1, HOE.out]; exact OwnS.app hown)
            have HD4 : Hid ((ls.take (j + 1)).all (fun x => !decide (s.data.toList < x)) = !false) := Lib.hid (by rw [HTK.out, (outF_same (by rw [HD.out]; rfl) HLQ.out).2]; rfl)
            have HB4 := Lib.hid ((HB.out.alloc HB.out.size _).grown hgrow (by have := HB.out.size; simp; omega) HOB.out)
            clear hown hgrow hnil
            go_wp2
            go_roundw
            case rel => exact ⟨v', false, j + 1, rfl, rfl, by omega, by go_num, HD4, HNI2, HO4, HB4⟩
            case measure => simp [intOf]; omega
          | true =>
            obtain ⟨d1, d2, d3⟩ := ltS_yes hlq
            have HLQ : Hid (s.data.toList < q.data.toList) := Lib.hid (ltS_iff.1 hlq)
            have HNS := Lib.hid (newCellS wr s)
            clear hlq HNC
            go_wp2_with (at_builtin; refine wpList_append_own _ rfl _ _ 33 rfl w.heap.size TS i1 (.string .empty) 1 16 Tryz.underlying33 ji jz0 jz1 jz2 rfl (by decide) _ _ _ rfl (HR.out.alloc _) ⟨wr.heap.size, 0, none⟩ 1 1 [.string s] rfl rfl HNS.out (one_str _) ?qc4 ?qc5 ?qc6 ?_)
            case qc4 => unfold maxLen; omega
            case qc5 => omega
            case qc6 => have := HB.out.size; simp; omega
            intro v3 w3 hown hgrow hnil
            have HO3 : Hid (OwnS w.heap.size (o ++ [s.data.toList]) v3 w3) := Lib.hid (OwnS.app hown)
            have HB3 : Hid (Below w.heap.size w w3) := Lib.hid ((HB.out.alloc HB.out.size _).grown hgrow (by have := HB.out.size; simp; omega) HOB.out)
            have HR3 : Hid (w3.ownsRow w.heap.size TS 1 v3 (o ++ [s.data.toList]).length ((o ++ [s.data.toList]).map encStr)) := Lib.hid HO3.out
            have HOB3 : Hid (∀ t, v3.ownBlock = some t → w.heap.size ≤ t) := Lib.hid fun t ht => (World.ownsRow.lt HR3.out t ht).1
            obtain ⟨b', off', e', hbl', y3⟩ := KS.at2 (HK.out.carry HB3.out) j hlt
            obtain ⟨q', hq1', hq2'⟩ := gs_str ls j
            have hqq : q' = q := by have := HTK.out; rw [take_snocS ls j hlt] at this; have := List.append_cancel_left this; simp at this; rw [← hq2'] at this; cases q'; cases q; simp at this; rw [this]
            cases e'
            rw [hq1', hqq] at y3
            have hol3 : (o ++ [s.data.toList]).length ≤ 5002 := by rw [List.length_append]; simp; omega
            obtain ⟨o3, ho3⟩ : ∃ x, o ++ [s.data.toList] = x := ⟨_, rfl⟩
            rw [ho3] at HR3 hol3
            have HO3E := Lib.hid ho3
            have HNC := Lib.hid (newCellS w3 q)
            clear hown hgrow hnil hq1' hq2' hqq hbl' ho3 HO3
            go_wp2_with (at_builtin; refine wpList_append_own _ rfl _ _ 33 rfl w.heap.size TS i1 (.string .empty) 1 16 Tryz.underlying33 ji jz0 jz1 jz2 rfl (by decide) _ _ _ rfl (HR3.out.alloc _) ⟨w3.heap.size, 0, none⟩ 1 1 [.string q] rfl rfl HNC.out (one_str _) ?qe4 ?qe5 ?qe6 ?_)
            case qe4 => unfold maxLen; omega
            case qe5 => omega
            case qe6 => have := HB3.out.size; simp; omega
            intro v' w4 hown hgrow hnil
            have HO4 : Hid (OwnS w.heap.size (outF (ls.take (j + 1)) s.data.toList) v' w4) := Lib.hid (by rw [HTK.out, (outF_new (by rw [HD.out]; rfl) HLQ.out).1, HOE.out, HO3E.out]; exact OwnS.app hown)
            have HD4 : Hid ((ls.take (j + 1)).all (fun x => !decide (s.data.toList < x)) = !true) := Lib.hid (by rw [HTK.out, (outF_new (by rw [HD.out]; rfl) HLQ.out).2]; rfl)
            have HB4 := Lib.hid ((HB3.out.alloc HB3.out.size _).grown hgrow (by have := HB3.out.size; simp; omega) HOB3.out)
            clear hown hgrow hnil
            go_wp2
            go_roundw
            case rel => exact ⟨v', true, j + 1, rfl, rfl, by omega, by go_num, HD4, HNI2, HO4, HB4⟩
            case measure => simp [intOf]; omega
    · have k1 : ¬ (j : Int) < (ls.length : Int) := by omega
      obtain rfl : j = ls.length := by omega
      have HTA : Hid (ls.take ls.length = ls) := Lib.hid List.take_length
      rw [HTA.out] at HOE HD HNI
      cases d with
      | true =>
        have HE : Hid (KS wr u (insF ls s.data.toList)) := Lib.hid (by rw [insF_old HNI.out (by rw [HD.out]; rfl), HOE.out]; exact HO.out.ks)
        clear HTA
        go_wp2
        go_ret
        exact ⟨_, rfl, HE.out, HB.out⟩
      | false =>
        have HE : Hid (insF ls s.data.toList = o ++ [s.data.toList]) := Lib.hid (by rw [insF_end HNI.out (by rw [HD.out]; rfl), HOE.out])
        have HNC := Lib.hid (newCellS wr s)
        clear HTA
        go_wp2_with (at_builtin; refine wpList_append_own _ rfl _ _ 33 rfl w.heap.size TS i1 (.string .empty) 1 16 Tryz.underlying33 ji jz0 jz1 jz2 rfl (by decide) _ _ _ rfl (HR.out.alloc _) ⟨wr.heap.size, 0, none⟩ 1 1 [.string s] rfl rfl HNC.out (one_str _) ?qg4 ?qg5 ?qg6 ?_)
        case qg4 => unfold maxLen; omega
        case qg5 => omega
        case qg6 => have := HB.out.size; simp; omega
        intro v' w4 hown hgrow hnil
        have HO4 : Hid (KS w4 v' (insF ls s.data.toList)) := Lib.hid (by rw [HE.out]; exact (OwnS.app hown).ks)
        have HB4 := Lib.hid ((HB.out.alloc HB.out.size _).grown hgrow (by have := HB.out.size; simp; omega) HOB.out)
        clear hown hgrow hnil
        go_wp2
        go_ret
        exact ⟨_, rfl, HO4.out, HB4.out⟩

end Go.Proofs.YtfgaihajopfmfaaGreatDoor
