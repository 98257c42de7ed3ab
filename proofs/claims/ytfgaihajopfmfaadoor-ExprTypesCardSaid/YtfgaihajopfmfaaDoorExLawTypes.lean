/-
  The walk of ExprTypes.
-/
import Derived.Test.YtfgaihajopfmfaaDoorExAwake
import Derived.Test.YtfgaihajopfmfaaDoorExTyM
import Derived.Test.YtfgaihajopfmfaaDoorExOpen
namespace Go.Proofs.YtfgaihajopfmfaaDoor
set_option linter.unusedSimpArgs false
set_option linter.unusedVariables false
open Go.RowKit

/-- The row in the middle of the changes: what lies ahead of j has its other value. -/
def MidT (l : List Bd) (j : Nat) : List Bd := (l.take j).map gT ++ l.drop j
theorem midT_len (l : List Bd) (j : Nat) : (MidT l j).length = l.length := by simp [MidT]; omega
theorem midT_at {l : List Bd} {j : Nat} (h : j < l.length) : gb (MidT l j) j = gb l j := by
  unfold MidT gb
  rw [List.getElem?_append_right (by simp; omega)]
  simp [List.length_take, Nat.min_eq_left (Nat.le_of_lt h)]
theorem midT_step {l : List Bd} {j : Nat} (h : j < l.length) : (MidT l j).set j (gT (gb l j)) = MidT l (j + 1) := by
  unfold MidT
  have hl : ((l.take j).map gT).length = j := by simp; omega
  rw [List.set_append_right _ _ (by omega), hl, Nat.sub_self, drop_consB l j h, List.set_cons_zero, List.take_add_one, List.map_append, List.append_assoc]
  congr 1
  unfold gb
  rw [List.getElem?_eq_getElem h]
  rfl

set_option maxRecDepth 100000 in
set_option maxHeartbeats 16000000 in
theorem exprTypes_walk (ex : Ex) (slx : Value) (vbl : Value) (ll : List Bd) (w : World) (hKx : KX w ex slx) (hfx : fitE ex) (hBl : KB w vbl ll) (hll : fitB ll) (hI : TabI w) :
    Calls Tryd.prog 4 #[exV ex slx, vbl] w fun e w' => e = .returned (.bool true) ∧ Below w.heap.size w w' := by
  have HB0 : Hid (Below w.heap.size w w) := Lib.hid (Below.refl _ w)
  have ZI_0 := Lib.hid hI
  obtain ⟨ax, cx, _, e1, _, _, _⟩ := KA.inv hKx
  obtain ⟨nx, e2⟩ : ∃ n, ex.es.length = n := ⟨_, rfl⟩
  rw [e2] at e1
  subst e1
  clear e2
  have Xx_0 := Lib.hid hKx
  have HFx := Lib.hid hfx
  obtain ⟨al, cl, e1, _, _, _⟩ := id hBl
  obtain ⟨nl, e2⟩ : ∃ n, ll.length = n := ⟨_, rfl⟩
  rw [e2] at e1
  subst e1
  clear e2
  have Bl_0 := Lib.hid hBl
  have HLl := Lib.hid hll
  clear hI hKx hfx hBl hll
  simp only [exV]
  obtain ⟨w1, hw1⟩ : ∃ W, w.alloc (.cells #[.int .i64 ex.k, .int .i64 ex.o, .string ex.s, .int .i64 ex.v, (.slice ax nx cx)] TX (0, 0)) = W := ⟨_, rfl⟩
  have b1 : Below w.heap.size w w1 := by rw [← hw1]; exact below_allocW w _
  have z1 : AtX w1 w.heap.size 0 ex ((.slice ax nx cx)) := by rw [← hw1]; exact boxX w ex.k ex.o ex.s ex.v _ ex.es
  have HB1 := Lib.hid (HB0.out.trans (b1.mono HB0.out.size))
  have Xx_1 := Lib.hid (KA.carry Xx_0.out b1)
  have Bl_1 := Lib.hid (KB.carry Bl_0.out b1)
  have ZI_1 := Lib.hid (TabI.below ZI_0.out b1)
  have Zx_1 := Lib.hid z1
  have HW1 := Lib.hid hw1
  clear hw1 b1 z1
  go_enter Tryd.func4, Tryd.ntmps4
  cases hg : grE ex with
  | true =>
    have hC2 := rGreat_any ex (.slice ax nx cx) w1 Xx_1.out
    simp only [exV] at hC2
    rw [hg] at hC2
    have HC2 := Lib.hid hC2
    clear hC2
    go_wp2_with fail
    rw [HW1.out]
    refine HC2.out.mono ?_
    rintro e w2 ⟨rfl, b2⟩
    have HB2 := Lib.hid (HB1.out.trans (b2.mono HB1.out.size))
    have Xx_2 := Lib.hid (KA.carry Xx_1.out b2)
    have Bl_2 := Lib.hid (KB.carry Bl_1.out b2)
    have ZI_2 := Lib.hid (TabI.below ZI_1.out b2)
    have Zx_2 := Lib.hid (AtX.later Zx_1.out b2)
    clear b2 HC2
    have hC3 := awake_any w2 ZI_2.out
    have HC3 := Lib.hid hC3
    clear hC3
    go_wp2_with fail
    refine HC3.out.mono ?_
    rintro e w3 ⟨rfl, b3⟩
    have HB3 := Lib.hid (HB2.out.trans (b3.mono HB2.out.size))
    have Xx_3 := Lib.hid (KA.carry Xx_2.out b3)
    have Bl_3 := Lib.hid (KB.carry Bl_2.out b3)
    have ZI_3 := Lib.hid (TabI.below ZI_2.out b3)
    have Zx_3 := Lib.hid (AtX.later Zx_2.out b3)
    clear b3 HC3
    go_wp2
    go_ret
    exact ⟨rfl, HB3.out⟩
  | false =>
    have hC2 := rGreat_any ex (.slice ax nx cx) w1 Xx_1.out
    simp only [exV] at hC2
    rw [hg] at hC2
    have HC2 := Lib.hid hC2
    clear hC2
    go_wp2_with fail
    rw [HW1.out]
    refine HC2.out.mono ?_
    rintro e w2 ⟨rfl, b2⟩
    have HB2 := Lib.hid (HB1.out.trans (b2.mono HB1.out.size))
    have Xx_2 := Lib.hid (KA.carry Xx_1.out b2)
    have Bl_2 := Lib.hid (KB.carry Bl_1.out b2)
    have ZI_2 := Lib.hid (TabI.below ZI_1.out b2)
    have Zx_2 := Lib.hid (AtX.later Zx_1.out b2)
    clear b2 HC2
    cases hh : gtB ll with
    | true =>
      have hC3 := rGreatB_any ll (.slice al nl cl) w2 Bl_2.out
      rw [hh] at hC3
      have HC3 := Lib.hid hC3
      clear hC3
      go_wp2_with fail
      refine HC3.out.mono ?_
      rintro e w3 ⟨rfl, b3⟩
      have HB3 := Lib.hid (HB2.out.trans (b3.mono HB2.out.size))
      have Xx_3 := Lib.hid (KA.carry Xx_2.out b3)
      have Bl_3 := Lib.hid (KB.carry Bl_2.out b3)
      have ZI_3 := Lib.hid (TabI.below ZI_2.out b3)
      have Zx_3 := Lib.hid (AtX.later Zx_2.out b3)
      clear b3 HC3
      have hC4 := awake_any w3 ZI_3.out
      have HC4 := Lib.hid hC4
      clear hC4
      go_wp2_with fail
      refine HC4.out.mono ?_
      rintro e w4 ⟨rfl, b4⟩
      have HB4 := Lib.hid (HB3.out.trans (b4.mono HB3.out.size))
      have Xx_4 := Lib.hid (KA.carry Xx_3.out b4)
      have Bl_4 := Lib.hid (KB.carry Bl_3.out b4)
      have ZI_4 := Lib.hid (TabI.below ZI_3.out b4)
      have Zx_4 := Lib.hid (AtX.later Zx_3.out b4)
      clear b4 HC4
      go_wp2
      go_ret
      exact ⟨rfl, HB4.out⟩
    | false =>
      have hC3 := rGreatB_any ll (.slice al nl cl) w2 Bl_2.out
      rw [hh] at hC3
      have HC3 := Lib.hid hC3
      clear hC3
      go_wp2_with fail
      refine HC3.out.mono ?_
      rintro e w3 ⟨rfl, b3⟩
      have HB3 := Lib.hid (HB2.out.trans (b3.mono HB2.out.size))
      have Xx_3 := Lib.hid (KA.carry Xx_2.out b3)
      have Bl_3 := Lib.hid (KB.carry Bl_2.out b3)
      have ZI_3 := Lib.hid (TabI.below ZI_2.out b3)
      have Zx_3 := Lib.hid (AtX.later Zx_2.out b3)
      clear b3 HC3
      have hlen : ll.length ≤ 70 := by
        unfold gtB at hh
        simp only [Bool.or_eq_false_iff, decide_eq_false_iff_not] at hh
        omega
      have HLEN := Lib.hid hlen
      clear hh hlen
      cases hc : ckB ll with
      | false =>
        have hce : ckBE ll = 1 := by unfold ckBE; rw [hc]; rfl
        have hC4 := rCheckB_any ll (.slice al nl cl) w3 Bl_3.out HLl.out
        rw [hce] at hC4
        have HC4 := Lib.hid hC4
        clear hC4
        go_wp2_with fail
        refine HC4.out.mono ?_
        rintro e w4 ⟨rfl, b4⟩
        have HB4 := Lib.hid (HB3.out.trans (b4.mono HB3.out.size))
        have Xx_4 := Lib.hid (KA.carry Xx_3.out b4)
        have Bl_4 := Lib.hid (KB.carry Bl_3.out b4)
        have ZI_4 := Lib.hid (TabI.below ZI_3.out b4)
        have Zx_4 := Lib.hid (AtX.later Zx_3.out b4)
        clear b4 HC4
        have hC5 := awake_any w4 ZI_4.out
        have HC5 := Lib.hid hC5
        clear hC5
        go_wp2_with fail
        refine HC5.out.mono ?_
        rintro e w5 ⟨rfl, b5⟩
        have HB5 := Lib.hid (HB4.out.trans (b5.mono HB4.out.size))
        have Xx_5 := Lib.hid (KA.carry Xx_4.out b5)
        have Bl_5 := Lib.hid (KB.carry Bl_4.out b5)
        have ZI_5 := Lib.hid (TabI.below ZI_4.out b5)
        have Zx_5 := Lib.hid (AtX.later Zx_4.out b5)
        clear b5 HC5
        go_wp2
        go_ret
        exact ⟨rfl, HB5.out⟩
      | true =>
        have hce : ckBE ll = 0 := by unfold ckBE; rw [hc]; rfl
        have hC4 := rCheckB_any ll (.slice al nl cl) w3 Bl_3.out HLl.out
        rw [hce] at hC4
        have HC4 := Lib.hid hC4
        clear hC4
        go_wp2_with fail
        refine HC4.out.mono ?_
        rintro e w4 ⟨rfl, b4⟩
        have HB4 := Lib.hid (HB3.out.trans (b4.mono HB3.out.size))
        have Xx_4 := Lib.hid (KA.carry Xx_3.out b4)
        have Bl_4 := Lib.hid (KB.carry Bl_3.out b4)
        have ZI_4 := Lib.hid (TabI.below ZI_3.out b4)
        have Zx_4 := Lib.hid (AtX.later Zx_3.out b4)
        clear b4 HC4
        obtain ⟨⟨T, X⟩, hT⟩ : ∃ q, tyF ll ex = q := ⟨_, rfl⟩
        obtain ⟨⟨V, Y⟩, hV⟩ : ∃ q, vlF ll ex = q := ⟨_, rfl⟩
        have HA := Lib.hid (types_all hc ex T X V Y hT hV)
        have HT2 := Lib.hid ((tyF_gT hc ex).trans hT)
        have HCK := Lib.hid hc
        have HVR : Hid (∀ b ∈ ll, -1099511627776 ≤ b.2.2 ∧ b.2.2 ≤ 1099511627776) := Lib.hid (fun b hb => (okB_okV (ckB_ok hc hb)).1.range)
        have hC5 := Type_any ll (.slice al nl cl) ex (.slice ax nx cx) w4 Xx_4.out Bl_4.out HFx.out HLl.out
        simp only [exV] at hC5
        rw [hT] at hC5
        have HC5 := Lib.hid hC5
        clear hC5
        obtain ⟨qx0, qx1, qx2, qx3, qx4⟩ := Zx_4.out
        simp only [Nat.zero_add] at qx1 qx2 qx3 qx4
        go_wp2_with fail
        refine HC5.out.mono ?_
        rintro e w5 ⟨rfl, b5⟩
        have HB5 := Lib.hid (HB4.out.trans (b5.mono HB4.out.size))
        have Xx_5 := Lib.hid (KA.carry Xx_4.out b5)
        have Bl_5 := Lib.hid (KB.carry Bl_4.out b5)
        have ZI_5 := Lib.hid (TabI.below ZI_4.out b5)
        have Zx_5 := Lib.hid (AtX.later Zx_4.out b5)
        clear b5 HC5 qx0 qx1 qx2 qx3 qx4
        have HT := Lib.hid hT
        have HV := Lib.hid hV
        clear hT hV hc hce hg
        have hC6 := bClone_any ll (.slice al nl cl) w5 (by have := HLEN.out; omega) Bl_5.out
        have HC6 := Lib.hid hC6
        clear hC6
        go_wp2_with fail
        refine HC6.out.mono ?_
        rintro e w6 ⟨vm, rfl, om, b6⟩
        have HB6 := Lib.hid (HB5.out.trans (b6.mono HB5.out.size))
        have Xx_6 := Lib.hid (KA.carry Xx_5.out b6)
        have Bl_6 := Lib.hid (KB.carry Bl_5.out b6)
        have ZI_6 := Lib.hid (TabI.below ZI_5.out b6)
        have Zx_6 := Lib.hid (AtX.later Zx_5.out b6)
        have HOM := Lib.hid (show w6.ownsRow w5.heap.size TB 3 vm ll.length (bsV ll) from om)
        have HBM : Hid (Below w5.heap.size w5 w6) := Lib.hid b6
        obtain ⟨am, cm, rfl, hm1, hm2⟩ := ownZ_slice om
        clear b6 HC6 om
        have hnl : nl = ll.length := by obtain ⟨_, _, e, _⟩ := Bl_6.out; injection e
        clear hnl
        go_wp2
        go_loopw [35] (fun x wr => ∃ j : Nat, j ≤ ll.length ∧ x = .int .i64 j ∧ Hid (wr.ownsRow w5.heap.size TB 3 (.slice am ll.length cm) ll.length (bsV (MidT ll j))) ∧ Hid (Below w5.heap.size w5 wr)) (fun x _ => ll.length - (intOf x).toNat)
        case atStart => exact ⟨0, Nat.zero_le _, rfl, Lib.hid (by simpa [MidT] using HOM.out), HBM⟩
        case round =>
          obtain ⟨j, hj, rfl, HOr, HBr⟩ := hrel
          by_cases hlt : j < ll.length
          · have k1 : (j : Int) < (ll.length : Int) := by omega
            obtain ⟨g, cap, e1, hg⟩ := ownZ_some HOr.out (by omega)
            injection e1 with e1 _ _
            subst e1
            have hml := midT_len ll j
            obtain ⟨q0, q1, q2⟩ := bsV_get (MidT ll j) j (by omega)
            rw [midT_at hlt] at q1 q2
            have hbl := bsV_length (MidT ll j)
            have c1 := (World.ownsRow.cellAt HOr.out (j * 3 + 1) (by omega)).trans q1
            have c2 := (World.ownsRow.cellAt HOr.out (j * 3 + 2) (by omega)).trans q2
            have f2 := World.ownsRow.frozenAt HOr.out (j * 3 + 2)
            have hvr := HVR.out _ (gb_mem hlt)
            have hst := midT_step hlt
            have hat := midT_at hlt
            obtain ⟨⟨nm, t, v⟩, hb⟩ : ∃ b, gb ll j = b := ⟨_, rfl⟩
            rw [hb] at c1 c2 hvr hst hat
            simp only [] at c1 c2 hvr
            obtain ⟨v1, v2⟩ := hvr
            obtain ⟨hOA, hGA⟩ := own_setV HOr.out j (1 - v) (by omega)
            rw [hat] at hOA
            simp only [] at hOA
            have hl2 : ((MidT ll j).set j (nm, t, 1 - v)).length = ll.length := by rw [List.length_set]; exact hml
            have hbl2 := bsV_length ((MidT ll j).set j (nm, t, 1 - v))
            obtain ⟨p0, p1, p2⟩ := bsV_get ((MidT ll j).set j (nm, t, 1 - v)) j (by omega)
            rw [gb_set (by omega), if_pos rfl] at p1 p2
            have d1 := (World.ownsRow.cellAt hOA (j * 3 + 1) (by omega)).trans p1
            have d2 := (World.ownsRow.cellAt hOA (j * 3 + 2) (by omega)).trans p2
            have g2 := World.ownsRow.frozenAt hOA (j * 3 + 2)
            have HBA := Lib.hid (HBr.out.grown hGA HBr.out.size (fun k hk => by injection hk with hk; omega))
            have hwr : IntKind.i64.wrap (1 - v) = 1 - v := by rw [IntKind.wrap_i64]; omega
            by_cases ht : t = 1
            · obtain ⟨t1, t2⟩ := ieq ht
              obtain ⟨hOB, hGB⟩ := own_setV hOA j 7 (by omega)
              rw [gb_set (by omega), if_pos rfl, List.set_set] at hOB
              simp only [] at hOB
              have hgt : gT (nm, t, v) = (nm, t, 7) := by unfold gT; rw [if_pos ht]
              rw [hgt] at hst
              rw [hst] at hOB
              have HOB := Lib.hid hOB
              have HBB := Lib.hid (HBA.out.grown hGB HBA.out.size (fun k hk => by injection hk with hk; omega))
              clear hOA hGA hOB hGB hst hat hml hbl hl2 hbl2 q0 q1 q2 p0 p1 p2 hgt ht hb
              go_wp2
              go_roundw
              case rel => exact ⟨j + 1, by omega, by go_num, HOB, HBB⟩
              case measure => simp [intOf]; omega
            · obtain ⟨t1, t2⟩ := ine ht
              have hgt : gT (nm, t, v) = (nm, t, 1 - v) := by unfold gT; rw [if_neg ht]
              rw [hgt] at hst
              rw [hst] at hOA
              have HOA := Lib.hid hOA
              clear hOA hGA hst hat hml hbl hl2 hbl2 q0 q1 q2 p0 p1 p2 hgt ht hb
              go_wp2
              go_roundw
              case rel => exact ⟨j + 1, by omega, by go_num, HOA, HBA⟩
              case measure => simp [intOf]; omega
          · have k1 : ¬ (j : Int) < (ll.length : Int) := by omega
            have hje : j = ll.length := by omega
            subst hje
            have HOE : Hid (KB wr (.slice am ll.length cm) (ll.map gT)) := Lib.hid (by
              have h : wr.ownsRow w5.heap.size TB 3 (.slice am ll.length cm) (ll.map gT).length (bsV (ll.map gT)) := by
                have h := HOr.out
                unfold MidT at h
                rw [List.take_length, List.drop_length, List.append_nil] at h
                rw [List.length_map]
                exact h
              exact OwnD.kb h)
            have HB16 := Lib.hid (HB5.out.trans (HBr.out.mono HB5.out.size))
            have Xx_16 := Lib.hid (KA.carry Xx_5.out HBr.out)
            have Bl_16 := Lib.hid (KB.carry Bl_5.out HBr.out)
            have ZI_16 := Lib.hid (TabI.below ZI_5.out HBr.out)
            have Zx_16 := Lib.hid (AtX.later Zx_5.out HBr.out)
            have HLm : Hid (fitB (ll.map gT)) := Lib.hid (fun x hx => by obtain ⟨y, hy, rfl⟩ := List.mem_map.1 hx; exact HLl.out y hy)
            clear hj hlt
            have hC17 := Type_any (ll.map gT) (.slice am ll.length cm) ex (.slice ax nx cx) wr Xx_16.out HOE.out HFx.out HLm.out
            simp only [exV] at hC17
            rw [HT2.out] at hC17
            have HC17 := Lib.hid hC17
            clear hC17
            obtain ⟨qx0, qx1, qx2, qx3, qx4⟩ := Zx_16.out
            simp only [Nat.zero_add] at qx1 qx2 qx3 qx4
            go_wp2_with fail
            refine HC17.out.mono ?_
            rintro e w17 ⟨rfl, b17⟩
            have HB17 := Lib.hid (HB16.out.trans (b17.mono HB16.out.size))
            have Xx_17 := Lib.hid (KA.carry Xx_16.out b17)
            have Bl_17 := Lib.hid (KB.carry Bl_16.out b17)
            have Bm_17 := Lib.hid (KB.carry HOE.out b17)
            have ZI_17 := Lib.hid (TabI.below ZI_16.out b17)
            have Zx_17 := Lib.hid (AtX.later Zx_16.out b17)
            clear b17 HC17 qx0 qx1 qx2 qx3 qx4
            have hC18 := Eval_any ll (.slice al nl cl) ex (.slice ax nx cx) w17 Xx_17.out Bl_17.out HFx.out HLl.out
            simp only [exV] at hC18
            rw [HV.out] at hC18
            have HC18 := Lib.hid hC18
            clear hC18
            obtain ⟨qx0, qx1, qx2, qx3, qx4⟩ := Zx_17.out
            simp only [Nat.zero_add] at qx1 qx2 qx3 qx4
            go_wp2_with fail
            refine HC18.out.mono ?_
            rintro e w18 ⟨rfl, b18⟩
            have HB18 := Lib.hid (HB17.out.trans (b18.mono HB17.out.size))
            have Xx_18 := Lib.hid (KA.carry Xx_17.out b18)
            have Bl_18 := Lib.hid (KB.carry Bl_17.out b18)
            have Bm_18 := Lib.hid (KB.carry Bm_17.out b18)
            have ZI_18 := Lib.hid (TabI.below ZI_17.out b18)
            have Zx_18 := Lib.hid (AtX.later Zx_17.out b18)
            clear b18 HC18 qx0 qx1 qx2 qx3 qx4
            obtain ⟨z1, z2, z3⟩ := HA.out
            clear HA HT HV HT2
            by_cases hX : X = 0
            · subst hX
              by_cases hY : Y = 0
              · subst hY
                rcases z3 rfl rfl with ⟨rfl, y1, y2⟩ | ⟨rfl, rfl | rfl⟩
                · clear z1 z2 z3
                  have hC19 := awake_any w18 ZI_18.out
                  have HC19 := Lib.hid hC19
                  clear hC19
                  go_wp2_with fail
                  refine HC19.out.mono ?_
                  rintro e w19 ⟨rfl, b19⟩
                  have HB19 := Lib.hid (HB18.out.trans (b19.mono HB18.out.size))
                  have Xx_19 := Lib.hid (KA.carry Xx_18.out b19)
                  have Bl_19 := Lib.hid (KB.carry Bl_18.out b19)
                  have Bm_19 := Lib.hid (KB.carry Bm_18.out b19)
                  have ZI_19 := Lib.hid (TabI.below ZI_18.out b19)
                  have Zx_19 := Lib.hid (AtX.later Zx_18.out b19)
                  clear b19 HC19
                  go_wp2
                  go_ret
                  exact ⟨rfl, HB19.out⟩
                · clear z1 z2 z3
                  have hC19 := awake_any w18 ZI_18.out
                  have HC19 := Lib.hid hC19
                  clear hC19
                  go_wp2_with fail
                  refine HC19.out.mono ?_
                  rintro e w19 ⟨rfl, b19⟩
                  have HB19 := Lib.hid (HB18.out.trans (b19.mono HB18.out.size))
                  have Xx_19 := Lib.hid (KA.carry Xx_18.out b19)
                  have Bl_19 := Lib.hid (KB.carry Bl_18.out b19)
                  have Bm_19 := Lib.hid (KB.carry Bm_18.out b19)
                  have ZI_19 := Lib.hid (TabI.below ZI_18.out b19)
                  have Zx_19 := Lib.hid (AtX.later Zx_18.out b19)
                  clear b19 HC19
                  go_wp2
                  go_ret
                  exact ⟨rfl, HB19.out⟩
                · clear z1 z2 z3
                  have hC19 := awake_any w18 ZI_18.out
                  have HC19 := Lib.hid hC19
                  clear hC19
                  go_wp2_with fail
                  refine HC19.out.mono ?_
                  rintro e w19 ⟨rfl, b19⟩
                  have HB19 := Lib.hid (HB18.out.trans (b19.mono HB18.out.size))
                  have Xx_19 := Lib.hid (KA.carry Xx_18.out b19)
                  have Bl_19 := Lib.hid (KB.carry Bl_18.out b19)
                  have Bm_19 := Lib.hid (KB.carry Bm_18.out b19)
                  have ZI_19 := Lib.hid (TabI.below ZI_18.out b19)
                  have Zx_19 := Lib.hid (AtX.later Zx_18.out b19)
                  clear b19 HC19
                  go_wp2
                  go_ret
                  exact ⟨rfl, HB19.out⟩
              · obtain ⟨rfl, hy⟩ := z2 rfl hY
                clear z1 z2 z3 hY
                rcases hy with rfl | rfl
                · skip
                  have hC19 := awake_any w18 ZI_18.out
                  have HC19 := Lib.hid hC19
                  clear hC19
                  go_wp2_with fail
                  refine HC19.out.mono ?_
                  rintro e w19 ⟨rfl, b19⟩
                  have HB19 := Lib.hid (HB18.out.trans (b19.mono HB18.out.size))
                  have Xx_19 := Lib.hid (KA.carry Xx_18.out b19)
                  have Bl_19 := Lib.hid (KB.carry Bl_18.out b19)
                  have Bm_19 := Lib.hid (KB.carry Bm_18.out b19)
                  have ZI_19 := Lib.hid (TabI.below ZI_18.out b19)
                  have Zx_19 := Lib.hid (AtX.later Zx_18.out b19)
                  clear b19 HC19
                  go_wp2
                  go_ret
                  exact ⟨rfl, HB19.out⟩
                · skip
                  have hC19 := awake_any w18 ZI_18.out
                  have HC19 := Lib.hid hC19
                  clear hC19
                  go_wp2_with fail
                  refine HC19.out.mono ?_
                  rintro e w19 ⟨rfl, b19⟩
                  have HB19 := Lib.hid (HB18.out.trans (b19.mono HB18.out.size))
                  have Xx_19 := Lib.hid (KA.carry Xx_18.out b19)
                  have Bl_19 := Lib.hid (KB.carry Bl_18.out b19)
                  have Bm_19 := Lib.hid (KB.carry Bm_18.out b19)
                  have ZI_19 := Lib.hid (TabI.below ZI_18.out b19)
                  have Zx_19 := Lib.hid (AtX.later Zx_18.out b19)
                  clear b19 HC19
                  go_wp2
                  go_ret
                  exact ⟨rfl, HB19.out⟩
            · obtain ⟨rfl, rfl, rfl⟩ := z1 hX
              obtain ⟨x1, x2⟩ := ine hX
              have q_Y := (ieq (show Y = Y from rfl)).1
              have p_Y := (ieq (show Y = Y from rfl)).2
              clear z1 z2 z3 hX
              have hC19 := awake_any w18 ZI_18.out
              have HC19 := Lib.hid hC19
              clear hC19
              go_wp2_with fail
              refine HC19.out.mono ?_
              rintro e w19 ⟨rfl, b19⟩
              have HB19 := Lib.hid (HB18.out.trans (b19.mono HB18.out.size))
              have Xx_19 := Lib.hid (KA.carry Xx_18.out b19)
              have Bl_19 := Lib.hid (KB.carry Bl_18.out b19)
              have Bm_19 := Lib.hid (KB.carry Bm_18.out b19)
              have ZI_19 := Lib.hid (TabI.below ZI_18.out b19)
              have Zx_19 := Lib.hid (AtX.later Zx_18.out b19)
              clear b19 HC19
              go_wp2
              go_ret
              exact ⟨rfl, HB19.out⟩

end Go.Proofs.YtfgaihajopfmfaaDoor
