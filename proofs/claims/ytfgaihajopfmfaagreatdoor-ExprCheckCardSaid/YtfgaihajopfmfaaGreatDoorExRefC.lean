/-
  What the reference's typeOf returns. What the reference's typeOf returns. An expression that has a type has a value, or an error of division or overflow; what values there are. Types and values of expressions that may not be valid. What the reference's number, product and Operate return. What the reference's eval returns.
-/
import Derived.Laws.EntriesVeiled
import Derived.Test.YtfgaihajopfmfaaGreatDoorExBase
import Derived.Test.YtfgaihajopfmfaaGreatDoorExRefB
/-! ### ExRType: What the reference's typeOf returns. -/
namespace Go.Proofs.YtfgaihajopfmfaaGreatDoor
set_option linter.unusedSimpArgs false
set_option linter.unusedVariables false
open Go.RowKit

/-- What is known of the world in a function whose box is at b0: what lay below, the expression, the box, the bindings. -/
structure InF (w wr : World) (b0 : Nat) (e : Ex) (sl : Value) (l : List Bd) (vb : Value) : Prop where
  bel : Below w.heap.size w wr
  kx : KX wr e sl
  at_ : AtX wr b0 0 e sl
  kb : KB wr vb l
theorem InF.step {w wr w4 : World} {b0 : Nat} {e : Ex} {sl vb : Value} {l : List Bd} (h : InF w wr b0 e sl l vb) (hb : Below wr.heap.size wr w4) : InF w w4 b0 e sl l vb :=
  ⟨h.bel.trans (hb.mono h.bel.size), h.kx.carry hb, h.at_.keep (hb.block _ h.at_.lt), h.kb.carry hb⟩
theorem prE_arg {k o : Int} {s : ByteArray} {v : Int} {es : List Ex} (h : prE (.mk k o s v es) = 0) : ∀ a ∈ es, prE a = 0 := (prE_zero.1 h).2

theorem below_allocW (W : World) (o : Obj) : Below W.heap.size W (W.alloc o) := (Below.refl _ W).alloc (Nat.le_refl _) _
/-- A row over a block that is made, and one element more. -/
theorem row_next (B : Nat) (wr : World) (v : Value) (zs : List Int) (x : Int) (hO : OwnZ B zs v wr) (hl : zs.length ≤ 9999) (hB : B ≤ wr.heap.size) :
    ∃ v' w', (Builtin.append_ #[79, 79] 79 #[v, .slice (some ⟨wr.heap.size, 0, none⟩) 1 1]).run Tryz.prog (wr.alloc (.cells #[.int .i64 x] TZ)) = .ok v' w' ∧ OwnZ B (zs ++ [x]) v' w' ∧ Below B wr w' ∧ (∀ b, b < wr.heap.size → v.ownBlock ≠ some b → w'.heap[b]? = wr.heap[b]?) ∧ wr.heap.size ≤ w'.heap.size := by
  have hO2 := hO.below (below_allocW wr (.cells #[.int .i64 x] TZ))
  obtain ⟨v', w', h1, h2, h3, h4⟩ := append_oneZ (wr.alloc (.cells #[.int .i64 x] TZ)) B v zs x wr.heap.size hO2 (World.alloc_heap_new wr _) (by omega) (by simp; omega)
  refine ⟨v', w', h1, h2, ((Below.refl B wr).alloc hB _).trans h4, fun b hb hne => ?_, Nat.le_trans (by simp) h3.size⟩
  rw [h3.block b (by simp; omega) (fun e => hne e.symm)]
  exact Below.heap_alloc _ _ _ hb
end Go.Proofs.YtfgaihajopfmfaaGreatDoor

/-! ### ExRTypeA: What the reference's typeOf returns. -/
namespace Go.Proofs.YtfgaihajopfmfaaGreatDoor
set_option linter.unusedSimpArgs false
set_option linter.unusedVariables false
open Go.RowKit

set_option maxRecDepth 100000 in
set_option maxHeartbeats 8000000 in
theorem rtypeOf_any (l : List Bd) (vb : Value) (e : Ex) : ∀ (sl : Value) (w : World), KX w e sl → KB w vb l → prE e = 0 → szE e ≤ 100 →
    Calls Tryz.prog 101 #[exV e sl, vb] w fun x w' => x = .returned (.tuple #[.int .i64 (tyE l e).1, .int .i64 (tyE l e).2]) ∧ Below w.heap.size w w' := by
  induction e using Ex.ind with
  | h k o s v es ih =>
  intro sl w hK hB hP hS
  obtain ⟨a, c, sf, rfl, h1, h2, hc⟩ := KA.inv hK
  have h1 : es.length ≤ c := h1
  have HIH := Lib.hid ih
  obtain ⟨w1, hw1⟩ : ∃ W, w.alloc (.cells #[.int .i64 k, .int .i64 o, .string s, .int .i64 v, .slice a es.length c] TX) = W := ⟨_, rfl⟩
  have hb1 : Below w.heap.size w w1 := by rw [← hw1]; exact below_allocW w _
  have HX1 : Hid (AtX w1 w.heap.size 0 (.mk k o s v es) (.slice a es.length c)) := Lib.hid (by rw [← hw1]; exact boxX w k o s v (.slice a es.length c) es)
  have HK1 : Hid (KX w1 (.mk k o s v es) (.slice a es.length c)) := Lib.hid (hK.carry hb1)
  have HKB1 : Hid (KB w1 vb l) := Lib.hid (hB.carry hb1)
  have HB1 := Lib.hid hb1
  have HW := Lib.hid hw1
  have HSZ1 : Hid (w1.heap.size = w.heap.size + 1) := Lib.hid (by rw [← hw1]; simp)
  have HP := Lib.hid (prE_arg hP)
  have HP0 := Lib.hid (prE_zero.1 hP).1
  have HS : Hid (szL es ≤ 100) := Lib.hid (by simp only [szE] at hS; omega)
  have HLen : Hid (es.length ≤ 100) := Lib.hid (Nat.le_trans (szL_len es) HS.out)
  simp only [exV, Ex.k, Ex.o, Ex.s, Ex.v, Ex.es] at *
  clear hc ih hK hB hP hS hb1 hw1
  go_enter Tryz.func101, Tryz.ntmps101
  go_wp2
  rw [HW.out]
  go_loopw [6, 7] (fun y x wr => ∃ (j : Nat) (zs : List Int), j ≤ es.length ∧ x = .int .i64 j ∧ Hid (cbL (lfT l) opT (es.take j) = (zs, 0)) ∧ Hid (zs.length = j) ∧ Hid (OwnZ w1.heap.size zs y wr) ∧ Hid (Below w1.heap.size w1 wr)) (fun _ x _ => es.length - (intOf x).toNat)
  case atStart => exact ⟨0, [], Nat.zero_le _, rfl, Lib.hid (by simp [cbL]), Lib.hid rfl, Lib.hid (by rw [← HSZ1.out]; exact made_rowZ (World.alloc_heap_new w1 _) (Nat.le_refl _)), Lib.hid (below_allocW w1 _)⟩
  case round =>
    obtain ⟨j, zs, hj, rfl, HI, HZ, HO, HB⟩ := hrel
    have HXr := Lib.hid (HX1.out.keep (HB.out.block _ HX1.out.lt))
    have HKr := Lib.hid (HK1.out.carry HB.out)
    have HKBr := Lib.hid (HKB1.out.carry HB.out)
    have hx := HXr.out.2.2.2.2
    by_cases hlt : j < es.length
    · have k1 : (j : Int) < (es.length : Int) := by omega
      obtain ⟨sr, hcr⟩ := KA.at_ (show KA anyB wr es _ from HKr.out)
      obtain ⟨hKj, b, off, rfl, _, hbl, y0, y1, y2, y3, y4⟩ := hcr j hlt
      have HIN := Lib.hid (HIH.out (ga es j) (ga_mem hlt) (sr j) wr hKj HKBr.out (HP.out _ (ga_mem hlt)) (Nat.le_trans (szE_arg (ga_mem hlt)) HS.out))
      have HST := Lib.hid (fun x h h0 => cbL_stop (lfT l) opT (x := x) HI.out hlt h h0)
      have HNX := Lib.hid (fun h => cbL_next (lfT l) opT HI.out hlt h)
      obtain ⟨p, hp⟩ : ∃ p, tyE l (ga es j) = p := ⟨_, rfl⟩
      have hp' : cbE (lfT l) opT (ga es j) = p := hp
      rw [hp'] at HST HNX
      rw [hp] at HIN
      obtain ⟨x, q⟩ := p
      simp only [] at HST HNX HIN
      clear hKj hcr hp hp'
      go_wp2_with fail
      refine HIN.out.mono ?_
      rintro x' w4 ⟨rfl, b4⟩
      have HX4 := Lib.hid (HXr.out.keep (b4.block _ HXr.out.lt))
      have HO4 := Lib.hid (HO.out.below b4)
      have HB4 := Lib.hid (HB.out.trans (b4.mono HB.out.size))
      clear b4 hx
      by_cases hq : q = 0
      · subst hq
        obtain ⟨v', w5, hr, ho, hb, _, hsz⟩ := row_next w1.heap.size w4 _ zs x HO4.out (by have := HLen.out; have := HZ.out; omega) HB4.out.size
        have HO5 := Lib.hid ho
        have HB5 := Lib.hid (HB4.out.trans hb)
        have HI5 := Lib.hid (HNX.out rfl)
        have HZ5 : Hid ((zs ++ [x]).length = j + 1) := Lib.hid (by rw [List.length_append, HZ.out]; rfl)
        clear ho hb hsz
        go_wp2_with (at_builtin; refine append_by_run _ rfl _ _ 79 rfl _ _ rfl rfl _ _ hr ?_)
        clear hr
        go_wp2
        go_roundw
        case rel => exact ⟨j + 1, zs ++ [x], by omega, by go_num, HI5, HZ5, HO5, HB5⟩
        case measure => simp [intOf]; omega
      · obtain ⟨q1, q2⟩ := ine hq
        have HR : Hid (tyE l (.mk k o s v es) = (0, q)) := Lib.hid (by
          unfold tyE
          rw [cbE_mk, HST.out q rfl hq]
          simp [hq])
        clear hq
        go_wp2
        go_ret2
        exact ⟨by rw [HR.out]; rfl, HB1.out.trans (HB4.out.mono HB1.out.size)⟩
    · have k1 : ¬ (j : Int) < (es.length : Int) := by omega
      have hje : j = es.length := by omega
      have HI2 : Hid (cbL (lfT l) opT es = (zs, 0)) := Lib.hid (by have := HI.out; rwa [hje, List.take_length] at this)
      have HZ2 : Hid (zs.length = es.length) := Lib.hid (by rw [HZ.out, hje])
      have HE : Hid (tyE l (.mk k o s v es) = if es.length = 0 then lfT l k s v else opT o zs) := Lib.hid (by unfold tyE; rw [cbE_mk, HI2.out]; simp)
      obtain ⟨x0, x1, x2, x3, x4⟩ := HXr.out
      simp only [Ex.k, Ex.o, Ex.s, Ex.v, Ex.es] at x0 x1 x2 x3 x4
      clear HIH HI hje
      have HBo : Hid (Below w.heap.size w wr) := Lib.hid (HB1.out.trans (HB.out.mono HB1.out.size))
      rcases prP_zero.1 HP0.out with ⟨rfl, rfl, rfl, hv0, hv1, hn⟩ | ⟨rfl, rfl, hnm, rfl, hn⟩ | ⟨rfl, ho, rfl, rfl, hn⟩ | ⟨rfl, ho1, ho2, rfl, rfl, hn⟩
      · have HR : Hid (tyE l (.mk 1 0 .empty v es) = (1, 0)) := Lib.hid (by rw [HE.out, if_pos hn]; rfl)
        clear hv0 hv1 hn
        go_wp2
        go_ret2
        exact ⟨by rw [HR.out]; rfl, HBo.out⟩
      · have HF := Lib.hid (rfind_any l vb s wr HKBr.out)
        have HT : Hid (tyE l (.mk 2 0 s 0 es) = lfT l 2 s 0) := Lib.hid (by rw [HE.out, if_pos hn])
        simp only [bdA] at HF
        clear hn hnm
        cases hfd : fdB l s with
        | none =>
          have HR : Hid (tyE l (.mk 2 0 s 0 es) = (0, 7)) := Lib.hid (by rw [HT.out]; simp [lfT, hfd])
          have hD : fdD l s = zeroB := by unfold fdD; rw [hfd]; rfl
          rw [hfd, hD] at HF
          simp only [zeroB, Option.isSome_none] at HF
          clear hfd hD
          go_wp2_with fail
          refine HF.out.mono ?_
          rintro x w4 ⟨rfl, b4⟩
          have HB4 : Hid (Below w.heap.size w (w4.alloc (.cells #[.string .empty, .int .i64 0, .int .i64 0] TB))) := Lib.hid ((HBo.out.trans (b4.mono HBo.out.size)).alloc (Nat.le_trans HBo.out.size b4.size) _)
          clear b4
          go_wp2
          go_ret2
          exact ⟨by rw [HR.out]; rfl, HB4.out⟩
        | some b =>
          have HR : Hid (tyE l (.mk 2 0 s 0 es) = (b.2.1, 0)) := Lib.hid (by rw [HT.out]; simp [lfT, hfd])
          have hD : fdD l s = b := by unfold fdD; rw [hfd]; rfl
          rw [hfd, hD] at HF
          simp only [Option.isSome_some] at HF
          clear hfd hD
          go_wp2_with fail
          refine HF.out.mono ?_
          rintro x w4 ⟨rfl, b4⟩
          have HB4 : Hid (Below w.heap.size w (w4.alloc (.cells #[.string b.1, .int .i64 b.2.1, .int .i64 b.2.2] TB))) := Lib.hid ((HBo.out.trans (b4.mono HBo.out.size)).alloc (Nat.le_trans HBo.out.size b4.size) _)
          clear b4
          go_wp2
          go_ret2
          exact ⟨by rw [HR.out]; rfl, HB4.out⟩
      · skip
        have hT : tyE l (.mk 3 o .empty 0 es) = opT o zs := by rw [HE.out, if_neg (by omega)]
        have HT : Hid (tyE l (.mk 3 o .empty 0 es) = opT o zs) := Lib.hid hT
        have hzl : zs.length = 1 := by rw [HZ2.out, hn]
        have HNE : Hid (zs ≠ []) := Lib.hid (fun h => by rw [h] at hzl; cases hzl)
        have zp : (0 : Int) < (zs.length : Int) := by omega
        have zl : (zs.length : Int) ≤ 2 := by omega
        obtain ⟨g, cap, rfl, hgB⟩ := ownZ_some (show wr.ownsRow w1.heap.size TZ 1 _ zs.length (intV zs) from HO.out) (by omega)
        have HC : Hid (∀ j, j < zs.length → wr.cell? ⟨g, j, none⟩ = some (.int .i64 (gz zs j))) := Lib.hid (fun j hj => by
          have := World.ownsRow.cellAt (show wr.ownsRow w1.heap.size TZ 1 _ zs.length (intV zs) from HO.out) j (by omega)
          rw [this, intV_get zs hj])
        have hc0 := HC.out 0 (by omega)
        clear hT hzl hn hgB
        obtain ⟨wo, hwo⟩ : ∃ W, W = wr := ⟨_, rfl⟩
        subst hwo
        rcases ho with rfl | rfl
        · skip
          have HR : Hid (tyE l (.mk 3 1 .empty 0 es) = if zs.all (fun t => decide (t = 1)) = true then (1, 0) else (0, 15)) := Lib.hid (by rw [HT.out, opT_wt 1 zs HNE.out]; simp [wtO, gvO])
          go_wp2
          go_loopw [14] (fun x wq => ∃ p : Nat, p ≤ zs.length ∧ x = .int .i64 p ∧ Hid (∀ q, q < p → gz zs q = 1) ∧ wo = wq) (fun x _ => zs.length - (intOf x).toNat)
          case atStart => exact ⟨0, Nat.zero_le _, rfl, Lib.hid (fun q h => absurd h (Nat.not_lt_zero _)), rfl⟩
          case round =>
            obtain ⟨p, hp, rfl, HA, hw⟩ := hrel
            have hw := hw.symm
            subst hw
            by_cases hlt : p < zs.length
            · have k1 : (p : Int) < (zs.length : Int) := by omega
              have hcp := HC.out p hlt
              by_cases hq : gz zs p = 1
              · have HA2 : Hid (∀ q, q < p + 1 → gz zs q = 1) := Lib.hid (fun q h => by
                  by_cases e : q = p
                  · rw [e, hq]
                  · exact HA.out q (by omega))
                obtain ⟨q1, q2⟩ := ieq hq
                clear hq
                go_wp2
                go_roundw
                case rel => exact ⟨p + 1, by omega, by go_num, HA2, by trivial⟩
                case measure => simp [intOf]; omega
              · obtain ⟨q1, q2⟩ := ine hq
                have HR2 : Hid (tyE l (.mk 3 1 .empty 0 es) = (0, 15)) := Lib.hid (by rw [HR.out, if_neg (fun h => hq (all_wt.1 h p hlt))])
                clear hq
                go_wp2
                go_ret2
                exact ⟨by rw [HR2.out]; rfl, HBo.out⟩
            · have k1 : ¬ (p : Int) < (zs.length : Int) := by omega
              have HR2 : Hid (tyE l (.mk 3 1 .empty 0 es) = (1, 0)) := Lib.hid (by rw [HR.out, if_pos (all_wt.2 (fun q h => HA.out q (by omega)))])
              go_wp2
              go_ret2
              exact ⟨by rw [HR2.out]; rfl, HBo.out⟩
        · skip
          have HR : Hid (tyE l (.mk 3 2 .empty 0 es) = if zs.all (fun t => decide (t = 2)) = true then (2, 0) else (0, 15)) := Lib.hid (by rw [HT.out, opT_wt 2 zs HNE.out]; simp [wtO, gvO])
          go_wp2
          go_loopw [14] (fun x wq => ∃ p : Nat, p ≤ zs.length ∧ x = .int .i64 p ∧ Hid (∀ q, q < p → gz zs q = 2) ∧ wo = wq) (fun x _ => zs.length - (intOf x).toNat)
          case atStart => exact ⟨0, Nat.zero_le _, rfl, Lib.hid (fun q h => absurd h (Nat.not_lt_zero _)), rfl⟩
          case round =>
            obtain ⟨p, hp, rfl, HA, hw⟩ := hrel
            have hw := hw.symm
            subst hw
            by_cases hlt : p < zs.length
            · have k1 : (p : Int) < (zs.length : Int) := by omega
              have hcp := HC.out p hlt
              by_cases hq : gz zs p = 2
              · have HA2 : Hid (∀ q, q < p + 1 → gz zs q = 2) := Lib.hid (fun q h => by
                  by_cases e : q = p
                  · rw [e, hq]
                  · exact HA.out q (by omega))
                obtain ⟨q1, q2⟩ := ieq hq
                clear hq
                go_wp2
                go_roundw
                case rel => exact ⟨p + 1, by omega, by go_num, HA2, by trivial⟩
                case measure => simp [intOf]; omega
              · obtain ⟨q1, q2⟩ := ine hq
                have HR2 : Hid (tyE l (.mk 3 2 .empty 0 es) = (0, 15)) := Lib.hid (by rw [HR.out, if_neg (fun h => hq (all_wt.1 h p hlt))])
                clear hq
                go_wp2
                go_ret2
                exact ⟨by rw [HR2.out]; rfl, HBo.out⟩
            · have k1 : ¬ (p : Int) < (zs.length : Int) := by omega
              have HR2 : Hid (tyE l (.mk 3 2 .empty 0 es) = (2, 0)) := Lib.hid (by rw [HR.out, if_pos (all_wt.2 (fun q h => HA.out q (by omega)))])
              go_wp2
              go_ret2
              exact ⟨by rw [HR2.out]; rfl, HBo.out⟩
      · skip
        have hT : tyE l (.mk 4 o .empty 0 es) = opT o zs := by rw [HE.out, if_neg (by omega)]
        have HT : Hid (tyE l (.mk 4 o .empty 0 es) = opT o zs) := Lib.hid hT
        have hzl : zs.length = 2 := by rw [HZ2.out, hn]
        have HNE : Hid (zs ≠ []) := Lib.hid (fun h => by rw [h] at hzl; cases hzl)
        have zp : (0 : Int) < (zs.length : Int) := by omega
        have zl : (zs.length : Int) ≤ 2 := by omega
        obtain ⟨g, cap, rfl, hgB⟩ := ownZ_some (show wr.ownsRow w1.heap.size TZ 1 _ zs.length (intV zs) from HO.out) (by omega)
        have HC : Hid (∀ j, j < zs.length → wr.cell? ⟨g, j, none⟩ = some (.int .i64 (gz zs j))) := Lib.hid (fun j hj => by
          have := World.ownsRow.cellAt (show wr.ownsRow w1.heap.size TZ 1 _ zs.length (intV zs) from HO.out) j (by omega)
          rw [this, intV_get zs hj])
        have hc0 := HC.out 0 (by omega)
        clear hT hzl hn hgB
        obtain ⟨wo, hwo⟩ : ∃ W, W = wr := ⟨_, rfl⟩
        subst hwo
        have hcl : o < 8 ∨ o = 8 ∨ o = 9 ∨ (10 ≤ o ∧ o < 14) ∨ o = 14 ∨ o = 15 := by omega
        rcases hcl with hcl | rfl | rfl | ⟨hc1, hc2⟩ | rfl | rfl
        · skip
          have e1 : ¬ o = 2 := by omega
          have e2 : ¬ o = 14 := by omega
          have e3 : ¬ o = 15 := by omega
          have e4 : ¬ o = 8 := by omega
          have e5 : ¬ o = 9 := by omega
          have e6 : ¬ 8 ≤ o := by omega
          have HR : Hid (tyE l (.mk 4 o .empty 0 es) = if zs.all (fun t => decide (t = 1)) = true then (1, 0) else (0, 15)) := Lib.hid (by rw [HT.out, opT_wt o zs HNE.out]; simp [wtO, gvO, e1, e2, e3, e4, e5, e6])
          obtain ⟨n2a, n2b⟩ := ine (show ¬ o = 2 by omega)
          obtain ⟨n14a, n14b⟩ := ine (show ¬ o = 14 by omega)
          obtain ⟨n15a, n15b⟩ := ine (show ¬ o = 15 by omega)
          obtain ⟨n8a, n8b⟩ := ine (show ¬ o = 8 by omega)
          obtain ⟨n9a, n9b⟩ := ine (show ¬ o = 9 by omega)
          clear e1 e2 e3 e4 e5
          go_wp2
          go_loopw [14] (fun x wq => ∃ p : Nat, p ≤ zs.length ∧ x = .int .i64 p ∧ Hid (∀ q, q < p → gz zs q = 1) ∧ wo = wq) (fun x _ => zs.length - (intOf x).toNat)
          case atStart => exact ⟨0, Nat.zero_le _, rfl, Lib.hid (fun q h => absurd h (Nat.not_lt_zero _)), rfl⟩
          case round =>
            obtain ⟨p, hp, rfl, HA, hw⟩ := hrel
            have hw := hw.symm
            subst hw
            by_cases hlt : p < zs.length
            · have k1 : (p : Int) < (zs.length : Int) := by omega
              have hcp := HC.out p hlt
              by_cases hq : gz zs p = 1
              · have HA2 : Hid (∀ q, q < p + 1 → gz zs q = 1) := Lib.hid (fun q h => by
                  by_cases e : q = p
                  · rw [e, hq]
                  · exact HA.out q (by omega))
                obtain ⟨q1, q2⟩ := ieq hq
                clear hq
                go_wp2
                go_roundw
                case rel => exact ⟨p + 1, by omega, by go_num, HA2, by trivial⟩
                case measure => simp [intOf]; omega
              · obtain ⟨q1, q2⟩ := ine hq
                have HR2 : Hid (tyE l (.mk 4 o .empty 0 es) = (0, 15)) := Lib.hid (by rw [HR.out, if_neg (fun h => hq (all_wt.1 h p hlt))])
                clear hq
                go_wp2
                go_ret2
                exact ⟨by rw [HR2.out]; rfl, HBo.out⟩
            · have k1 : ¬ (p : Int) < (zs.length : Int) := by omega
              have HR2 : Hid (tyE l (.mk 4 o .empty 0 es) = (1, 0)) := Lib.hid (by rw [HR.out, if_pos (all_wt.2 (fun q h => HA.out q (by omega)))])
              go_wp2
              go_ret2
              exact ⟨by rw [HR2.out]; rfl, HBo.out⟩
        · skip
          have hh : zs.head?.getD 0 = gz zs 0 := by cases zs <;> rfl
          have HR : Hid (tyE l (.mk 4 8 .empty 0 es) = if zs.all (fun t => decide (t = gz zs 0)) = true then (2, 0) else (0, 15)) := Lib.hid (by rw [HT.out, opT_wt 8 zs HNE.out]; simp [wtO, gvO, hh])
          go_wp2
          go_loopw [14] (fun x wq => ∃ p : Nat, p ≤ zs.length ∧ x = .int .i64 p ∧ Hid (∀ q, q < p → gz zs q = gz zs 0) ∧ wo = wq) (fun x _ => zs.length - (intOf x).toNat)
          case atStart => exact ⟨0, Nat.zero_le _, rfl, Lib.hid (fun q h => absurd h (Nat.not_lt_zero _)), rfl⟩
          case round =>
            obtain ⟨p, hp, rfl, HA, hw⟩ := hrel
            have hw := hw.symm
            subst hw
            by_cases hlt : p < zs.length
            · have k1 : (p : Int) < (zs.length : Int) := by omega
              have hcp := HC.out p hlt
              by_cases hq : gz zs p = gz zs 0
              · have HA2 : Hid (∀ q, q < p + 1 → gz zs q = gz zs 0) := Lib.hid (fun q h => by
                  by_cases e : q = p
                  · rw [e, hq]
                  · exact HA.out q (by omega))
                obtain ⟨q1, q2⟩ := ieq hq
                clear hq
                go_wp2
                go_roundw
                case rel => exact ⟨p + 1, by omega, by go_num, HA2, by trivial⟩
                case measure => simp [intOf]; omega
              · obtain ⟨q1, q2⟩ := ine hq
                have HR2 : Hid (tyE l (.mk 4 8 .empty 0 es) = (0, 15)) := Lib.hid (by rw [HR.out, if_neg (fun h => hq (all_wt.1 h p hlt))])
                clear hq
                go_wp2
                go_ret2
                exact ⟨by rw [HR2.out]; rfl, HBo.out⟩
            · have k1 : ¬ (p : Int) < (zs.length : Int) := by omega
              have HR2 : Hid (tyE l (.mk 4 8 .empty 0 es) = (2, 0)) := Lib.hid (by rw [HR.out, if_pos (all_wt.2 (fun q h => HA.out q (by omega)))])
              go_wp2
              go_ret2
              exact ⟨by rw [HR2.out]; rfl, HBo.out⟩
        · skip
          have hh : zs.head?.getD 0 = gz zs 0 := by cases zs <;> rfl
          have HR : Hid (tyE l (.mk 4 9 .empty 0 es) = if zs.all (fun t => decide (t = gz zs 0)) = true then (2, 0) else (0, 15)) := Lib.hid (by rw [HT.out, opT_wt 9 zs HNE.out]; simp [wtO, gvO, hh])
          go_wp2
          go_loopw [14] (fun x wq => ∃ p : Nat, p ≤ zs.length ∧ x = .int .i64 p ∧ Hid (∀ q, q < p → gz zs q = gz zs 0) ∧ wo = wq) (fun x _ => zs.length - (intOf x).toNat)
          case atStart => exact ⟨0, Nat.zero_le _, rfl, Lib.hid (fun q h => absurd h (Nat.not_lt_zero _)), rfl⟩
          case round =>
            obtain ⟨p, hp, rfl, HA, hw⟩ := hrel
            have hw := hw.symm
            subst hw
            by_cases hlt : p < zs.length
            · have k1 : (p : Int) < (zs.length : Int) := by omega
              have hcp := HC.out p hlt
              by_cases hq : gz zs p = gz zs 0
              · have HA2 : Hid (∀ q, q < p + 1 → gz zs q = gz zs 0) := Lib.hid (fun q h => by
                  by_cases e : q = p
                  · rw [e, hq]
                  · exact HA.out q (by omega))
                obtain ⟨q1, q2⟩ := ieq hq
                clear hq
                go_wp2
                go_roundw
                case rel => exact ⟨p + 1, by omega, by go_num, HA2, by trivial⟩
                case measure => simp [intOf]; omega
              · obtain ⟨q1, q2⟩ := ine hq
                have HR2 : Hid (tyE l (.mk 4 9 .empty 0 es) = (0, 15)) := Lib.hid (by rw [HR.out, if_neg (fun h => hq (all_wt.1 h p hlt))])
                clear hq
                go_wp2
                go_ret2
                exact ⟨by rw [HR2.out]; rfl, HBo.out⟩
            · have k1 : ¬ (p : Int) < (zs.length : Int) := by omega
              have HR2 : Hid (tyE l (.mk 4 9 .empty 0 es) = (2, 0)) := Lib.hid (by rw [HR.out, if_pos (all_wt.2 (fun q h => HA.out q (by omega)))])
              go_wp2
              go_ret2
              exact ⟨by rw [HR2.out]; rfl, HBo.out⟩
        · skip
          have e1 : ¬ o = 2 := by omega
          have e2 : ¬ o = 14 := by omega
          have e3 : ¬ o = 15 := by omega
          have e4 : ¬ o = 8 := by omega
          have e5 : ¬ o = 9 := by omega
          have e6 : 8 ≤ o := by omega
          have HR : Hid (tyE l (.mk 4 o .empty 0 es) = if zs.all (fun t => decide (t = 1)) = true then (2, 0) else (0, 15)) := Lib.hid (by rw [HT.out, opT_wt o zs HNE.out]; simp [wtO, gvO, e1, e2, e3, e4, e5, e6])
          obtain ⟨n2a, n2b⟩ := ine (show ¬ o = 2 by omega)
          obtain ⟨n14a, n14b⟩ := ine (show ¬ o = 14 by omega)
          obtain ⟨n15a, n15b⟩ := ine (show ¬ o = 15 by omega)
          obtain ⟨n8a, n8b⟩ := ine (show ¬ o = 8 by omega)
          obtain ⟨n9a, n9b⟩ := ine (show ¬ o = 9 by omega)
          clear e1 e2 e3 e4 e5
          go_wp2
          go_loopw [14] (fun x wq => ∃ p : Nat, p ≤ zs.length ∧ x = .int .i64 p ∧ Hid (∀ q, q < p → gz zs q = 1) ∧ wo = wq) (fun x _ => zs.length - (intOf x).toNat)
          case atStart => exact ⟨0, Nat.zero_le _, rfl, Lib.hid (fun q h => absurd h (Nat.not_lt_zero _)), rfl⟩
          case round =>
            obtain ⟨p, hp, rfl, HA, hw⟩ := hrel
            have hw := hw.symm
            subst hw
            by_cases hlt : p < zs.length
            · have k1 : (p : Int) < (zs.length : Int) := by omega
              have hcp := HC.out p hlt
              by_cases hq : gz zs p = 1
              · have HA2 : Hid (∀ q, q < p + 1 → gz zs q = 1) := Lib.hid (fun q h => by
                  by_cases e : q = p
                  · rw [e, hq]
                  · exact HA.out q (by omega))
                obtain ⟨q1, q2⟩ := ieq hq
                clear hq
                go_wp2
                go_roundw
                case rel => exact ⟨p + 1, by omega, by go_num, HA2, by trivial⟩
                case measure => simp [intOf]; omega
              · obtain ⟨q1, q2⟩ := ine hq
                have HR2 : Hid (tyE l (.mk 4 o .empty 0 es) = (0, 15)) := Lib.hid (by rw [HR.out, if_neg (fun h => hq (all_wt.1 h p hlt))])
                clear hq
                go_wp2
                go_ret2
                exact ⟨by rw [HR2.out]; rfl, HBo.out⟩
            · have k1 : ¬ (p : Int) < (zs.length : Int) := by omega
              have HR2 : Hid (tyE l (.mk 4 o .empty 0 es) = (2, 0)) := Lib.hid (by rw [HR.out, if_pos (all_wt.2 (fun q h => HA.out q (by omega)))])
              go_wp2
              go_ret2
              exact ⟨by rw [HR2.out]; rfl, HBo.out⟩
        · skip
          have HR : Hid (tyE l (.mk 4 14 .empty 0 es) = if zs.all (fun t => decide (t = 2)) = true then (2, 0) else (0, 15)) := Lib.hid (by rw [HT.out, opT_wt 14 zs HNE.out]; simp [wtO, gvO])
          go_wp2
          go_loopw [14] (fun x wq => ∃ p : Nat, p ≤ zs.length ∧ x = .int .i64 p ∧ Hid (∀ q, q < p → gz zs q = 2) ∧ wo = wq) (fun x _ => zs.length - (intOf x).toNat)
          case atStart => exact ⟨0, Nat.zero_le _, rfl, Lib.hid (fun q h => absurd h (Nat.not_lt_zero _)), rfl⟩
          case round =>
            obtain ⟨p, hp, rfl, HA, hw⟩ := hrel
            have hw := hw.symm
            subst hw
            by_cases hlt : p < zs.length
            · have k1 : (p : Int) < (zs.length : Int) := by omega
              have hcp := HC.out p hlt
              by_cases hq : gz zs p = 2
              · have HA2 : Hid (∀ q, q < p + 1 → gz zs q = 2) := Lib.hid (fun q h => by
                  by_cases e : q = p
                  · rw [e, hq]
                  · exact HA.out q (by omega))
                obtain ⟨q1, q2⟩ := ieq hq
                clear hq
                go_wp2
                go_roundw
                case rel => exact ⟨p + 1, by omega, by go_num, HA2, by trivial⟩
                case measure => simp [intOf]; omega
              · obtain ⟨q1, q2⟩ := ine hq
                have HR2 : Hid (tyE l (.mk 4 14 .empty 0 es) = (0, 15)) := Lib.hid (by rw [HR.out, if_neg (fun h => hq (all_wt.1 h p hlt))])
                clear hq
                go_wp2
                go_ret2
                exact ⟨by rw [HR2.out]; rfl, HBo.out⟩
            · have k1 : ¬ (p : Int) < (zs.length : Int) := by omega
              have HR2 : Hid (tyE l (.mk 4 14 .empty 0 es) = (2, 0)) := Lib.hid (by rw [HR.out, if_pos (all_wt.2 (fun q h => HA.out q (by omega)))])
              go_wp2
              go_ret2
              exact ⟨by rw [HR2.out]; rfl, HBo.out⟩
        · skip
          have HR : Hid (tyE l (.mk 4 15 .empty 0 es) = if zs.all (fun t => decide (t = 2)) = true then (2, 0) else (0, 15)) := Lib.hid (by rw [HT.out, opT_wt 15 zs HNE.out]; simp [wtO, gvO])
          go_wp2
          go_loopw [14] (fun x wq => ∃ p : Nat, p ≤ zs.length ∧ x = .int .i64 p ∧ Hid (∀ q, q < p → gz zs q = 2) ∧ wo = wq) (fun x _ => zs.length - (intOf x).toNat)
          case atStart => exact ⟨0, Nat.zero_le _, rfl, Lib.hid (fun q h => absurd h (Nat.not_lt_zero _)), rfl⟩
          case round =>
            obtain ⟨p, hp, rfl, HA, hw⟩ := hrel
            have hw := hw.symm
            subst hw
            by_cases hlt : p < zs.length
            · have k1 : (p : Int) < (zs.length : Int) := by omega
              have hcp := HC.out p hlt
              by_cases hq : gz zs p = 2
              · have HA2 : Hid (∀ q, q < p + 1 → gz zs q = 2) := Lib.hid (fun q h => by
                  by_cases e : q = p
                  · rw [e, hq]
                  · exact HA.out q (by omega))
                obtain ⟨q1, q2⟩ := ieq hq
                clear hq
                go_wp2
                go_roundw
                case rel => exact ⟨p + 1, by omega, by go_num, HA2, by trivial⟩
                case measure => simp [intOf]; omega
              · obtain ⟨q1, q2⟩ := ine hq
                have HR2 : Hid (tyE l (.mk 4 15 .empty 0 es) = (0, 15)) := Lib.hid (by rw [HR.out, if_neg (fun h => hq (all_wt.1 h p hlt))])
                clear hq
                go_wp2
                go_ret2
                exact ⟨by rw [HR2.out]; rfl, HBo.out⟩
            · have k1 : ¬ (p : Int) < (zs.length : Int) := by omega
              have HR2 : Hid (tyE l (.mk 4 15 .empty 0 es) = (2, 0)) := Lib.hid (by rw [HR.out, if_pos (all_wt.2 (fun q h => HA.out q (by omega)))])
              go_wp2
              go_ret2
              exact ⟨by rw [HR2.out]; rfl, HBo.out⟩

end Go.Proofs.YtfgaihajopfmfaaGreatDoor

/-! ### ExSound: An expression that has a type has a value, or an error of division or overflow; what values there are. -/
namespace Go.Proofs.YtfgaihajopfmfaaGreatDoor
set_option linter.unusedSimpArgs false
set_option linter.unusedVariables false

def okV (t v : Int) : Prop := (t = 1 ∧ -1099511627776 ≤ v ∧ v ≤ 1099511627776) ∨ (t = 2 ∧ (v = 0 ∨ v = 1))
theorem okV.range {t v : Int} (h : okV t v) : -1099511627776 ≤ v ∧ v ≤ 1099511627776 := by unfold okV at h; omega
def okVs (ts vs : List Int) : Prop := ts.length = vs.length ∧ ∀ i, i < ts.length → okV (gz ts i) (gz vs i)
theorem okVs_nil : okVs [] [] := ⟨rfl, fun i h => by simp at h⟩
theorem okVs_cons {t v : Int} {ts vs : List Int} (h : okV t v) (h2 : okVs ts vs) : okVs (t :: ts) (v :: vs) := by
  refine ⟨by simp [h2.1], fun i hi => ?_⟩
  cases i with
  | zero => exact h
  | succ i => exact h2.2 i (by simpa using hi)
theorem fdB_mem {l : List Bd} {s : ByteArray} {b : Bd} (h : fdB l s = some b) : b ∈ l ∧ b.1 = s := by
  induction l with
  | nil => cases h
  | cons x r ih =>
    simp only [fdB] at h
    by_cases hx : x.1 = s
    · rw [if_pos hx] at h
      injection h with h
      subst h
      exact ⟨List.mem_cons_self .., hx⟩
    · rw [if_neg hx] at h
      exact ⟨List.mem_cons_of_mem _ (ih h).1, (ih h).2⟩
theorem ckB_ok {l : List Bd} (h : ckB l = true) {b : Bd} (hb : b ∈ l) : okB b = true := by
  unfold ckB at h
  rw [Bool.and_eq_true] at h
  obtain ⟨j, hj, rfl⟩ := List.mem_iff_getElem.1 hb
  have := allP_iff.1 h.2 j hj
  unfold goodB at this
  rw [Bool.and_eq_true] at this
  have h2 := this.1
  unfold gb at h2
  rwa [List.getElem?_eq_getElem hj] at h2
theorem okB_okV {b : Bd} (h : okB b = true) : okV b.2.1 b.2.2 ∧ (b.2.1 = 1 ∨ b.2.1 = 2) := by
  unfold okB at h
  simp at h
  unfold okV
  omega
def errV (x : Int) : Prop := x = 24 ∨ x = 14
theorem bdV_ok (n : Int) : ((bdV n).2 = 0 → okV 1 (bdV n).1) ∧ ((bdV n).2 ≠ 0 → errV (bdV n).2 ∧ (bdV n).1 = 0) := by
  unfold bdV okV errV
  by_cases h : n < -1099511627776 ∨ 1099511627776 < n
  · rw [if_pos h]; simp
  · rw [if_neg h]; simp; omega
theorem b2i_ok (b : Bool) : okV 2 (b2i b) := by unfold okV b2i; cases b <;> simp
theorem tdiv_ok {a b : Int} (ha : -1099511627776 ≤ a ∧ a ≤ 1099511627776) : -1099511627776 ≤ a.tdiv b ∧ a.tdiv b ≤ 1099511627776 := by
  have h1 : (a.tdiv b).natAbs ≤ a.natAbs := by rw [Int.natAbs_tdiv]; exact Nat.div_le_self _ _
  omega
theorem tmod_ok {a b : Int} (ha : -1099511627776 ≤ a ∧ a ≤ 1099511627776) : -1099511627776 ≤ a.tmod b ∧ a.tmod b ≤ 1099511627776 := by
  have h1 : (a.tmod b).natAbs ≤ a.natAbs := by rw [Int.natAbs_tmod]; exact Nat.mod_le _ _
  omega
/-- Operators with arguments of the right types. -/
theorem opW_ok {o a b ta tb t : Int} (ho : 3 ≤ o ∧ o ≤ 15) (ht : opT o [ta, tb] = (t, 0)) (ha : okV ta a) (hb : okV tb b) : (t = 1 ∨ t = 2) ∧ ((opW o a b).2 = 0 → okV t (opW o a b).1) ∧ ((opW o a b).2 ≠ 0 → errV (opW o a b).2 ∧ (opW o a b).1 = 0) := by
  rw [opT_wt o [ta, tb] (by simp)] at ht
  by_cases hall : [ta, tb].all (fun x => decide (x = wtO o [ta, tb])) = true
  · rw [if_pos hall] at ht
    injection ht with ht _
    subst ht
    have hra := ha.range
    have hrb := hb.range
    have hg : (gvO o = 1 ∧ o < 8) ∨ (gvO o = 2 ∧ 8 ≤ o) := by unfold gvO; by_cases h8 : 8 ≤ o <;> simp [h8] <;> omega
    rcases hg with ⟨hg, h8⟩ | ⟨hg, h8⟩
    · rw [hg]
      refine ⟨.inl rfl, ?_⟩
      have h5 : o = 3 ∨ o = 4 ∨ o = 5 ∨ o = 6 ∨ o = 7 := by omega
      rcases h5 with rfl | rfl | rfl | rfl | rfl
      · exact bdV_ok _
      · exact bdV_ok _
      · exact bdV_ok _
      · by_cases hb0 : b = 0
        · simp [opW, hb0, errV]
        · have := tdiv_ok (b := b) hra
          simp [opW, hb0, okV]
          exact this
      · by_cases hb0 : b = 0
        · simp [opW, hb0, errV]
        · have := tmod_ok (b := b) hra
          simp [opW, hb0, okV]
          exact this
    · rw [hg]
      refine ⟨.inr rfl, ?_⟩
      have h5 : o = 8 ∨ o = 9 ∨ o = 10 ∨ o = 11 ∨ o = 12 ∨ o = 13 ∨ o = 14 ∨ o = 15 := by omega
      rcases h5 with rfl | rfl | rfl | rfl | rfl | rfl | rfl | rfl <;> exact ⟨fun _ => b2i_ok _, fun h => absurd rfl h⟩
  · rw [if_neg hall] at ht
    injection ht with _ h
    cases h
theorem opU_ok {o a ta t : Int} (ho : o = 1 ∨ o = 2) (ht : opT o [ta] = (t, 0)) (ha : okV ta a) : (t = 1 ∨ t = 2) ∧ (opV o [a]).2 = 0 ∧ okV t (opV o [a]).1 := by
  rw [opT_wt o [ta] (by simp)] at ht
  by_cases hall : [ta].all (fun x => decide (x = wtO o [ta])) = true
  · rw [if_pos hall] at ht
    injection ht with ht _
    subst ht
    simp at hall
    rcases ho with rfl | rfl
    · have : ta = 1 := hall
      subst this
      unfold okV at ha ⊢
      simp [gvO, opV]
      omega
    · have : ta = 2 := hall
      subst this
      unfold okV at ha ⊢
      simp [gvO, opV]
      omega
  · rw [if_neg hall] at ht
    injection ht with _ h
    cases h

/-- What holds of an expression that has a type. -/
structure Snd (l : List Bd) (e : Ex) (t : Int) : Prop where
  two : t = 1 ∨ t = 2
  ok : (vlE l e).2 = 0 → okV t (vlE l e).1
  err : (vlE l e).2 ≠ 0 → errV (vlE l e).2 ∧ (vlE l e).1 = 0
theorem list_two {zs : List Int} (h : zs.length = 2) : ∃ a b, zs = [a, b] := by
  match zs, h with
  | [a, b], _ => exact ⟨a, b, rfl⟩
theorem list_one {zs : List Int} (h : zs.length = 1) : ∃ a, zs = [a] := by
  match zs, h with
  | [a], _ => exact ⟨a, rfl⟩
theorem soundL (l : List Bd) (es : List Ex) (ih : ∀ a ∈ es, ∀ t, tyE l a = (t, 0) → Snd l a t) (ts : List Int) (h : cbL (lfT l) opT es = (ts, 0)) :
    ((cbL (lfV l) opV es).2 = 0 → okVs ts (cbL (lfV l) opV es).1) ∧ ((cbL (lfV l) opV es).2 ≠ 0 → errV (cbL (lfV l) opV es).2) := by
  induction es generalizing ts with
  | nil =>
    rw [cbL_nil] at h ⊢
    injection h with h _
    subst h
    exact ⟨fun _ => okVs_nil, fun h => absurd rfl h⟩
  | cons a r ihr =>
    rw [cbL_cons] at h
    by_cases h1 : (cbE (lfT l) opT a).2 = 0
    · rw [if_neg (by simpa using h1)] at h
      by_cases h2 : (cbL (lfT l) opT r).2 = 0
      · rw [if_neg (by simpa using h2)] at h
        injection h with h _
        subst h
        have hs := ih a (List.mem_cons_self ..) (cbE (lfT l) opT a).1 (by unfold tyE; rw [← h1])
        have hr := ihr (fun b hb => ih b (List.mem_cons_of_mem _ hb)) (cbL (lfT l) opT r).1 (by rw [← h2])
        rw [cbL_cons]
        by_cases h3 : (cbE (lfV l) opV a).2 = 0
        · rw [if_neg (by simpa using h3)]
          by_cases h4 : (cbL (lfV l) opV r).2 = 0
          · rw [if_neg (by simpa using h4)]
            exact ⟨fun _ => okVs_cons (hs.ok h3) (hr.1 h4), fun h => absurd rfl h⟩
          · rw [if_pos h4]
            exact ⟨fun h => absurd h h4, fun _ => hr.2 h4⟩
        · rw [if_pos h3]
          exact ⟨fun h => absurd h h3, fun _ => (hs.err h3).1⟩
      · rw [if_pos h2] at h
        injection h with _ h
        exact absurd h h2
    · rw [if_pos h1] at h
      injection h with _ h
      exact absurd h h1
theorem sound (l : List Bd) (hl : ckB l = true) (e : Ex) : prE e = 0 → ∀ t, tyE l e = (t, 0) → Snd l e t := by
  induction e using Ex.ind with
  | h k o s v es ih =>
  intro hp t ht
  obtain ⟨hp0, hpa⟩ := prE_zero.1 hp
  unfold tyE at ht
  rw [cbE_mk] at ht
  by_cases hc : (cbL (lfT l) opT es).2 = 0
  · rw [if_neg (by simpa using hc)] at ht
    obtain ⟨ts, hts⟩ : ∃ ts, cbL (lfT l) opT es = (ts, 0) := ⟨_, by rw [← hc]⟩
    have hL := soundL l es (fun a ha t h => ih a ha (hpa a ha) t h) ts hts
    have hlen := cbL_length _ _ es ts hts
    rw [hts] at ht
    simp only [] at ht
    have hV : vlE l (.mk k o s v es) = if (cbL (lfV l) opV es).2 ≠ 0 then (0, (cbL (lfV l) opV es).2) else if es.length = 0 then lfV l k s v else opV o (cbL (lfV l) opV es).1 := by unfold vlE; rw [cbE_mk]
    rcases prP_zero.1 hp0 with ⟨rfl, rfl, rfl, hv0, hv1, hn⟩ | ⟨rfl, rfl, hnm, rfl, hn⟩ | ⟨rfl, ho, rfl, rfl, hn⟩ | ⟨rfl, ho1, ho2, rfl, rfl, hn⟩
    · have he : es = [] := by simpa using hn
      subst he
      rw [cbL_nil] at hV
      simp [lfV] at hV
      simp [lfT] at ht
      subst ht
      refine ⟨.inl rfl, ?_, ?_⟩ <;> rw [hV]
      · intro _; unfold okV; simp; omega
      · intro h; exact absurd rfl h
    · have he : es = [] := by simpa using hn
      subst he
      rw [cbL_nil] at hV
      simp [lfV] at hV
      simp [lfT] at ht
      cases hf : fdB l s with
      | none => rw [hf] at ht; simp at ht
      | some b =>
        rw [hf] at ht hV
        simp at ht hV
        subst ht
        have hb := okB_okV (ckB_ok hl (fdB_mem hf).1)
        refine ⟨hb.2, ?_, ?_⟩ <;> rw [hV]
        · intro _; exact hb.1
        · intro h; exact absurd rfl h
    · rw [if_neg (by omega)] at ht
      obtain ⟨ta, rfl⟩ := list_one (hlen.trans hn)
      by_cases h4 : (cbL (lfV l) opV es).2 = 0
      · have hok := hL.1 h4
        obtain ⟨a, ha⟩ := list_one (hok.1.symm.trans rfl)
        rw [if_neg (by simpa using h4), if_neg (by omega), ha] at hV
        rw [ha] at hok
        have := opU_ok ho ht (hok.2 0 (by simp))
        refine ⟨this.1, ?_, ?_⟩ <;> rw [hV]
        · intro _; exact this.2.2
        · intro h; exact absurd this.2.1 h
      · rw [if_pos h4] at hV
        have htt : t = 1 ∨ t = 2 := by
          rw [opT_wt o [ta] (by simp)] at ht
          split at ht
          · injection ht with ht _
            subst ht
            unfold gvO; split <;> simp
          · injection ht with _ h; cases h
        refine ⟨htt, ?_, ?_⟩ <;> rw [hV]
        · intro h; exact absurd h h4
        · intro _; exact ⟨hL.2 h4, rfl⟩
    · rw [if_neg (by omega)] at ht
      obtain ⟨ta, tb, rfl⟩ := list_two (hlen.trans hn)
      by_cases h4 : (cbL (lfV l) opV es).2 = 0
      · have hok := hL.1 h4
        obtain ⟨a, b, hab⟩ := list_two (hok.1.symm.trans rfl)
        rw [if_neg (by simpa using h4), if_neg (by omega), hab] at hV
        rw [hab] at hok
        have := opW_ok ⟨ho1, ho2⟩ ht (hok.2 0 (by simp)) (hok.2 1 (by simp))
        refine ⟨this.1, ?_, ?_⟩ <;> rw [hV]
        · exact this.2.1
        · exact this.2.2
      · rw [if_pos h4] at hV
        have htt : t = 1 ∨ t = 2 := by
          rw [opT_wt o [ta, tb] (by simp)] at ht
          split at ht
          · injection ht with ht _
            subst ht
            unfold gvO; split <;> simp
          · injection ht with _ h; cases h
        refine ⟨htt, ?_, ?_⟩ <;> rw [hV]
        · intro h; exact absurd h h4
        · intro _; exact ⟨hL.2 h4, rfl⟩
  · rw [if_pos hc] at ht
    injection ht with _ h
    exact absurd h hc

end Go.Proofs.YtfgaihajopfmfaaGreatDoor

/-! ### ExTyF: Types and values of expressions that may not be valid. -/
namespace Go.Proofs.YtfgaihajopfmfaaGreatDoor
set_option linter.unusedSimpArgs false
set_option linter.unusedVariables false
open Go.RowKit

def fitB (l : List Bd) : Prop := ∀ x ∈ l, x.1.size ≤ 9223372036854775807
def tyF (l : List Bd) (e : Ex) : Int × Int := if ckE e ≠ 0 then (0, ckE e) else if ckB l = false then (0, 1) else tyE l e
def vlF (l : List Bd) (e : Ex) : Int × Int := if (tyF l e).2 ≠ 0 then (0, (tyF l e).2) else vlE l e
theorem tyF_ok {l : List Bd} {e : Ex} (h : (tyF l e).2 = 0) : ckE e = 0 ∧ ckB l = true ∧ tyF l e = tyE l e := by
  unfold tyF at h ⊢
  by_cases h1 : ckE e = 0
  · rw [if_neg (by simpa using h1)] at h ⊢
    cases h2 : ckB l with
    | true => simp [h1]
    | false => rw [if_pos h2] at h; cases h
  · rw [if_pos h1] at h
    exact absurd h h1

end Go.Proofs.YtfgaihajopfmfaaGreatDoor

/-! ### ExROper: What the reference's number, product and Operate return. -/
namespace Go.Proofs.YtfgaihajopfmfaaGreatDoor
set_option linter.unusedSimpArgs false
set_option linter.unusedVariables false
open Go.RowKit

theorem rnumber_same (b : Bool) (w : World) : Calls Tryz.prog 142 #[.bool b] w fun x w' => x = .returned (.int .i64 (b2i b)) ∧ w' = w := by
  cases b
  · go_enter Tryz.func142, Tryz.ntmps142
    go_wp2
    go_ret
    exact ⟨rfl, rfl⟩
  · go_enter Tryz.func142, Tryz.ntmps142
    go_wp2
    go_ret
    exact ⟨rfl, rfl⟩
/-- A product is out of range exactly if one factor is more than the greatest number divided by the other one. -/
theorem mul_big {a b : Int} (ha : a ≠ 0) (hb : 0 ≤ (b.natAbs : Int)) : (1099511627776 / (a.natAbs : Int) < (b.natAbs : Int)) ↔ (a * b < -1099511627776 ∨ 1099511627776 < a * b) := by
  have hp : 0 < a.natAbs := Int.natAbs_pos.2 ha
  have h1 : (a * b).natAbs = a.natAbs * b.natAbs := Int.natAbs_mul a b
  have h2 : (1099511627776 / (a.natAbs : Int) < (b.natAbs : Int)) ↔ 1099511627776 / a.natAbs < b.natAbs := by
    rw [show (1099511627776 : Int) = ((1099511627776 : Nat) : Int) by rfl, ← Int.natCast_ediv]
    omega
  rw [h2, Nat.div_lt_iff_lt_mul hp]
  have h3 : b.natAbs * a.natAbs = (a * b).natAbs := by rw [h1, Nat.mul_comm]
  rw [h3]
  omega
theorem mul_fit {a b : Int} (ha : -1099511627776 ≤ a ∧ a ≤ 1099511627776) (h : ¬ (a * b < -1099511627776 ∨ 1099511627776 < a * b)) : IntKind.i64.wrap (a * b) = a * b := IntWalk.i64_in _ (by omega)


set_option maxRecDepth 100000 in
set_option maxHeartbeats 4000000 in
theorem rproduct_same (a b : Int) (w : World) (ha : -1099511627776 ≤ a ∧ a ≤ 1099511627776) (hb : -1099511627776 ≤ b ∧ b ≤ 1099511627776) :
    Calls Tryz.prog 141 #[.int .i64 a, .int .i64 b] w fun x w' => x = .returned (.tuple #[.int .i64 (bdV (a * b)).1, .int .i64 (bdV (a * b)).2]) ∧ w' = w := by
  obtain ⟨ha1, ha2⟩ := ha
  obtain ⟨hb1, hb2⟩ := hb
  by_cases h0 : a = 0
  · subst h0
    have e1 : bdV (0 * b) = (0, 0) := by rw [Int.zero_mul]; rfl
    rw [e1]
    by_cases hbn : b < 0
    · go_enter Tryz.func141, Tryz.ntmps141
      go_wp2
      go_ret2
      exact ⟨by first | rfl | simp, rfl⟩
    · go_enter Tryz.func141, Tryz.ntmps141
      go_wp2
      go_ret2
      exact ⟨by first | rfl | simp, rfl⟩

  · by_cases han : a < 0
    · by_cases hbn : b < 0
      · by_cases hbig : a * b < -1099511627776 ∨ 1099511627776 < a * b
        · skip
          obtain ⟨q, hqd⟩ : ∃ q, q = 1099511627776 / (a.natAbs : Int) := ⟨_, rfl⟩
          have hq2 : ((-a) == 0) = false := by simp; omega
          have hq3 : ((-a) != 0) = true := by simp; omega
          have hq5 : ¬ a = 0 := h0
          have hdiv : -Int.tdiv 1099511627776 a = q := by rw [hqd]; rw [← Int.tdiv_neg, Int.tdiv_eq_ediv_of_nonneg (by decide)]; congr 1; omega
          have hle : q ≤ 1099511627776 := by rw [hqd]; exact Int.ediv_le_self _ (by decide)
          have hge : 0 ≤ q := by rw [hqd]; exact Int.ediv_nonneg (by decide) (by omega)
          have hm := mul_big (b := b) h0 (by omega)
          rw [← hqd] at hm
          have hww : wrap64 (-Int.tdiv 1099511627776 a) = q := by rw [hdiv]; exact IntWalk.wrap64_in q (by omega)
          have e1 : bdV (a * b) = (0, 14) := by unfold bdV; rw [if_pos hbig]
          have hc : q < (-b) := by have := hm.2 hbig; omega
          rw [e1]
          clear hm hdiv hbig e1 hqd
          go_enter Tryz.func141, Tryz.ntmps141
          go_wp2
          go_ret2
          exact ⟨by first | rfl | simp [*], rfl⟩
        · skip
          obtain ⟨q, hqd⟩ : ∃ q, q = 1099511627776 / (a.natAbs : Int) := ⟨_, rfl⟩
          have hq2 : ((-a) == 0) = false := by simp; omega
          have hq3 : ((-a) != 0) = true := by simp; omega
          have hq5 : ¬ a = 0 := h0
          have hdiv : -Int.tdiv 1099511627776 a = q := by rw [hqd]; rw [← Int.tdiv_neg, Int.tdiv_eq_ediv_of_nonneg (by decide)]; congr 1; omega
          have hle : q ≤ 1099511627776 := by rw [hqd]; exact Int.ediv_le_self _ (by decide)
          have hge : 0 ≤ q := by rw [hqd]; exact Int.ediv_nonneg (by decide) (by omega)
          have hm := mul_big (b := b) h0 (by omega)
          rw [← hqd] at hm
          have hww : wrap64 (-Int.tdiv 1099511627776 a) = q := by rw [hdiv]; exact IntWalk.wrap64_in q (by omega)
          have e1 : bdV (a * b) = (a * b, 0) := by unfold bdV; rw [if_neg hbig]
          have hc : ¬ q < (-b) := by have := mt hm.1 hbig; omega
          have hmf := mul_fit ⟨ha1, ha2⟩ hbig
          rw [e1]
          clear hm hdiv hbig e1 hqd
          go_enter Tryz.func141, Tryz.ntmps141
          go_wp2
          go_ret2
          exact ⟨by first | rfl | simp [*], rfl⟩
      · by_cases hbig : a * b < -1099511627776 ∨ 1099511627776 < a * b
        · skip
          obtain ⟨q, hqd⟩ : ∃ q, q = 1099511627776 / (a.natAbs : Int) := ⟨_, rfl⟩
          have hq2 : ((-a) == 0) = false := by simp; omega
          have hq3 : ((-a) != 0) = true := by simp; omega
          have hq5 : ¬ a = 0 := h0
          have hdiv : -Int.tdiv 1099511627776 a = q := by rw [hqd]; rw [← Int.tdiv_neg, Int.tdiv_eq_ediv_of_nonneg (by decide)]; congr 1; omega
          have hle : q ≤ 1099511627776 := by rw [hqd]; exact Int.ediv_le_self _ (by decide)
          have hge : 0 ≤ q := by rw [hqd]; exact Int.ediv_nonneg (by decide) (by omega)
          have hm := mul_big (b := b) h0 (by omega)
          rw [← hqd] at hm
          have hww : wrap64 (-Int.tdiv 1099511627776 a) = q := by rw [hdiv]; exact IntWalk.wrap64_in q (by omega)
          have e1 : bdV (a * b) = (0, 14) := by unfold bdV; rw [if_pos hbig]
          have hc : q < b := by have := hm.2 hbig; omega
          rw [e1]
          clear hm hdiv hbig e1 hqd
          go_enter Tryz.func141, Tryz.ntmps141
          go_wp2
          go_ret2
          exact ⟨by first | rfl | simp [*], rfl⟩
        · skip
          obtain ⟨q, hqd⟩ : ∃ q, q = 1099511627776 / (a.natAbs : Int) := ⟨_, rfl⟩
          have hq2 : ((-a) == 0) = false := by simp; omega
          have hq3 : ((-a) != 0) = true := by simp; omega
          have hq5 : ¬ a = 0 := h0
          have hdiv : -Int.tdiv 1099511627776 a = q := by rw [hqd]; rw [← Int.tdiv_neg, Int.tdiv_eq_ediv_of_nonneg (by decide)]; congr 1; omega
          have hle : q ≤ 1099511627776 := by rw [hqd]; exact Int.ediv_le_self _ (by decide)
          have hge : 0 ≤ q := by rw [hqd]; exact Int.ediv_nonneg (by decide) (by omega)
          have hm := mul_big (b := b) h0 (by omega)
          rw [← hqd] at hm
          have hww : wrap64 (-Int.tdiv 1099511627776 a) = q := by rw [hdiv]; exact IntWalk.wrap64_in q (by omega)
          have e1 : bdV (a * b) = (a * b, 0) := by unfold bdV; rw [if_neg hbig]
          have hc : ¬ q < b := by have := mt hm.1 hbig; omega
          have hmf := mul_fit ⟨ha1, ha2⟩ hbig
          rw [e1]
          clear hm hdiv hbig e1 hqd
          go_enter Tryz.func141, Tryz.ntmps141
          go_wp2
          go_ret2
          exact ⟨by first | rfl | simp [*], rfl⟩
    · by_cases hbn : b < 0
      · by_cases hbig : a * b < -1099511627776 ∨ 1099511627776 < a * b
        · skip
          obtain ⟨q, hqd⟩ : ∃ q, q = 1099511627776 / (a.natAbs : Int) := ⟨_, rfl⟩
          have hq2 : (a == 0) = false := by simp; omega
          have hq3 : (a != 0) = true := by simp; omega
          have hq5 : ¬ a = 0 := h0
          have hdiv : Int.tdiv 1099511627776 a = q := by rw [hqd]; rw [Int.tdiv_eq_ediv_of_nonneg (by decide)]; congr 1; omega
          have hle : q ≤ 1099511627776 := by rw [hqd]; exact Int.ediv_le_self _ (by decide)
          have hge : 0 ≤ q := by rw [hqd]; exact Int.ediv_nonneg (by decide) (by omega)
          have hm := mul_big (b := b) h0 (by omega)
          rw [← hqd] at hm
          have hww : IntKind.i64.wrap (Int.tdiv 1099511627776 a) = q := by rw [hdiv]; exact IntWalk.i64_in q (by omega)
          have e1 : bdV (a * b) = (0, 14) := by unfold bdV; rw [if_pos hbig]
          have hc : q < (-b) := by have := hm.2 hbig; omega
          rw [e1]
          clear hm hdiv hbig e1 hqd
          go_enter Tryz.func141, Tryz.ntmps141
          go_wp2
          go_ret2
          exact ⟨by first | rfl | simp [*], rfl⟩
        · skip
          obtain ⟨q, hqd⟩ : ∃ q, q = 1099511627776 / (a.natAbs : Int) := ⟨_, rfl⟩
          have hq2 : (a == 0) = false := by simp; omega
          have hq3 : (a != 0) = true := by simp; omega
          have hq5 : ¬ a = 0 := h0
          have hdiv : Int.tdiv 1099511627776 a = q := by rw [hqd]; rw [Int.tdiv_eq_ediv_of_nonneg (by decide)]; congr 1; omega
          have hle : q ≤ 1099511627776 := by rw [hqd]; exact Int.ediv_le_self _ (by decide)
          have hge : 0 ≤ q := by rw [hqd]; exact Int.ediv_nonneg (by decide) (by omega)
          have hm := mul_big (b := b) h0 (by omega)
          rw [← hqd] at hm
          have hww : IntKind.i64.wrap (Int.tdiv 1099511627776 a) = q := by rw [hdiv]; exact IntWalk.i64_in q (by omega)
          have e1 : bdV (a * b) = (a * b, 0) := by unfold bdV; rw [if_neg hbig]
          have hc : ¬ q < (-b) := by have := mt hm.1 hbig; omega
          have hmf := mul_fit ⟨ha1, ha2⟩ hbig
          rw [e1]
          clear hm hdiv hbig e1 hqd
          go_enter Tryz.func141, Tryz.ntmps141
          go_wp2
          go_ret2
          exact ⟨by first | rfl | simp [*], rfl⟩
      · by_cases hbig : a * b < -1099511627776 ∨ 1099511627776 < a * b
        · skip
          obtain ⟨q, hqd⟩ : ∃ q, q = 1099511627776 / (a.natAbs : Int) := ⟨_, rfl⟩
          have hq2 : (a == 0) = false := by simp; omega
          have hq3 : (a != 0) = true := by simp; omega
          have hq5 : ¬ a = 0 := h0
          have hdiv : Int.tdiv 1099511627776 a = q := by rw [hqd]; rw [Int.tdiv_eq_ediv_of_nonneg (by decide)]; congr 1; omega
          have hle : q ≤ 1099511627776 := by rw [hqd]; exact Int.ediv_le_self _ (by decide)
          have hge : 0 ≤ q := by rw [hqd]; exact Int.ediv_nonneg (by decide) (by omega)
          have hm := mul_big (b := b) h0 (by omega)
          rw [← hqd] at hm
          have hww : IntKind.i64.wrap (Int.tdiv 1099511627776 a) = q := by rw [hdiv]; exact IntWalk.i64_in q (by omega)
          have e1 : bdV (a * b) = (0, 14) := by unfold bdV; rw [if_pos hbig]
          have hc : q < b := by have := hm.2 hbig; omega
          rw [e1]
          clear hm hdiv hbig e1 hqd
          go_enter Tryz.func141, Tryz.ntmps141
          go_wp2
          go_ret2
          exact ⟨by first | rfl | simp [*], rfl⟩
        · skip
          obtain ⟨q, hqd⟩ : ∃ q, q = 1099511627776 / (a.natAbs : Int) := ⟨_, rfl⟩
          have hq2 : (a == 0) = false := by simp; omega
          have hq3 : (a != 0) = true := by simp; omega
          have hq5 : ¬ a = 0 := h0
          have hdiv : Int.tdiv 1099511627776 a = q := by rw [hqd]; rw [Int.tdiv_eq_ediv_of_nonneg (by decide)]; congr 1; omega
          have hle : q ≤ 1099511627776 := by rw [hqd]; exact Int.ediv_le_self _ (by decide)
          have hge : 0 ≤ q := by rw [hqd]; exact Int.ediv_nonneg (by decide) (by omega)
          have hm := mul_big (b := b) h0 (by omega)
          rw [← hqd] at hm
          have hww : IntKind.i64.wrap (Int.tdiv 1099511627776 a) = q := by rw [hdiv]; exact IntWalk.i64_in q (by omega)
          have e1 : bdV (a * b) = (a * b, 0) := by unfold bdV; rw [if_neg hbig]
          have hc : ¬ q < b := by have := mt hm.1 hbig; omega
          have hmf := mul_fit ⟨ha1, ha2⟩ hbig
          rw [e1]
          clear hm hdiv hbig e1 hqd
          go_enter Tryz.func141, Tryz.ntmps141
          go_wp2
          go_ret2
          exact ⟨by first | rfl | simp [*], rfl⟩

set_option maxRecDepth 100000 in
set_option maxHeartbeats 8000000 in
theorem rOperate_same (o a b : Int) (w : World) (ho : 3 ≤ o ∧ o ≤ 15) (ha : -1099511627776 ≤ a ∧ a ≤ 1099511627776) (hb : -1099511627776 ≤ b ∧ b ≤ 1099511627776) (hab : 14 ≤ o → (a = 0 ∨ a = 1) ∧ (b = 0 ∨ b = 1)) :
    Calls Tryz.prog 131 #[.int .i64 o, .int .i64 a, .int .i64 b] w fun x w' => x = .returned (.tuple #[.int .i64 (opW o a b).1, .int .i64 (opW o a b).2]) ∧ w' = w := by
  have h := ho
  obtain ⟨ha1, ha2⟩ := ha
  obtain ⟨hb1, hb2⟩ := hb
  have ho : o = 3 ∨ o = 4 ∨ o = 5 ∨ o = 6 ∨ o = 7 ∨ o = 8 ∨ o = 9 ∨ o = 10 ∨ o = 11 ∨ o = 12 ∨ o = 13 ∨ o = 14 ∨ o = 15 := by omega
  rcases ho with rfl | rfl | rfl | rfl | rfl | rfl | rfl | rfl | rfl | rfl | rfl | rfl | rfl
  · skip
    have e0 : opW 3 a b = bdV (a + b) := rfl
    have hw : IntKind.i64.wrap (a + b) = a + b := IntWalk.i64_in _ (by omega)
    rw [e0]
    by_cases h1 : a + b < -1099511627776
    · have e1 : bdV (a + b) = (0, 14) := by unfold bdV; rw [if_pos (by omega)]
      rw [e1]
      clear e1 e0 hab
      go_enter Tryz.func131, Tryz.ntmps131
      go_wp2
      go_ret2
      exact ⟨by first | rfl | simp [*], rfl⟩
    · by_cases h2 : 1099511627776 < a + b
      · have e1 : bdV (a + b) = (0, 14) := by unfold bdV; rw [if_pos (by omega)]
        rw [e1]
        clear e1 e0 hab
        go_enter Tryz.func131, Tryz.ntmps131
        go_wp2
        go_ret2
        exact ⟨by first | rfl | simp [*], rfl⟩
      · have e1 : bdV (a + b) = (a + b, 0) := by unfold bdV; rw [if_neg (by omega)]
        rw [e1]
        clear e1 e0 hab
        go_enter Tryz.func131, Tryz.ntmps131
        go_wp2
        go_ret2
        exact ⟨by first | rfl | simp [*], rfl⟩
  · skip
    have e0 : opW 4 a b = bdV (a - b) := rfl
    have hw : IntKind.i64.wrap (a - b) = a - b := IntWalk.i64_in _ (by omega)
    rw [e0]
    by_cases h1 : a - b < -1099511627776
    · have e1 : bdV (a - b) = (0, 14) := by unfold bdV; rw [if_pos (by omega)]
      rw [e1]
      clear e1 e0 hab
      go_enter Tryz.func131, Tryz.ntmps131
      go_wp2
      go_ret2
      exact ⟨by first | rfl | simp [*], rfl⟩
    · by_cases h2 : 1099511627776 < a - b
      · have e1 : bdV (a - b) = (0, 14) := by unfold bdV; rw [if_pos (by omega)]
        rw [e1]
        clear e1 e0 hab
        go_enter Tryz.func131, Tryz.ntmps131
        go_wp2
        go_ret2
        exact ⟨by first | rfl | simp [*], rfl⟩
      · have e1 : bdV (a - b) = (a - b, 0) := by unfold bdV; rw [if_neg (by omega)]
        rw [e1]
        clear e1 e0 hab
        go_enter Tryz.func131, Tryz.ntmps131
        go_wp2
        go_ret2
        exact ⟨by first | rfl | simp [*], rfl⟩
  · skip
    have e0 : opW 5 a b = bdV (a * b) := rfl
    have HP := Lib.hid (rproduct_same a b w ⟨ha1, ha2⟩ ⟨hb1, hb2⟩)
    rw [e0]
    clear e0 hab
    go_enter Tryz.func131, Tryz.ntmps131
    go_wp2_with fail
    refine HP.out.mono ?_
    rintro x w4 ⟨rfl, hw⟩
    have hw := hw.symm
    subst hw
    go_wp2
    go_ret2
    exact ⟨rfl, rfl⟩
  · skip
    by_cases h0 : b = 0
    · have e0 : opW 6 a b = (0, 24) := by simp [opW, h0]
      rw [e0]
      subst h0
      clear e0 hab
      go_enter Tryz.func131, Tryz.ntmps131
      go_wp2
      go_ret2
      exact ⟨by first | rfl | simp [*], rfl⟩
    · have e0 : opW 6 a b = (a.tdiv b, 0) := by simp [opW, h0]
      have hr := tdiv_ok (b := b) ⟨ha1, ha2⟩
      obtain ⟨r1, r2⟩ := hr
      have hw : IntKind.i64.wrap (a.tdiv b) = a.tdiv b := IntWalk.i64_in _ (by omega)
      have r3 : ¬ a.tdiv b < -1099511627776 := by omega
      have r4 : ¬ 1099511627776 < a.tdiv b := by omega
      obtain ⟨b1, b2⟩ := ine h0
      rw [e0]
      clear e0 hab r1 r2
      go_enter Tryz.func131, Tryz.ntmps131
      go_wp2
      go_ret2
      exact ⟨by first | rfl | simp [*], rfl⟩
  · skip
    by_cases h0 : b = 0
    · have e0 : opW 7 a b = (0, 24) := by simp [opW, h0]
      rw [e0]
      subst h0
      clear e0 hab
      go_enter Tryz.func131, Tryz.ntmps131
      go_wp2
      go_ret2
      exact ⟨by first | rfl | simp [*], rfl⟩
    · have e0 : opW 7 a b = (a.tmod b, 0) := by simp [opW, h0]
      have hr := tmod_ok (b := b) ⟨ha1, ha2⟩
      obtain ⟨r1, r2⟩ := hr
      have hw : IntKind.i64.wrap (a.tmod b) = a.tmod b := IntWalk.i64_in _ (by omega)
      have r3 : ¬ a.tmod b < -1099511627776 := by omega
      have r4 : ¬ 1099511627776 < a.tmod b := by omega
      obtain ⟨b1, b2⟩ := ine h0
      rw [e0]
      clear e0 hab r1 r2
      go_enter Tryz.func131, Tryz.ntmps131
      go_wp2
      go_ret2
      exact ⟨by first | rfl | simp [*], rfl⟩
  · skip
    have e0 : opW 8 a b = (b2i (decide (a = b)), 0) := rfl
    have e1 : decide (a = b) = (a == b) := by rw [Bool.eq_iff_iff]; simp
    have HN := Lib.hid (fun B W => rnumber_same B W)
    rw [e0, e1]
    clear e0 e1 hab
    go_enter Tryz.func131, Tryz.ntmps131
    go_wp2_with fail
    refine (HN.out _ _).mono ?_
    rintro x w4 ⟨rfl, hw⟩
    have hw := hw.symm
    subst hw
    obtain ⟨r, hr⟩ : ∃ r, (a == b) = r := ⟨_, rfl⟩
    have HRR := Lib.hid hr
    rw [hr]
    clear hr
    cases r
    · simp only [b2i, Bool.false_eq_true, if_false]
      go_wp2
      go_ret2
      exact ⟨by rw [HRR.out]; rfl, rfl⟩
    · simp only [b2i, if_true]
      go_wp2
      go_ret2
      exact ⟨by rw [HRR.out]; rfl, rfl⟩
  · skip
    have e0 : opW 9 a b = (b2i (decide (a ≠ b)), 0) := rfl
    have e1 : decide (a ≠ b) = (a != b) := by rw [Bool.eq_iff_iff]; simp
    have HN := Lib.hid (fun B W => rnumber_same B W)
    rw [e0, e1]
    clear e0 e1 hab
    go_enter Tryz.func131, Tryz.ntmps131
    go_wp2_with fail
    refine (HN.out _ _).mono ?_
    rintro x w4 ⟨rfl, hw⟩
    have hw := hw.symm
    subst hw
    obtain ⟨r, hr⟩ : ∃ r, (a != b) = r := ⟨_, rfl⟩
    have HRR := Lib.hid hr
    rw [hr]
    clear hr
    cases r
    · simp only [b2i, Bool.false_eq_true, if_false]
      go_wp2
      go_ret2
      exact ⟨by rw [HRR.out]; rfl, rfl⟩
    · simp only [b2i, if_true]
      go_wp2
      go_ret2
      exact ⟨by rw [HRR.out]; rfl, rfl⟩
  · skip
    have e0 : opW 10 a b = (b2i (decide (a < b)), 0) := rfl
    have e1 : decide (a < b) = decide (a < b) := by rfl
    have HN := Lib.hid (fun B W => rnumber_same B W)
    rw [e0, e1]
    clear e0 e1 hab
    go_enter Tryz.func131, Tryz.ntmps131
    go_wp2_with fail
    refine (HN.out _ _).mono ?_
    rintro x w4 ⟨rfl, hw⟩
    have hw := hw.symm
    subst hw
    obtain ⟨r, hr⟩ : ∃ r, decide (a < b) = r := ⟨_, rfl⟩
    have HRR := Lib.hid hr
    rw [hr]
    clear hr
    cases r
    · simp only [b2i, Bool.false_eq_true, if_false]
      go_wp2
      go_ret2
      exact ⟨by rw [HRR.out]; rfl, rfl⟩
    · simp only [b2i, if_true]
      go_wp2
      go_ret2
      exact ⟨by rw [HRR.out]; rfl, rfl⟩
  · skip
    have e0 : opW 11 a b = (b2i (decide (a ≤ b)), 0) := rfl
    have e1 : decide (a ≤ b) = decide (a ≤ b) := by rfl
    have HN := Lib.hid (fun B W => rnumber_same B W)
    rw [e0, e1]
    clear e0 e1 hab
    go_enter Tryz.func131, Tryz.ntmps131
    go_wp2_with fail
    refine (HN.out _ _).mono ?_
    rintro x w4 ⟨rfl, hw⟩
    have hw := hw.symm
    subst hw
    obtain ⟨r, hr⟩ : ∃ r, decide (a ≤ b) = r := ⟨_, rfl⟩
    have HRR := Lib.hid hr
    rw [hr]
    clear hr
    cases r
    · simp only [b2i, Bool.false_eq_true, if_false]
      go_wp2
      go_ret2
      exact ⟨by rw [HRR.out]; rfl, rfl⟩
    · simp only [b2i, if_true]
      go_wp2
      go_ret2
      exact ⟨by rw [HRR.out]; rfl, rfl⟩
  · skip
    have e0 : opW 12 a b = (b2i (decide (b < a)), 0) := rfl
    have e1 : decide (b < a) = decide (b < a) := by rfl
    have HN := Lib.hid (fun B W => rnumber_same B W)
    rw [e0, e1]
    clear e0 e1 hab
    go_enter Tryz.func131, Tryz.ntmps131
    go_wp2_with fail
    refine (HN.out _ _).mono ?_
    rintro x w4 ⟨rfl, hw⟩
    have hw := hw.symm
    subst hw
    obtain ⟨r, hr⟩ : ∃ r, decide (b < a) = r := ⟨_, rfl⟩
    have HRR := Lib.hid hr
    rw [hr]
    clear hr
    cases r
    · simp only [b2i, Bool.false_eq_true, if_false]
      go_wp2
      go_ret2
      exact ⟨by rw [HRR.out]; rfl, rfl⟩
    · simp only [b2i, if_true]
      go_wp2
      go_ret2
      exact ⟨by rw [HRR.out]; rfl, rfl⟩
  · skip
    have e0 : opW 13 a b = (b2i (decide (b ≤ a)), 0) := rfl
    have e1 : decide (b ≤ a) = decide (b ≤ a) := by rfl
    have HN := Lib.hid (fun B W => rnumber_same B W)
    rw [e0, e1]
    clear e0 e1 hab
    go_enter Tryz.func131, Tryz.ntmps131
    go_wp2_with fail
    refine (HN.out _ _).mono ?_
    rintro x w4 ⟨rfl, hw⟩
    have hw := hw.symm
    subst hw
    obtain ⟨r, hr⟩ : ∃ r, decide (b ≤ a) = r := ⟨_, rfl⟩
    have HRR := Lib.hid hr
    rw [hr]
    clear hr
    cases r
    · simp only [b2i, Bool.false_eq_true, if_false]
      go_wp2
      go_ret2
      exact ⟨by rw [HRR.out]; rfl, rfl⟩
    · simp only [b2i, if_true]
      go_wp2
      go_ret2
      exact ⟨by rw [HRR.out]; rfl, rfl⟩
  · skip
    have hab := hab (by decide)
    obtain ⟨h1, h2⟩ := hab
    have HN := Lib.hid (fun B W => rnumber_same B W)
    rcases h1 with rfl | rfl <;> rcases h2 with rfl | rfl
    · have e0 : opW 14 0 0 = (0, 0) := by decide
      rw [e0]
      clear e0
      go_enter Tryz.func131, Tryz.ntmps131
      go_wp2_with fail
      refine (HN.out _ _).mono ?_
      rintro x w4 ⟨rfl, hw⟩
      have hw := hw.symm
      subst hw
      simp only [b2i, Bool.false_eq_true, if_false, if_true]
      go_wp2
      go_ret2
      exact ⟨by first | rfl | simp, rfl⟩
    · have e0 : opW 14 0 1 = (0, 0) := by decide
      rw [e0]
      clear e0
      go_enter Tryz.func131, Tryz.ntmps131
      go_wp2_with fail
      refine (HN.out _ _).mono ?_
      rintro x w4 ⟨rfl, hw⟩
      have hw := hw.symm
      subst hw
      simp only [b2i, Bool.false_eq_true, if_false, if_true]
      go_wp2
      go_ret2
      exact ⟨by first | rfl | simp, rfl⟩
    · have e0 : opW 14 1 0 = (0, 0) := by decide
      rw [e0]
      clear e0
      go_enter Tryz.func131, Tryz.ntmps131
      go_wp2_with fail
      refine (HN.out _ _).mono ?_
      rintro x w4 ⟨rfl, hw⟩
      have hw := hw.symm
      subst hw
      simp only [b2i, Bool.false_eq_true, if_false, if_true]
      go_wp2
      go_ret2
      exact ⟨by first | rfl | simp, rfl⟩
    · have e0 : opW 14 1 1 = (1, 0) := by decide
      rw [e0]
      clear e0
      go_enter Tryz.func131, Tryz.ntmps131
      go_wp2_with fail
      refine (HN.out _ _).mono ?_
      rintro x w4 ⟨rfl, hw⟩
      have hw := hw.symm
      subst hw
      simp only [b2i, Bool.false_eq_true, if_false, if_true]
      go_wp2
      go_ret2
      exact ⟨by first | rfl | simp, rfl⟩
  · skip
    have hab := hab (by decide)
    obtain ⟨h1, h2⟩ := hab
    have HN := Lib.hid (fun B W => rnumber_same B W)
    rcases h1 with rfl | rfl <;> rcases h2 with rfl | rfl
    · have e0 : opW 15 0 0 = (0, 0) := by decide
      rw [e0]
      clear e0
      go_enter Tryz.func131, Tryz.ntmps131
      go_wp2_with fail
      refine (HN.out _ _).mono ?_
      rintro x w4 ⟨rfl, hw⟩
      have hw := hw.symm
      subst hw
      simp only [b2i, Bool.false_eq_true, if_false, if_true]
      go_wp2
      go_ret2
      exact ⟨by first | rfl | simp, rfl⟩
    · have e0 : opW 15 0 1 = (1, 0) := by decide
      rw [e0]
      clear e0
      go_enter Tryz.func131, Tryz.ntmps131
      go_wp2_with fail
      refine (HN.out _ _).mono ?_
      rintro x w4 ⟨rfl, hw⟩
      have hw := hw.symm
      subst hw
      simp only [b2i, Bool.false_eq_true, if_false, if_true]
      go_wp2
      go_ret2
      exact ⟨by first | rfl | simp, rfl⟩
    · have e0 : opW 15 1 0 = (1, 0) := by decide
      rw [e0]
      clear e0
      go_enter Tryz.func131, Tryz.ntmps131
      go_wp2_with fail
      refine (HN.out _ _).mono ?_
      rintro x w4 ⟨rfl, hw⟩
      have hw := hw.symm
      subst hw
      simp only [b2i, Bool.false_eq_true, if_false, if_true]
      go_wp2
      go_ret2
      exact ⟨by first | rfl | simp, rfl⟩
    · have e0 : opW 15 1 1 = (1, 0) := by decide
      rw [e0]
      clear e0
      go_enter Tryz.func131, Tryz.ntmps131
      go_wp2_with fail
      refine (HN.out _ _).mono ?_
      rintro x w4 ⟨rfl, hw⟩
      have hw := hw.symm
      subst hw
      simp only [b2i, Bool.false_eq_true, if_false, if_true]
      go_wp2
      go_ret2
      exact ⟨by first | rfl | simp, rfl⟩

end Go.Proofs.YtfgaihajopfmfaaGreatDoor

/-! ### ExREvalA: What the reference's eval returns. -/
namespace Go.Proofs.YtfgaihajopfmfaaGreatDoor
set_option linter.unusedSimpArgs false
set_option linter.unusedVariables false
open Go.RowKit

theorem cbL_args (lf : Int → ByteArray → Int → Int × Int) (op : Int → List Int → Int × Int) (es : List Ex) (h : (cbL lf op es).2 = 0) : ∀ a ∈ es, (cbE lf op a).2 = 0 := by
  induction es with
  | nil => intro a ha; cases ha
  | cons b r ih =>
    rw [cbL_cons] at h
    by_cases hb : (cbE lf op b).2 = 0
    · simp only [hb, ne_eq, not_true_eq_false, if_false] at h
      by_cases hr : (cbL lf op r).2 = 0
      · intro a ha
        rcases List.mem_cons.1 ha with rfl | ha
        · exact hb
        · exact ih hr a ha
      · simp [hr] at h
    · simp [hb] at h
theorem tyE_L {l : List Bd} {k o : Int} {s : ByteArray} {v : Int} {es : List Ex} (h : (tyE l (.mk k o s v es)).2 = 0) : (cbL (lfT l) opT es).2 = 0 := by
  unfold tyE at h
  rw [cbE_mk] at h
  by_cases hc : (cbL (lfT l) opT es).2 = 0
  · exact hc
  · simp [hc] at h
theorem tyE_args {l : List Bd} {k o : Int} {s : ByteArray} {v : Int} {es : List Ex} (h : (tyE l (.mk k o s v es)).2 = 0) : ∀ a ∈ es, (tyE l a).2 = 0 := cbL_args _ _ es (tyE_L h)
theorem val_args {l : List Bd} {k o : Int} {s : ByteArray} {v : Int} {es : List Ex} (hl : ckB l = true) (hp : prE (.mk k o s v es) = 0) (ht : (tyE l (.mk k o s v es)).2 = 0) {zs : List Int} (hz : cbL (lfV l) opV es = (zs, 0)) :
    (∀ i, i < zs.length → -1099511627776 ≤ gz zs i ∧ gz zs i ≤ 1099511627776) ∧ (14 ≤ o → o ≤ 15 → k = 4 → ∀ i, i < zs.length → gz zs i = 0 ∨ gz zs i = 1) := by
  have h1 := tyE_L ht
  obtain ⟨ts, hts⟩ : ∃ ts, cbL (lfT l) opT es = (ts, 0) := ⟨_, by rw [← h1]⟩
  have hok := (soundL l es (fun a ha t h => sound l hl a ((prE_zero.1 hp).2 a ha) t h) ts hts).1 (by rw [hz])
  rw [hz] at hok
  refine ⟨fun i hi => (hok.2 i (by rw [hok.1]; exact hi)).range, fun h14 h15 hk i hi => ?_⟩
  subst hk
  unfold tyE at ht
  rw [cbE_mk, hts] at ht
  have hlen := cbL_length _ _ es ts hts
  have hn : es.length = 2 := by
    rcases prP_zero.1 (prE_zero.1 hp).1 with h | h | h | h
    · omega
    · omega
    · omega
    · exact h.2.2.2.2.2
  simp only [ne_eq, not_true_eq_false, if_false] at ht
  rw [if_neg (by omega), opT_wt o ts (fun h => by rw [h] at hlen; simp at hlen; omega)] at ht
  have hw : wtO o ts = 2 := by
    have h5 : o = 14 ∨ o = 15 := by omega
    rcases h5 with rfl | rfl <;> rfl
  split at ht
  · rename_i hall
    have := all_wt.1 hall i (by rw [hok.1]; exact hi)
    have h3 := hok.2 i (by rw [hok.1]; exact hi)
    rw [this, hw] at h3
    rcases h3 with h | h
    · omega
    · exact h.2
  · simp at ht

set_option maxRecDepth 100000 in
set_option maxHeartbeats 8000000 in
theorem reval_any (l : List Bd) (hl : ckB l = true) (vb : Value) (e : Ex) : ∀ (sl : Value) (w : World), KX w e sl → KB w vb l → prE e = 0 → szE e ≤ 100 → (tyE l e).2 = 0 →
    Calls Tryz.prog 102 #[exV e sl, vb] w fun x w' => x = .returned (.tuple #[.int .i64 (vlE l e).1, .int .i64 (vlE l e).2]) ∧ Below w.heap.size w w' := by
  induction e using Ex.ind with
  | h k o s v es ih =>
  intro sl w hK hB hP hS hT
  obtain ⟨a, c, sf, rfl, h1, h2, hc⟩ := KA.inv hK
  have h1 : es.length ≤ c := h1
  have HIH := Lib.hid ih
  obtain ⟨w1, hw1⟩ : ∃ W, w.alloc (.cells #[.int .i64 k, .int .i64 o, .string s, .int .i64 v, .slice a es.length c] TX) = W := ⟨_, rfl⟩
  have hb1 : Below w.heap.size w w1 := by rw [← hw1]; exact below_allocW w _
  have HX1 : Hid (AtX w1 w.heap.size 0 (.mk k o s v es) (.slice a es.length c)) := Lib.hid (by rw [← hw1]; exact boxX w k o s v (.slice a es.length c) es)
  have HK1 : Hid (KX w1 (.mk k o s v es) (.slice a es.length c)) := Lib.hid (hK.carry hb1)
  have HKB1 : Hid (KB w1 vb l) := Lib.hid (hB.carry hb1)
  have HB1 := Lib.hid hb1
  have HW := Lib.hid hw1
  have HSZ1 : Hid (w1.heap.size = w.heap.size + 1) := Lib.hid (by rw [← hw1]; simp)
  have HP := Lib.hid (prE_arg hP)
  have HTA := Lib.hid (tyE_args hT)
  have HTE := Lib.hid hT
  have HPE := Lib.hid hP
  have HP0 := Lib.hid (prE_zero.1 hP).1
  have HS : Hid (szL es ≤ 100) := Lib.hid (by simp only [szE] at hS; omega)
  have HLen : Hid (es.length ≤ 100) := Lib.hid (Nat.le_trans (szL_len es) HS.out)
  simp only [exV, Ex.k, Ex.o, Ex.s, Ex.v, Ex.es] at *
  clear hc ih hK hB hP hS hb1 hw1 hT
  go_enter Tryz.func102, Tryz.ntmps102
  go_wp2
  rw [HW.out]
  go_loopw [6, 7] (fun y x wr => ∃ (j : Nat) (zs : List Int), j ≤ es.length ∧ x = .int .i64 j ∧ Hid (cbL (lfV l) opV (es.take j) = (zs, 0)) ∧ Hid (zs.length = j) ∧ Hid (OwnZ w1.heap.size zs y wr) ∧ Hid (Below w1.heap.size w1 wr)) (fun _ x _ => es.length - (intOf x).toNat)
  case atStart => exact ⟨0, [], Nat.zero_le _, rfl, Lib.hid (by simp [cbL]), Lib.hid rfl, Lib.hid (by rw [← HSZ1.out]; exact made_rowZ (World.alloc_heap_new w1 _) (Nat.le_refl _)), Lib.hid (below_allocW w1 _)⟩
  case round =>
    obtain ⟨j, zs, hj, rfl, HI, HZ, HO, HB⟩ := hrel
    have HXr := Lib.hid (HX1.out.keep (HB.out.block _ HX1.out.lt))
    have HKr := Lib.hid (HK1.out.carry HB.out)
    have HKBr := Lib.hid (HKB1.out.carry HB.out)
    have hx := HXr.out.2.2.2.2
    by_cases hlt : j < es.length
    · have k1 : (j : Int) < (es.length : Int) := by omega
      obtain ⟨sr, hcr⟩ := KA.at_ (show KA anyB wr es _ from HKr.out)
      obtain ⟨hKj, b, off, rfl, _, hbl, y0, y1, y2, y3, y4⟩ := hcr j hlt
      have HIN := Lib.hid (HIH.out (ga es j) (ga_mem hlt) (sr j) wr hKj HKBr.out (HP.out _ (ga_mem hlt)) (Nat.le_trans (szE_arg (ga_mem hlt)) HS.out) (HTA.out _ (ga_mem hlt)))
      have HST := Lib.hid (fun x h h0 => cbL_stop (lfV l) opV (x := x) HI.out hlt h h0)
      have HNX := Lib.hid (fun h => cbL_next (lfV l) opV HI.out hlt h)
      obtain ⟨p, hp⟩ : ∃ p, vlE l (ga es j) = p := ⟨_, rfl⟩
      have hp' : cbE (lfV l) opV (ga es j) = p := hp
      rw [hp'] at HST HNX
      rw [hp] at HIN
      obtain ⟨x, q⟩ := p
      simp only [] at HST HNX HIN
      clear hKj hcr hp hp'
      go_wp2_with fail
      refine HIN.out.mono ?_
      rintro x' w4 ⟨rfl, b4⟩
      have HX4 := Lib.hid (HXr.out.keep (b4.block _ HXr.out.lt))
      have HO4 := Lib.hid (HO.out.below b4)
      have HB4 := Lib.hid (HB.out.trans (b4.mono HB.out.size))
      clear b4 hx
      by_cases hq : q = 0
      · subst hq
        obtain ⟨v', w5, hr, ho, hb, _, hsz⟩ := row_next w1.heap.size w4 _ zs x HO4.out (by have := HLen.out; have := HZ.out; omega) HB4.out.size
        have HO5 := Lib.hid ho
        have HB5 := Lib.hid (HB4.out.trans hb)
        have HI5 := Lib.hid (HNX.out rfl)
        have HZ5 : Hid ((zs ++ [x]).length = j + 1) := Lib.hid (by rw [List.length_append, HZ.out]; rfl)
        clear ho hb hsz
        go_wp2_with (at_builtin; refine append_by_run _ rfl _ _ 79 rfl _ _ rfl rfl _ _ hr ?_)
        clear hr
        go_wp2
        go_roundw
        case rel => exact ⟨j + 1, zs ++ [x], by omega, by go_num, HI5, HZ5, HO5, HB5⟩
        case measure => simp [intOf]; omega
      · obtain ⟨q1, q2⟩ := ine hq
        have HR : Hid (vlE l (.mk k o s v es) = (0, q)) := Lib.hid (by
          unfold vlE
          rw [cbE_mk, HST.out q rfl hq]
          simp [hq])
        clear hq
        go_wp2
        go_ret2
        exact ⟨by rw [HR.out]; rfl, HB1.out.trans (HB4.out.mono HB1.out.size)⟩
    · have k1 : ¬ (j : Int) < (es.length : Int) := by omega
      have hje : j = es.length := by omega
      have HI2 : Hid (cbL (lfV l) opV es = (zs, 0)) := Lib.hid (by have := HI.out; rwa [hje, List.take_length] at this)
      have HZ2 : Hid (zs.length = es.length) := Lib.hid (by rw [HZ.out, hje])
      have HE : Hid (vlE l (.mk k o s v es) = if es.length = 0 then lfV l k s v else opV o zs) := Lib.hid (by unfold vlE; rw [cbE_mk, HI2.out]; simp)
      obtain ⟨x0, x1, x2, x3, x4⟩ := HXr.out
      simp only [Ex.k, Ex.o, Ex.s, Ex.v, Ex.es] at x0 x1 x2 x3 x4
      clear HIH HI hje
      have HBo : Hid (Below w.heap.size w wr) := Lib.hid (HB1.out.trans (HB.out.mono HB1.out.size))
      obtain ⟨hrg, hbo⟩ := val_args hl HPE.out HTE.out HI2.out
      rcases prP_zero.1 HP0.out with ⟨rfl, rfl, rfl, hv0, hv1, hn⟩ | ⟨rfl, rfl, hnm, rfl, hn⟩ | ⟨rfl, ho, rfl, rfl, hn⟩ | ⟨rfl, ho1, ho2, rfl, rfl, hn⟩
      · have HR : Hid (vlE l (.mk 1 0 .empty v es) = (v, 0)) := Lib.hid (by rw [HE.out, if_pos hn]; rfl)
        clear hv0 hv1 hn hrg hbo
        go_wp2
        go_ret2
        exact ⟨by rw [HR.out]; rfl, HBo.out⟩
      · have HF := Lib.hid (rfind_any l vb s wr HKBr.out)
        obtain ⟨b, hfd⟩ : ∃ b, fdB l s = some b := by
          have h := HTE.out
          have he : es = [] := by simpa using hn
          subst he
          unfold tyE at h
          rw [cbE_mk, cbL_nil] at h
          simp [lfT] at h
          cases hf : fdB l s with
          | none => rw [hf] at h; simp at h
          | some b => exact ⟨b, rfl⟩
        have HR : Hid (vlE l (.mk 2 0 s 0 es) = (b.2.2, 0)) := Lib.hid (by rw [HE.out, if_pos hn]; simp [lfV, hfd])
        have hD : fdD l s = b := by unfold fdD; rw [hfd]; rfl
        simp only [bdA] at HF
        rw [hfd, hD] at HF
        simp only [Option.isSome_some] at HF
        clear hn hnm hfd hD hrg hbo
        go_wp2_with fail
        refine HF.out.mono ?_
        rintro x w4 ⟨rfl, b4⟩
        have HB4 : Hid (Below w.heap.size w (w4.alloc (.cells #[.string b.1, .int .i64 b.2.1, .int .i64 b.2.2] TB))) := Lib.hid ((HBo.out.trans (b4.mono HBo.out.size)).alloc (Nat.le_trans HBo.out.size b4.size) _)
        clear b4
        go_wp2
        go_ret2
        exact ⟨by rw [HR.out]; rfl, HB4.out⟩
      · obtain ⟨x, rfl⟩ := list_one (HZ2.out.trans hn)
        obtain ⟨g, cap, rfl, hgB⟩ := ownZ_some (show wr.ownsRow w1.heap.size TZ 1 _ 1 (intV [x]) from HO.out) (by omega)
        have hc0 : wr.cell? ⟨g, 0, none⟩ = some (.int .i64 x) := World.ownsRow.cellAt (show wr.ownsRow w1.heap.size TZ 1 _ 1 (intV [x]) from HO.out) 0 (by omega)
        have hx1 : -1099511627776 ≤ x ∧ x ≤ 1099511627776 := hrg 0 (by simp)
        have HV : Hid (vlE l (.mk 3 o .empty 0 es) = opV o [x]) := Lib.hid (by rw [HE.out, if_neg (by omega)])
        have w1' : IntKind.i64.wrap (-x) = -x := IntWalk.i64_in _ (by omega)
        have w2' : IntKind.i64.wrap (1 - x) = 1 - x := IntWalk.i64_in _ (by omega)
        clear hn hgB hrg hbo
        rcases ho with rfl | rfl
        · have HR : Hid (vlE l (.mk 3 1 .empty 0 es) = (-x, 0)) := Lib.hid (by rw [HV.out]; rfl)
          go_wp2
          go_ret2
          exact ⟨by rw [HR.out]; rfl, HBo.out⟩
        · have HR : Hid (vlE l (.mk 3 2 .empty 0 es) = (1 - x, 0)) := Lib.hid (by rw [HV.out]; rfl)
          go_wp2
          go_ret2
          exact ⟨by rw [HR.out]; rfl, HBo.out⟩
      · obtain ⟨x, y, rfl⟩ := list_two (HZ2.out.trans hn)
        obtain ⟨g, cap, rfl, hgB⟩ := ownZ_some (show wr.ownsRow w1.heap.size TZ 1 _ 2 (intV [x, y]) from HO.out) (by omega)
        have hc0 : wr.cell? ⟨g, 0, none⟩ = some (.int .i64 x) := World.ownsRow.cellAt (show wr.ownsRow w1.heap.size TZ 1 _ 2 (intV [x, y]) from HO.out) 0 (by omega)
        have hc1 : wr.cell? ⟨g, 1, none⟩ = some (.int .i64 y) := World.ownsRow.cellAt (show wr.ownsRow w1.heap.size TZ 1 _ 2 (intV [x, y]) from HO.out) 1 (by omega)
        have hx1 : -1099511627776 ≤ x ∧ x ≤ 1099511627776 := hrg 0 (by simp)
        have hx2 : -1099511627776 ≤ y ∧ y ≤ 1099511627776 := hrg 1 (by simp)
        have HV : Hid (vlE l (.mk 4 o .empty 0 es) = opW o x y) := Lib.hid (by rw [HE.out, if_neg (by omega)]; rfl)
        have HOP := Lib.hid (fun W => rOperate_same o x y W ⟨ho1, ho2⟩ hx1 hx2 (fun h => ⟨hbo h ho2 rfl 0 (by simp), hbo h ho2 rfl 1 (by simp)⟩))
        obtain ⟨r, hr⟩ : ∃ r, opW o x y = r := ⟨_, rfl⟩
        rw [hr] at HV HOP
        obtain ⟨r1, r2⟩ := r
        simp only [] at HOP
        clear hn hgB hrg hbo hx1 hx2 hr ho1 ho2
        go_wp2_with fail
        go_quiet ((go_at_call 131; exact Calls.quiet_of_same (HOP.out _)))
        go_wp2
        go_ret2
        exact ⟨by rw [HV.out]; rfl, drewB HBo.out⟩

end Go.Proofs.YtfgaihajopfmfaaGreatDoor
