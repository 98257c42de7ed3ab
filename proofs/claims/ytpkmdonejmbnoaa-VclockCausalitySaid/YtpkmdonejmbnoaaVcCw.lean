/-
  Causality: the walk.
-/
import Derived.Test.YtpkmdonejmbnoaaVcStep
import Derived.Test.YtpkmdonejmbnoaaVcTicks
namespace Go.Proofs.Ytpkmdonejmbnoaa
open Go.RowKit

set_option maxRecDepth 100000 in
set_option maxHeartbeats 16000000 in
theorem vclockCausality_walk (ad : Option Addr) (cap : Nat) (z : List (Nat × Nat)) (w : World) (hE : HapsA w.heap.size w ad z) (hl : z.length ≤ 9223372036854775807) :
    Calls Try.prog 8 #[.slice ad z.length cap] w fun e w' => e = .returned (.bool true) ∧ Below w.heap.size w w' := by
  have HE := Lib.hid hE
  clear hE
  by_cases hz : 20 < z.length
  · have k1 : (20 : Int) < (z.length : Int) := by omega
    have HA := Lib.hid (awake_any w)
    go_enter Try.func8, Try.ntmps8
    go_wp2_with fail
    refine HA.out.mono ?_
    rintro e w1 ⟨rfl, b1⟩
    have B1 := Lib.hid b1
    clear b1
    go_wp2
    go_ret
    exact ⟨rfl, B1.out⟩
  · have k1 : ¬ (20 : Int) < (z.length : Int) := by omega
    have HG := Lib.hid (good_hist z (by omega))
    have HZ : Hid (z.length ≤ 20) := Lib.hid (by omega)
    clear hz
    obtain ⟨C, hC⟩ : ∃ C, w.heap.size = C := ⟨_, rfl⟩
    have HC := Lib.hid hC
    have HST0 : Hid (St C [] (.slice none 0 0) (.slice none 0 0) (.slice none 0 0) [] [] ((w.alloc (.cells #[.slice none 0 0] T46)).alloc (.cells #[.slice none 0 0] T47))) := Lib.hid (by
      refine St.start C _ ?_ ?_
      · rw [Below.heap_alloc _ _ _ (by rw [alloc_size, hC]; omega), ← hC]
        exact World.alloc_heap_new w _
      · rw [← hC, ← alloc_size w (.cells #[.slice none 0 0] T46)]
        exact World.alloc_heap_new _ _)
    have HB0 : Hid (Below C w ((w.alloc (.cells #[.slice none 0 0] T46)).alloc (.cells #[.slice none 0 0] T47))) := Lib.hid (by
      rw [← hC]
      exact ((Below.refl _ _).alloc (Nat.le_refl _) _).alloc (by rw [alloc_size]; omega) _)
    clear hC
    go_enter Try.func8, Try.ntmps8
    go_wp2_with fail
    rw [HC.out]
    go_loopw [5, 26] (fun pv i wr => ∃ (k : Nat) (cv dv : Value) (cvs dvs : List Value), k ≤ z.length ∧ i = .int .i64 k ∧ Hid (St C (hist (z.take k)) cv dv pv cvs dvs wr) ∧ Hid (Below C w wr)) (fun _ i _ => z.length - (intOf i).toNat)
    case atStart => exact ⟨0, _, _, _, _, Nat.zero_le _, rfl, HST0, HB0⟩
    case round =>
      obtain ⟨k, cv, dv, cvs, dvs, hk, rfl, HS, HB⟩ := hrel
      by_cases hlt : k < z.length
      · have k2 : (k : Int) < (z.length : Int) := by omega
        have k3 : (0 : Int) ≤ (k : Int) := by omega
        have hE2 := HE.out.below (HC.out ▸ HB.out)
        obtain ⟨b, off, rfl, _, q1, q2, l1, l2⟩ := hE2 k hlt
        clear hE2
        obtain ⟨P, hP⟩ : ∃ P, (z[k]?.getD (0, 0)).1 = P := ⟨_, rfl⟩
        obtain ⟨F, hF⟩ : ∃ F, (z[k]?.getD (0, 0)).2 = F := ⟨_, rfl⟩
        rw [hP] at q1 l1
        rw [hF] at q2 l2
        have HP := Lib.hid hP
        have HF := Lib.hid hF
        obtain ⟨H, hH⟩ : ∃ H, hist (z.take k) = H := ⟨_, rfl⟩
        have hHl : H.length = k := by rw [← hH, hist_length, List.length_take]; omega
        have g : Good H := by rw [← hH]; exact HG.out k hk
        have hnx : hist (z.take (k + 1)) = H ++ [newEv H P F] := by
          have e : z.take (k + 1) = z.take k ++ [(P, F)] := by
            rw [List.take_succ_eq_append_getElem hlt]
            have : z[k]?.getD (0, 0) = z[k] := by simp [hlt]
            rw [← hP, ← hF, this]
          rw [e, hist_snoc, hH]
        have hS := HS.out
        rw [hH] at hS
        have HSN := Lib.hid hS
        clear HS
        obtain ⟨wo, hwo⟩ : ∃ W, W = wr := ⟨_, rfl⟩
        subst hwo
        have HHL := Lib.hid hHl
        have HGD := Lib.hid g
        have HNX := Lib.hid hnx
        clear hS hHl g hnx hH hP hF
        have ia := Try.isAgg49
        have zo := Try.sizeOf49
        obtain ⟨p1, p2⟩ := mod_nat P 4 (by omega)
        have p1' : (P : Int).tmod 4 = ((P % 4 : Nat) : Int) := p1
        obtain ⟨p, hp⟩ : ∃ p, P % 4 = p := ⟨_, rfl⟩
        rw [hp] at p1' p2
        clear p1
        have wP : IntKind.i64.wrap (P : Int) = (P : Int) := IntWalk.i64_in _ (by omega)
        have wp' : IntKind.i64.wrap (p : Int) = (p : Int) := IntWalk.i64_in _ (by omega)
        have HPP := Lib.hid hp
        clear hp
        obtain hHl := HHL.out
        clear HHL
        subst hHl
        obtain ⟨w1, hw1⟩ : ∃ W, wo.alloc (.cells #[.int .u8 (P : Int), .int .u8 (F : Int)] 49) = W := ⟨_, rfl⟩
        have bw1 : Below wo.heap.size wo w1 := by rw [← hw1]; exact (Below.refl _ _).alloc (Nat.le_refl _) _
        have hs1 : w1.heap.size = wo.heap.size + 1 := by rw [← hw1]; exact alloc_size _ _
        have hbx : w1.heap[wo.heap.size]? = some (.cells #[.int .u8 (P : Int), .int .u8 (F : Int)] 49 (0, 0)) := by rw [← hw1]; exact World.alloc_heap_new wo _
        have HS1 := Lib.hid (HSN.out.below bw1)
        have HB1 := Lib.hid (HB.out.trans (bw1.mono (by have := (HC.out ▸ HB.out : Below w.heap.size w wo).size; rw [← HC.out]; exact this)))
        have HBX := Lib.hid hbx
        have HSZ := Lib.hid hs1
        have HW1 := Lib.hid hw1
        clear bw1 hs1 hbx hw1
        obtain ⟨i1, ji, jz0, jz1, jz2⟩ := info_parts infoBo
        go_wp2_with (at_make; rw [HW1.out]; refine wpList_make_full _ rfl (.tmp 35) (.tmp 35) 50 rfl w1.heap.size TBo i1 (.bool false) 1 Try.underlying50 ji jz0 jz1 .i64 .i64 _ _ H.length rfl rfl rfl rfl (by rw [jz2]; have := HZ.out; omega) (by unfold maxLen; omega) (Nat.le_refl _) ?_)
        intro w2 ho2 hg2
        rw [boolV_false] at ho2
        have HO2 := Lib.hid ho2
        have HG2 := Lib.hid ((Below.refl w1.heap.size w1).grown hg2 (Nat.le_refl _) (fun j hj => by cases hj))
        have HR2 := Lib.hid (World.ownsRow.lt ho2 w1.heap.size rfl).2
        clear ho2 hg2
        obtain ⟨w3, hw3⟩ : ∃ W, w2.alloc (.cells #[.slice (some ⟨w1.heap.size, 0, none⟩) H.length H.length] TBl) = W := ⟨_, rfl⟩
        have hs3 : w3.heap.size = w2.heap.size + 1 := by rw [← hw3]; exact alloc_size _ _
        have c4 := vNewF 4 w3
        rw [show newL 4 = zero4 from by unfold newL zero4; rw [if_neg (by omega)]; rfl, show newE 4 = 0 from by unfold newE; rw [if_neg (by omega)]] at c4
        have HC4 := Lib.hid c4
        have HW3 := Lib.hid hw3
        have HS3 := Lib.hid hs3
        clear c4 hw3 hs3
        go_wp2_with fail
        rw [HW3.out]
        refine HC4.out.mono ?_
        rintro e w4 ⟨v4, rfl, hk4, b4⟩
        clear HC4
        have hL5 : Lm w1.heap.size w2.heap.size w1.heap.size w4.heap.size (w4.heap.size + 1) H.length (fun _ => false, zero4) ((w4.alloc (.cells #[v4] 23)).alloc (.cells #[.int .i64 0] TX)) := Lm.start HO2.out HR2.out (by rw [HW3.out, ← HS3.out]; exact b4) (by rw [← HS3.out]; exact hk4)
        have hsq : w2.heap.size < w4.heap.size := by have := b4.size; have := HS3.out; omega
        have hB5 : Below w1.heap.size w1 ((w4.alloc (.cells #[v4] 23)).alloc (.cells #[.int .i64 0] TX)) := by
          have h1 := HG2.out
          have h2 : Below w1.heap.size w2 w3 := by rw [← HW3.out]; exact (Below.refl _ _).alloc (by have := HR2.out; omega) _
          have h3 : Below w1.heap.size w3 w4 := b4.mono (by have := HS3.out; have := HR2.out; omega)
          exact (((h1.trans h2).trans h3).alloc (by have := HR2.out; omega) _).alloc (by rw [alloc_size]; have := HR2.out; omega) _
        have HL5 := Lib.hid hL5
        have HB5 := Lib.hid hB5
        have HSQ := Lib.hid hsq
        obtain ⟨va4, vn4, vc4, rfl⟩ : ∃ a n c, v4 = .slice a n c := by obtain ⟨a, c', e, _⟩ := hk4; exact ⟨a, _, c', e⟩
        have HLN : Hid (∀ (st : (Nat → Bool) × List Int) (m : Nat) (W : World), Below w1.heap.size w1 W → Lm w1.heap.size w2.heap.size w1.heap.size w4.heap.size (w4.heap.size + 1) H.length st W → m < H.length → Pr st.2 (evK H m).c → Calls Try.prog 38 #[.int .i64 (m : Int), .pointer (some ⟨w2.heap.size, 0, none⟩), .pointer (some ⟨C + 1, 0, none⟩), .pointer (some ⟨w4.heap.size, 0, none⟩), .pointer (some ⟨C, 0, none⟩), .pointer (some ⟨w4.heap.size + 1, 0, none⟩)] W fun e W' => e = .returned (.tuple #[]) ∧ Below w1.heap.size w1 W' ∧ Lm w1.heap.size w2.heap.size w1.heap.size w4.heap.size (w4.heap.size + 1) H.length (learnK H st m) W') :=
          Lib.hid (fun st m W hb hL hm hp => learn_any C w1.heap.size w2.heap.size w1.heap.size w4.heap.size (w4.heap.size + 1) H cv dv u5 cvs dvs st m w1 W HS1.out rfl hb (Nat.le_refl _) HR2.out HSQ.out (Nat.lt_succ_self _) hL hm (by have := HZ.out; omega) hp)
        clear hL5 hB5 hsq hk4 b4
        go_wp2_with fail
        go_loopw [43] (fun x wr => ∃ m : Nat, m ≤ H.length ∧ x = .int .i64 m ∧ Hid (Lm w1.heap.size w2.heap.size w1.heap.size w4.heap.size (w4.heap.size + 1) H.length (ownF H p m) wr) ∧ Hid (Below w1.heap.size w1 wr)) (fun x _ => H.length - (intOf x).toNat)
        case atStart => exact ⟨0, Nat.zero_le _, rfl, HL5, HB5⟩
        case round =>
          obtain ⟨m, hm, rfl, HLm, HBm⟩ := hrel
          by_cases hmt : m < H.length
          · have m1 : (m : Int) < (H.length : Int) := by omega
            have m2 : (0 : Int) ≤ (m : Int) := by omega
            obtain ⟨gp, cp, rfl, q3⟩ := (HS1.out.below HBm.out).proc hmt
            obtain ⟨q, hq⟩ : ∃ q, (evK H m).p = q := ⟨_, rfl⟩
            rw [hq] at q3
            by_cases hqp : q = p
            · have hb' : ((q : Int) == (p : Int)) = true := by rw [hqp]; simp
              have HCL := Lib.hid (HLN.out _ m wr HBm.out HLm.out hmt ((ownF_lrn HGD.out p hm).pr HGD.out hmt))
              have HYS : Hid (ownF H p (m + 1) = learnK H (ownF H p m) m) := Lib.hid (ownF_yes (by rw [hq, hqp]))
              clear hq hqp
              go_wp2_with fail
              refine HCL.out.mono ?_
              rintro e w6 ⟨rfl, b6, l6⟩
              rw [← HYS.out] at l6
              have HL6 := Lib.hid l6
              have HB6 := Lib.hid b6
              clear b6 l6 q3
              go_wp2
              go_roundw
              case rel => exact ⟨m + 1, by omega, by go_num, HL6, HB6⟩
              case measure => simp [intOf]; omega
            · have hb' : ((q : Int) == (p : Int)) = false := by rw [beq_eq_false_iff_ne]; omega
              have HNO : Hid (ownF H p (m + 1) = ownF H p m) := Lib.hid (ownF_no (by rw [hq]; exact hqp))
              rw [← HNO.out] at HLm
              clear hq hqp
              go_wp2
              go_roundw
              case rel => exact ⟨m + 1, by omega, by go_num, HLm, HBm⟩
              case measure => simp [intOf]; omega
          · obtain rfl : m = H.length := by omega
            clear hmt hm
            have q4 : wr.cell? ⟨wo.heap.size, 1, none⟩ = some (.int .u8 (F : Int)) := by
              rw [Lib.cell_of_heap ((HBm.out.block wo.heap.size (by have := HSZ.out; omega)).trans HBX.out)]
              rfl
            by_cases hF0 : 0 < F
            · have f1 : (0 : Int) < (F : Int) := by omega
              by_cases hH0 : 0 < H.length
              · have f2 : (0 : Int) < (H.length : Int) := by omega
                obtain ⟨n1, n2⟩ := mod_nat F H.length hH0
                obtain ⟨f, hf⟩ : ∃ f, F % H.length = f := ⟨_, rfl⟩
                rw [hf] at n1 n2
                have wF : IntKind.i64.wrap (F : Int) = (F : Int) := IntWalk.i64_in _ (by omega)
                have wf' : IntKind.i64.wrap (f : Int) = (f : Int) := IntWalk.i64_in _ (by omega)
                have f3 : ¬ (H.length : Int) = 0 := by omega
                have HGK : Hid (learnK H (ownF H p H.length) f = gotK H p F) := Lib.hid (by rw [gotK_yes ⟨hF0, hH0⟩, hf])
                have HCL := Lib.hid (HLN.out _ f wr HBm.out HLm.out n2 ((ownF_lrn HGD.out p (Nat.le_refl _)).pr HGD.out n2))
                clear hf
                go_wp2_with fail
                refine HCL.out.mono ?_
                rintro e w6 ⟨rfl, b6, l6⟩
                rw [HGK.out] at l6
                have HL6 := Lib.hid l6
                have HB6 := Lib.hid b6
                clear b6 l6 HCL q4
                obtain ⟨uu, hub, huk⟩ := HL6.out.cbox
                obtain ⟨ua, un, uc, rfl⟩ : ∃ a n c, uu = .slice a n c := by obtain ⟨a, c', e, _⟩ := huk; exact ⟨a, _, c', e⟩
                have t1 : (w6).cell? ⟨w4.heap.size, 0, none⟩ = some (.slice ua un uc) := by rw [Lib.cell_of_heap hub]; rfl
                have HTK : Hid (Calls Try.prog 19 #[.slice ua un uc, .int .i64 (p : Int)] (w6) (RetF (tickL (gotK H p F).2 (p : Int)) 0 (w6))) := Lib.hid (by
                  obtain ⟨a, c', e1, h1, l1⟩ := huk.known
                  rw [e1]
                  have h := vTickF a c' (gotK H p F).2 (p : Int) (w6) h1 l1
                  obtain ⟨n1, _⟩ := new_tick HGD.out P F
                  rw [HPP.out] at n1
                  rw [n1] at h
                  exact h)
                have HLF := HL6
                have HBF := HB6
                clear hub huk
                go_wp2_with fail
                refine HTK.out.mono ?_
                rintro e w8 ⟨v8, rfl, hk8, b8⟩
                obtain ⟨va8, vn8, vc8, rfl⟩ : ∃ a n c, v8 = .slice a n c := by obtain ⟨a, c', e, _⟩ := hk8; exact ⟨a, _, c', e⟩
                have hK8 := (b8.block _ (heap_lt HLF.out.kbox)).trans HLF.out.kbox
                have hE8 := (b8.block _ (heap_lt HLF.out.ebox)).trans HLF.out.ebox
                have r1 : w8.cell? ⟨w4.heap.size + 1, 0, none⟩ = some (.int .i64 0) := by rw [Lib.cell_of_heap hE8]; rfl
                have hrow8 := ownZ_block HLF.out.krow (fun b e => b8.block b (World.ownsRow.lt HLF.out.krow b e).2)
                have hsz8 := HBF.out.size
                have HB8 := Lib.hid (HBF.out.trans (b8.mono hsz8))
                have HK8 := Lib.hid hK8
                have HR8 := Lib.hid hrow8
                have HV8 := Lib.hid (KlP.mono (ψ := fun b => w1.heap.size ≤ b) hk8 (fun b _ hb => by omega))
                have HS8 := Lib.hid (HS1.out.below HB8.out)
                clear hK8 hE8 hrow8 hsz8 hk8 b8 HTK t1
                go_wp2_with fail
                refine region24 ⟨rfl, by kernel_rfl, ⟨_, _, _, rfl⟩, ⟨_, _, _, rfl⟩, ⟨_, _, _, rfl⟩, ⟨_, _, rfl⟩, ⟨_, _, _, rfl⟩, ⟨_, _, _, rfl⟩, ⟨_, _, _, rfl⟩, ⟨_, _, rfl⟩, ⟨_, _, _, rfl⟩, ⟨_, _, _, rfl⟩, ⟨_, _, _, rfl⟩, ⟨_, _, rfl⟩, ⟨_, _, _, rfl⟩, ⟨_, _, _, rfl⟩, ⟨_, _, _, rfl⟩, by kernel_rfl, by kernel_rfl, by kernel_rfl, by kernel_rfl, by kernel_rfl, by kernel_rfl, by kernel_rfl, by kernel_rfl, by kernel_rfl, by kernel_rfl, by kernel_rfl, by kernel_rfl, by kernel_rfl, by kernel_rfl⟩ C w2.heap.size H.length cv dv u5 va8 vn8 vc8 w1.heap.size p cvs dvs _ _ w8 rfl rfl rfl rfl rfl rfl rfl (by have := HZ.out; omega) HS8.out.cbox HS8.out.dbox HK8.out (HS1.out.fre (Nat.le_of_lt HR2.out)) HS8.out.crow HS8.out.drow HS8.out.prow ?_
                intro cv' dv' pv' x84 x88 x92 w' hfr hC hD hc hd hp oc od op
                have HSE : Hid (St C (hist (z.take (H.length + 1))) cv' dv' pv' (cvs ++ [.slice va8 vn8 vc8]) (dvs ++ [.slice (some ⟨w1.heap.size, 0, none⟩) H.length H.length]) w') := Lib.hid (by
                  rw [HNX.out]
                  have eb : (newEv H P F).b = (gotK H p F).1 := by rw [← HPP.out]; rfl
                  have ec : (newEv H P F).c = tickL (gotK H p F).2 (p : Int) := by rw [← HPP.out]; rfl
                  have ep : ((newEv H P F).p : Int) = (p : Int) := by rw [← HPP.out]; rfl
                  exact HS8.out.more rfl hfr hC hD hc hd (by rw [ep]; exact hp) oc od op (by rw [ec]; exact HV8.out) (fun b hb => HS1.out.fre hb) (HS1.out.fre (Nat.le_refl _)) (heap_lt HS1.out.dbox) (by rw [eb]; exact HR8.out))
                have HBE : Hid (Below C w w') := Lib.hid (by
                  have h8 : Below C w w8 := HB1.out.trans (HB8.out.mono (by have := heap_lt HS1.out.cbox; omega))
                  exact ⟨hfr.os.trans h8.os, hfr.tape.trans h8.tape, hfr.output.trans h8.output, Nat.le_trans h8.size hfr.size, fun b hb => (hfr.block b (by have := heap_lt HS8.out.cbox; omega) (HS8.out.low hb)).trans (h8.block b hb)⟩)
                clear hfr hC hD hc hd hp oc od op
                simp only [fin24, List.setIfInBounds_toArray, List.set_cons_zero, List.set_cons_succ]
                go_wp2
                go_roundw
                case rel => exact ⟨H.length + 1, _, _, _, _, by omega, by go_num, HSE, HBE⟩
                case measure => simp [intOf]; omega
              · have f2 : ¬ (0 : Int) < (H.length : Int) := by omega
                have HL6 : Hid (Lm w1.heap.size w2.heap.size w1.heap.size w4.heap.size (w4.heap.size + 1) H.length (gotK H p F) wr) := Lib.hid (by rw [gotK_no (fun h => hH0 h.2)]; exact HLm.out)
                have HB6 := HBm
                obtain ⟨uu, hub, huk⟩ := HL6.out.cbox
                obtain ⟨ua, un, uc, rfl⟩ : ∃ a n c, uu = .slice a n c := by obtain ⟨a, c', e, _⟩ := huk; exact ⟨a, _, c', e⟩
                have t1 : (wr).cell? ⟨w4.heap.size, 0, none⟩ = some (.slice ua un uc) := by rw [Lib.cell_of_heap hub]; rfl
                have HTK : Hid (Calls Try.prog 19 #[.slice ua un uc, .int .i64 (p : Int)] (wr) (RetF (tickL (gotK H p F).2 (p : Int)) 0 (wr))) := Lib.hid (by
                  obtain ⟨a, c', e1, h1, l1⟩ := huk.known
                  rw [e1]
                  have h := vTickF a c' (gotK H p F).2 (p : Int) (wr) h1 l1
                  obtain ⟨n1, _⟩ := new_tick HGD.out P F
                  rw [HPP.out] at n1
                  rw [n1] at h
                  exact h)
                have HLF := HL6
                have HBF := HB6
                clear hub huk
                go_wp2_with fail
                refine HTK.out.mono ?_
                rintro e w8 ⟨v8, rfl, hk8, b8⟩
                obtain ⟨va8, vn8, vc8, rfl⟩ : ∃ a n c, v8 = .slice a n c := by obtain ⟨a, c', e, _⟩ := hk8; exact ⟨a, _, c', e⟩
                have hK8 := (b8.block _ (heap_lt HLF.out.kbox)).trans HLF.out.kbox
                have hE8 := (b8.block _ (heap_lt HLF.out.ebox)).trans HLF.out.ebox
                have r1 : w8.cell? ⟨w4.heap.size + 1, 0, none⟩ = some (.int .i64 0) := by rw [Lib.cell_of_heap hE8]; rfl
                have hrow8 := ownZ_block HLF.out.krow (fun b e => b8.block b (World.ownsRow.lt HLF.out.krow b e).2)
                have hsz8 := HBF.out.size
                have HB8 := Lib.hid (HBF.out.trans (b8.mono hsz8))
                have HK8 := Lib.hid hK8
                have HR8 := Lib.hid hrow8
                have HV8 := Lib.hid (KlP.mono (ψ := fun b => w1.heap.size ≤ b) hk8 (fun b _ hb => by omega))
                have HS8 := Lib.hid (HS1.out.below HB8.out)
                clear hK8 hE8 hrow8 hsz8 hk8 b8 HTK t1
                go_wp2_with fail
                refine region24 ⟨rfl, by kernel_rfl, ⟨_, _, _, rfl⟩, ⟨_, _, _, rfl⟩, ⟨_, _, _, rfl⟩, ⟨_, _, rfl⟩, ⟨_, _, _, rfl⟩, ⟨_, _, _, rfl⟩, ⟨_, _, _, rfl⟩, ⟨_, _, rfl⟩, ⟨_, _, _, rfl⟩, ⟨_, _, _, rfl⟩, ⟨_, _, _, rfl⟩, ⟨_, _, rfl⟩, ⟨_, _, _, rfl⟩, ⟨_, _, _, rfl⟩, ⟨_, _, _, rfl⟩, by kernel_rfl, by kernel_rfl, by kernel_rfl, by kernel_rfl, by kernel_rfl, by kernel_rfl, by kernel_rfl, by kernel_rfl, by kernel_rfl, by kernel_rfl, by kernel_rfl, by kernel_rfl, by kernel_rfl, by kernel_rfl⟩ C w2.heap.size H.length cv dv u5 va8 vn8 vc8 w1.heap.size p cvs dvs _ _ w8 rfl rfl rfl rfl rfl rfl rfl (by have := HZ.out; omega) HS8.out.cbox HS8.out.dbox HK8.out (HS1.out.fre (Nat.le_of_lt HR2.out)) HS8.out.crow HS8.out.drow HS8.out.prow ?_
                intro cv' dv' pv' x84 x88 x92 w' hfr hC hD hc hd hp oc od op
                have HSE : Hid (St C (hist (z.take (H.length + 1))) cv' dv' pv' (cvs ++ [.slice va8 vn8 vc8]) (dvs ++ [.slice (some ⟨w1.heap.size, 0, none⟩) H.length H.length]) w') := Lib.hid (by
                  rw [HNX.out]
                  have eb : (newEv H P F).b = (gotK H p F).1 := by rw [← HPP.out]; rfl
                  have ec : (newEv H P F).c = tickL (gotK H p F).2 (p : Int) := by rw [← HPP.out]; rfl
                  have ep : ((newEv H P F).p : Int) = (p : Int) := by rw [← HPP.out]; rfl
                  exact HS8.out.more rfl hfr hC hD hc hd (by rw [ep]; exact hp) oc od op (by rw [ec]; exact HV8.out) (fun b hb => HS1.out.fre hb) (HS1.out.fre (Nat.le_refl _)) (heap_lt HS1.out.dbox) (by rw [eb]; exact HR8.out))
                have HBE : Hid (Below C w w') := Lib.hid (by
                  have h8 : Below C w w8 := HB1.out.trans (HB8.out.mono (by have := heap_lt HS1.out.cbox; omega))
                  exact ⟨hfr.os.trans h8.os, hfr.tape.trans h8.tape, hfr.output.trans h8.output, Nat.le_trans h8.size hfr.size, fun b hb => (hfr.block b (by have := heap_lt HS8.out.cbox; omega) (HS8.out.low hb)).trans (h8.block b hb)⟩)
                clear hfr hC hD hc hd hp oc od op
                simp only [fin24, List.setIfInBounds_toArray, List.set_cons_zero, List.set_cons_succ]
                go_wp2
                go_roundw
                case rel => exact ⟨H.length + 1, _, _, _, _, by omega, by go_num, HSE, HBE⟩
                case measure => simp [intOf]; omega
            · have f1 : ¬ (0 : Int) < (F : Int) := by omega
              have HL6 : Hid (Lm w1.heap.size w2.heap.size w1.heap.size w4.heap.size (w4.heap.size + 1) H.length (gotK H p F) wr) := Lib.hid (by rw [gotK_no (fun h => hF0 h.1)]; exact HLm.out)
              have HB6 := HBm
              obtain ⟨uu, hub, huk⟩ := HL6.out.cbox
              obtain ⟨ua, un, uc, rfl⟩ : ∃ a n c, uu = .slice a n c := by obtain ⟨a, c', e, _⟩ := huk; exact ⟨a, _, c', e⟩
              have t1 : (wr).cell? ⟨w4.heap.size, 0, none⟩ = some (.slice ua un uc) := by rw [Lib.cell_of_heap hub]; rfl
              have HTK : Hid (Calls Try.prog 19 #[.slice ua un uc, .int .i64 (p : Int)] (wr) (RetF (tickL (gotK H p F).2 (p : Int)) 0 (wr))) := Lib.hid (by
                obtain ⟨a, c', e1, h1, l1⟩ := huk.known
                rw [e1]
                have h := vTickF a c' (gotK H p F).2 (p : Int) (wr) h1 l1
                obtain ⟨n1, _⟩ := new_tick HGD.out P F
                rw [HPP.out] at n1
                rw [n1] at h
                exact h)
              have HLF := HL6
              have HBF := HB6
              clear hub huk
              go_wp2_with fail
              refine HTK.out.mono ?_
              rintro e w8 ⟨v8, rfl, hk8, b8⟩
              obtain ⟨va8, vn8, vc8, rfl⟩ : ∃ a n c, v8 = .slice a n c := by obtain ⟨a, c', e, _⟩ := hk8; exact ⟨a, _, c', e⟩
              have hK8 := (b8.block _ (heap_lt HLF.out.kbox)).trans HLF.out.kbox
              have hE8 := (b8.block _ (heap_lt HLF.out.ebox)).trans HLF.out.ebox
              have r1 : w8.cell? ⟨w4.heap.size + 1, 0, none⟩ = some (.int .i64 0) := by rw [Lib.cell_of_heap hE8]; rfl
              have hrow8 := ownZ_block HLF.out.krow (fun b e => b8.block b (World.ownsRow.lt HLF.out.krow b e).2)
              have hsz8 := HBF.out.size
              have HB8 := Lib.hid (HBF.out.trans (b8.mono hsz8))
              have HK8 := Lib.hid hK8
              have HR8 := Lib.hid hrow8
              have HV8 := Lib.hid (KlP.mono (ψ := fun b => w1.heap.size ≤ b) hk8 (fun b _ hb => by omega))
              have HS8 := Lib.hid (HS1.out.below HB8.out)
              clear hK8 hE8 hrow8 hsz8 hk8 b8 HTK t1
              go_wp2_with fail
              refine region24 ⟨rfl, by kernel_rfl, ⟨_, _, _, rfl⟩, ⟨_, _, _, rfl⟩, ⟨_, _, _, rfl⟩, ⟨_, _, rfl⟩, ⟨_, _, _, rfl⟩, ⟨_, _, _, rfl⟩, ⟨_, _, _, rfl⟩, ⟨_, _, rfl⟩, ⟨_, _, _, rfl⟩, ⟨_, _, _, rfl⟩, ⟨_, _, _, rfl⟩, ⟨_, _, rfl⟩, ⟨_, _, _, rfl⟩, ⟨_, _, _, rfl⟩, ⟨_, _, _, rfl⟩, by kernel_rfl, by kernel_rfl, by kernel_rfl, by kernel_rfl, by kernel_rfl, by kernel_rfl, by kernel_rfl, by kernel_rfl, by kernel_rfl, by kernel_rfl, by kernel_rfl, by kernel_rfl, by kernel_rfl, by kernel_rfl⟩ C w2.heap.size H.length cv dv u5 va8 vn8 vc8 w1.heap.size p cvs dvs _ _ w8 rfl rfl rfl rfl rfl rfl rfl (by have := HZ.out; omega) HS8.out.cbox HS8.out.dbox HK8.out (HS1.out.fre (Nat.le_of_lt HR2.out)) HS8.out.crow HS8.out.drow HS8.out.prow ?_
              intro cv' dv' pv' x84 x88 x92 w' hfr hC hD hc hd hp oc od op
              have HSE : Hid (St C (hist (z.take (H.length + 1))) cv' dv' pv' (cvs ++ [.slice va8 vn8 vc8]) (dvs ++ [.slice (some ⟨w1.heap.size, 0, none⟩) H.length H.length]) w') := Lib.hid (by
                rw [HNX.out]
                have eb : (newEv H P F).b = (gotK H p F).1 := by rw [← HPP.out]; rfl
                have ec : (newEv H P F).c = tickL (gotK H p F).2 (p : Int) := by rw [← HPP.out]; rfl
                have ep : ((newEv H P F).p : Int) = (p : Int) := by rw [← HPP.out]; rfl
                exact HS8.out.more rfl hfr hC hD hc hd (by rw [ep]; exact hp) oc od op (by rw [ec]; exact HV8.out) (fun b hb => HS1.out.fre hb) (HS1.out.fre (Nat.le_refl _)) (heap_lt HS1.out.dbox) (by rw [eb]; exact HR8.out))
              have HBE : Hid (Below C w w') := Lib.hid (by
                have h8 : Below C w w8 := HB1.out.trans (HB8.out.mono (by have := heap_lt HS1.out.cbox; omega))
                exact ⟨hfr.os.trans h8.os, hfr.tape.trans h8.tape, hfr.output.trans h8.output, Nat.le_trans h8.size hfr.size, fun b hb => (hfr.block b (by have := heap_lt HS8.out.cbox; omega) (HS8.out.low hb)).trans (h8.block b hb)⟩)
              clear hfr hC hD hc hd hp oc od op
              simp only [fin24, List.setIfInBounds_toArray, List.set_cons_zero, List.set_cons_succ]
              go_wp2
              go_roundw
              case rel => exact ⟨H.length + 1, _, _, _, _, by omega, by go_num, HSE, HBE⟩
              case measure => simp [intOf]; omega
      · obtain rfl : k = z.length := by omega
        have hS := HS.out
        rw [List.take_length] at hS
        have g := HG.out z.length (Nat.le_refl _)
        rw [List.take_length] at g
        obtain ⟨H, hH⟩ : ∃ H, hist z = H := ⟨_, rfl⟩
        rw [hH] at hS g
        have hHl : H.length = z.length := by rw [← hH, hist_length]
        have HSN := Lib.hid hS
        have HGD := Lib.hid g
        have HHL := Lib.hid hHl
        obtain ⟨wo, hwo⟩ : ∃ W, W = wr := ⟨_, rfl⟩
        subst hwo
        clear hS g hH hHl HS hlt hk
        go_wp2_with fail
        go_loopw [97] (fun x wr => ∃ i : Nat, i ≤ z.length ∧ x = .int .i64 i ∧ Hid (Below wo.heap.size wo wr)) (fun x _ => z.length - (intOf x).toNat)
        case atStart => exact ⟨0, Nat.zero_le _, rfl, Lib.hid (Below.refl _ _)⟩
        case round =>
          obtain ⟨i, hi, rfl, HBi⟩ := hrel
          by_cases hit : i < z.length
          · have i1 : (i : Int) < (z.length : Int) := by omega
            go_wp2_with fail
            go_loopw [101] (fun x wr => ∃ m : Nat, m ≤ i ∧ x = .int .i64 m ∧ Hid (Below wo.heap.size wo wr)) (fun x _ => i - (intOf x).toNat)
            case atStart => exact ⟨0, Nat.zero_le _, rfl, HBi⟩
            case round =>
              obtain ⟨m, hm, rfl, HBm⟩ := hrel
              by_cases hmt : m < i
              · have hml : m < H.length := by have := HHL.out; omega
                have hil : i < H.length := by have := HHL.out; omega
                have m1 : (m : Int) < (i : Int) := by omega
                have m2 : (0 : Int) ≤ (m : Int) := by omega
                have i2 : (0 : Int) ≤ (i : Int) := by omega
                have m3 : (m : Int) < (H.length : Int) := by omega
                have i3 : (i : Int) < (H.length : Int) := by omega
                have hst := HSN.out.below HBm.out
                obtain ⟨gc, cc, gd, cd, gp, cp, um, _, _, rfl, rfl, rfl, hum, _⟩ := hst.forms hml
                obtain ⟨_, _, _, _, _, _, ui, g2, c2, _, _, _, hui, hdi⟩ := hst.forms hil
                have d1 : wr.cell? ⟨C + 1, 0, none⟩ = some (.slice (some ⟨gd, 0, none⟩) H.length cd) := by rw [Lib.cell_of_heap hst.dbox]; rfl
                have d2 := hst.knownAt rfl hil hdi
                have d3 := hst.knownRow hil hdi m hmt
                have d4 : wr.cell? ⟨C, 0, none⟩ = some (.slice (some ⟨gc, 0, none⟩) H.length cc) := by rw [Lib.cell_of_heap hst.cbox]; rfl
                have d5 := hst.clockAt rfl hml hum
                have d6 := hst.clockAt rfl hil hui
                obtain ⟨gp', cp', ep, d7⟩ := hst.proc hml
                cases ep
                have hkm := hst.clockOf hml hum
                have hki := hst.clockOf hil hui
                obtain ⟨is, his⟩ : ∃ b, (evK H i).b m = b := ⟨_, rfl⟩
                obtain ⟨q, hq⟩ : ∃ q, (evK H m).p = q := ⟨_, rfl⟩
                obtain ⟨xm, hxm⟩ : ∃ x, (evK H m).c = x := ⟨_, rfl⟩
                obtain ⟨xi, hxi⟩ : ∃ x, (evK H i).c = x := ⟨_, rfl⟩
                have hq4 : q < 4 := by rw [← hq]; exact HGD.out.p4 m hml
                have lm : xm.length = 4 := by rw [← hxm]; exact (ev_ok HGD.out hml).2
                have li : xi.length = 4 := by rw [← hxi]; exact (ev_ok HGD.out hil).2
                have hbf : cmpK xm xi = 1 ↔ is = true := by rw [← hxm, ← hxi, ← his]; exact before_iff HGD.out hil hmt
                have hna : cmpK xi xm ≠ 1 := by rw [← hxm, ← hxi]; exact not_after HGD.out hil hmt
                have hkv : kovB xi (q : Int) (gz xm q) = is := by rw [← hxm, ← hxi, ← his, ← hq]; exact kov_iff HGD.out hil hmt
                rw [his] at d3
                rw [hq] at d7
                rw [hxm] at hkm
                rw [hxi] at hki
                have km := hkm.known
                have ki := hki.known
                obtain ⟨am, cm, rfl, hIm, _⟩ := hkm.known
                obtain ⟨ai, ci, rfl, hIi, hli⟩ := hki.known
                obtain ⟨bm, om, rfl, _, d8⟩ := hIm q (by omega)
                change wr.cell? ⟨bm, om + q, none⟩ = some (.int .i64 (gz xm q)) at d8
                obtain ⟨y, hy⟩ : ∃ y, gz xm q = y := ⟨_, rfl⟩
                obtain ⟨x1, hx1⟩ : ∃ x, cmpK xm xi = x := ⟨_, rfl⟩
                obtain ⟨x2, hx2⟩ : ∃ x, cmpK xi xm = x := ⟨_, rfl⟩
                rw [hy] at d8 hkv
                rw [hx1] at hbf
                rw [hx2] at hna
                rw [lm] at d5
                rw [li] at d6
                have hq1 : (q : Int) < 4 := by omega
                have hq2 : (0 : Int) ≤ (q : Int) := by omega
                have D1 : Hid (∀ n, Calls Try.prog 29 #[.slice (some ⟨bm, om, none⟩) 4 cm, .slice ai 4 ci] (wr.drewN n) fun e w' => e = .returned (.int .i64 x1) ∧ w' = wr.drewN n) := Lib.hid (fun n => by
                  have h := vCompare_at _ _ xm xi (wr.drewN n) (KlC.drewN n km) (KlC.drewN n ki)
                  rw [lm, li, hx1] at h
                  exact h.mono (fun _ _ k => ⟨k.1, k.2.symm⟩))
                have D2 : Hid (∀ n, Calls Try.prog 29 #[.slice ai 4 ci, .slice (some ⟨bm, om, none⟩) 4 cm] (wr.drewN n) fun e w' => e = .returned (.int .i64 x2) ∧ w' = wr.drewN n) := Lib.hid (fun n => by
                  have h := vCompare_at _ _ xi xm (wr.drewN n) (KlC.drewN n ki) (KlC.drewN n km)
                  rw [lm, li, hx2] at h
                  exact h.mono (fun _ _ k => ⟨k.1, k.2.symm⟩))
                have D3 : Hid (∀ n, Calls Try.prog 17 #[.slice ai 4 ci, .int .i64 (q : Int), .int .i64 y] (wr.drewN n) fun e w' => e = .returned (.bool is) ∧ w' = wr.drewN n) := Lib.hid (fun n => by
                  have h := vKovers_any wr.heap.size ai ci xi (q : Int) y (wr.drewN n) hIi hli
                  rw [li, hkv] at h
                  exact h.mono (fun _ _ k => ⟨k.1, k.2.symm⟩))
                have BD : Hid (∀ n, Below wo.heap.size wo (wr.drewN n)) := Lib.hid (fun n => below_drewZ HBm.out)
                have hb2 : (x2 == 1) = false := by rw [beq_eq_false_iff_ne]; exact hna
                clear hst hum hui hdi hkm hki km ki hIm hIi hli his hq hxm hxi hq4 lm li hkv hy hx1 hx2 hna
                cases is with
                | true =>
                  have hb1 : (x1 == 1) = true := by rw [beq_iff_eq]; exact hbf.2 rfl
                  clear hbf
                  go_wp2_with fail
                  go_quiet ((first | (go_at_call 29; first | (with_reducible exact Calls.quiet_of_same (D1.out _)) | (with_reducible exact Calls.quiet_of_same (D2.out _))) | (go_at_call 17; exact Calls.quiet_of_same (D3.out _))))
                  go_wp2
                  go_roundw
                  case rel => exact ⟨m + 1, by omega, by go_num, Lib.hid (BD.out _)⟩
                  case measure => simp [intOf]; omega
                | false =>
                  have hb1 : (x1 == 1) = false := by rw [beq_eq_false_iff_ne]; intro e; have := hbf.1 e; cases this
                  clear hbf
                  go_wp2_with fail
                  go_quiet ((first | (go_at_call 29; first | (with_reducible exact Calls.quiet_of_same (D1.out _)) | (with_reducible exact Calls.quiet_of_same (D2.out _))) | (go_at_call 17; exact Calls.quiet_of_same (D3.out _))))
                  go_wp2
                  go_roundw
                  case rel => exact ⟨m + 1, by omega, by go_num, Lib.hid (BD.out _)⟩
                  case measure => simp [intOf]; omega
              · obtain rfl : m = i := by omega
                clear hmt hm
                go_wp2
                go_roundw
                case rel => exact ⟨m + 1, by omega, by go_num, HBm⟩
                case measure => simp [intOf]; omega
          · obtain rfl : i = z.length := by omega
            have HA := Lib.hid (awake_any wr)
            have hBW : Below C w wr := HB.out.trans (HBi.out.mono (by have := heap_lt HSN.out.cbox; omega))
            have HBW := Lib.hid hBW
            clear hit hi hBW
            go_wp2_with fail
            refine HA.out.mono ?_
            rintro e w9 ⟨rfl, b9⟩
            have BF : Hid (Below C w w9) := Lib.hid (HBW.out.trans (b9.mono (by have := heap_lt (HSN.out.below HBi.out).cbox; omega)))
            clear b9
            go_wp2
            go_ret
            exact ⟨rfl, by first | exact BF.out | (rw [HC.out]; exact BF.out)⟩

end Go.Proofs.Ytpkmdonejmbnoaa
