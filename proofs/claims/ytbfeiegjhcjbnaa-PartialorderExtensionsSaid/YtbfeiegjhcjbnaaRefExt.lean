/-
  What the reference's extend and Extensions of partialorder return.
-/
import Derived.Test.YtbfeiegjhcjbnaaRefExtA
namespace Go.Proofs.Ytbfeiegjhcjbnaa
open Go.RowKit

set_option maxRecDepth 100000 in
set_option maxHeartbeats 8000000 in
theorem refExtend_any (B U N most : Nat) (ad : Option Addr) (cap : Nat) (es : List (Int × Int)) (f : Nat → Nat → Bool) (hfe : relG (gN es) = f) (hN : N ≤ 200) (hk : es.length ≤ 2000) (hok : OkE N es) (hmost : most ≤ 5000) (hUB : B ≤ U) :
    ∀ (m : Nat) (done : List Nat) (da : Option Addr) (dc : Nat) (ll : List (List Nat)) (oa : Option Addr) (oc : Nat) (vs : List Value) (w : World), m + done.length = N → EdgesA B w ad es → B ≤ w.heap.size → UsedAt B U N done w → OwnN B done (.slice da done.length dc) w → LisR B ll (.slice oa ll.length oc) vs w → ll.length ≤ most →
    Calls Try.prog 61 #[.int .i64 (N : Int), .slice ad es.length cap, .int .i64 (most : Int), .slice (some ⟨U, 0, none⟩) N N, .slice da done.length dc, .slice oa ll.length oc] w fun e w' => ∃ v' : Value, e = .returned v' ∧ (∃ vs' : List Value, LisR B ((ll ++ extN N f m done).take most) v' vs' w') ∧ UsedAt B U N done w' ∧ XsK U (.slice oa ll.length oc) w v' w' := by
  intro m
  induction m with
  | zero =>
    intro done da dc ll oa oc vs w hm hE hB hU hD hL hll
    by_cases hfull : most ≤ ll.length
    · have k1 : (most : Int) ≤ (ll.length : Int) := by omega
      have HR : Hid (LisR B ((ll ++ extN N f 0 done).take most) (.slice oa ll.length oc) vs w) := Lib.hid (by
        rw [List.take_append_of_le_length hfull, List.take_of_length_le hll]
        exact hL)
      have HU := Lib.hid hU
      clear hE hU hD hL hm
      go_enter Try.func61, Try.ntmps61
      go_wp2
      go_ret
      exact ⟨_, rfl, ⟨vs, HR.out⟩, HU.out, XsK.refl _ _ _⟩
    · have k1 : ¬ (most : Int) ≤ (ll.length : Int) := by omega
      obtain rfl : done.length = N := by omega
      obtain ⟨u, w1, hrun1, hel1, hg1, hone, hlt1⟩ := appendCopy hD (by omega)
      obtain ⟨ua, un, uc, rfl⟩ : ∃ a n c, u = .slice a n c := by
        rcases hel1 with ⟨rfl, _⟩ | ⟨G, c, rfl, _⟩
        · exact ⟨_, _, _, rfl⟩
        · exact ⟨_, _, _, rfl⟩
      have hel1' : ElR B done (.slice ua un uc) (w1.alloc (.cells #[.slice ua un uc] TL)) := by
        have h2 : ElR B done (.slice ua un uc) w1 := by
          rcases hel1 with h2 | ⟨G, c, e, h2⟩
          · exact .inl h2
          · exact .inr ⟨G, c, e, ownsRow_base hB h2⟩
        exact h2.keep (fun b hb => by
          obtain ⟨c, hc⟩ := h2.type b hb
          exact Below.heap_alloc w1 _ b (lt_of_heap hc))
      have hg12 : w.grownBy (w1.alloc (.cells #[.slice ua un uc] TL)) none := grown_trans hg1 (World.grownBy_alloc w1 _ none)
      have hs12 := hg12.size
      obtain ⟨v', w2, hrun2, hL2, hX2, hK2⟩ := LisR.snoc (hL.new hg12) hel1' (by omega) ⟨w1.heap.size, 0, none⟩ (box_cell (World.alloc_heap_new w1 _)) (by omega) U
      have HR : Hid (LisR B ((ll ++ extN done.length f 0 done).take most) v' (vs ++ [.slice ua un uc]) w2) := Lib.hid (by
        rw [List.take_of_length_le (by show (ll ++ [done]).length ≤ most; simp; omega)]
        exact hL2)
      have HU : Hid (UsedAt B U done.length done w2) := Lib.hid (by
        have h1 : UsedAt B U done.length done (w1.alloc (.cells #[.slice ua un uc] TL)) := own_nilkeep hU (fun b hb => hg12.block b (World.ownsRow.lt hU b hb).2 (by simp))
        refine own_nilkeep h1 (fun b hb => ?_)
        obtain ⟨_, c, hc⟩ := own_nilType h1 b hb
        exact hK2 b c _ hc (by decide))
      have HX := Lib.hid ((XsK.new U (.slice oa ll.length oc) hg12).trans hX2)
      have HRUN1 := Lib.hid hrun1
      have HRUN2 := Lib.hid hrun2
      clear hE hU hD hL hm hrun1 hrun2 hel1 hg1 hlt1 hel1' hg12 hs12 hL2 hX2 hK2 hone
      go_enter Try.func61, Try.ntmps61
      go_wp2_with (at_builtin; first | refine append_by_run _ rfl _ _ _ rfl _ _ rfl rfl _ _ HRUN1.out ?_ | refine append_by_run _ rfl _ _ _ rfl _ _ rfl rfl _ _ HRUN2.out ?_)
      go_ret
      exact ⟨_, rfl, ⟨_, HR.out⟩, HU.out, HX.out⟩
  | succ m ih =>
    intro done da dc ll oa oc vs w hm hE hB hU hD hL hll
    by_cases hfull : most ≤ ll.length
    · have k1 : (most : Int) ≤ (ll.length : Int) := by omega
      have HR : Hid (LisR B ((ll ++ extN N f (m + 1) done).take most) (.slice oa ll.length oc) vs w) := Lib.hid (by
        rw [List.take_append_of_le_length hfull, List.take_of_length_le hll]
        exact hL)
      have HU := Lib.hid hU
      clear hE hU hD hL hm ih
      go_enter Try.func61, Try.ntmps61
      go_wp2
      go_ret
      exact ⟨_, rfl, ⟨vs, HR.out⟩, HU.out, XsK.refl _ _ _⟩
    · have k1 : ¬ (most : Int) ≤ (ll.length : Int) := by omega
      have k2 : ((done.length : Int) == (N : Int)) = false := beq_eq_false_iff_ne.2 (by omega)
      have hlen : done.length < N := by omega
      have hS : ∀ w' : World, (Instr.slice 23 (.slice da done.length dc) none (some (.int .i64 (done.length : Int))) (some (.int .i64 (done.length : Int)))).run Try.prog w' = .ok (.slice da done.length done.length) w' := by
        intro w'
        obtain ⟨a', c', e', hc1, hc2⟩ := own_sliceS hD
        injection e' with e1 e2 e3
        subst e3
        rw [run_slice_hm w' 23 da done.length dc (by kernel_rfl) .i64 .i64 _ _ (by omega) (by omega) (by omega)]
        have hz : (sizeOf (Try.prog.elem 23)).run Try.prog w' = .ok 1 w' := by kernel_rfl
        rw [hz]
        have hda : da = none ∨ ∃ g, da = some ⟨g, 0, none⟩ := by
          rcases hD.2 with ⟨e, _⟩ | ⟨g, cap, cur, e, _⟩
          · injection e with e1 _ _
            exact .inl e1
          · injection e with e1 _ _
            exact .inr ⟨g, e1⟩
        rcases hda with rfl | ⟨g, rfl⟩ <;> simp [Result.andThen, sliced, Addr.add]
      have HE := Lib.hid hE
      have HOK := Lib.hid hok
      have HD := Lib.hid hD
      have HL0 := Lib.hid hL
      have HIH := Lib.hid ih
      have HU0 := Lib.hid hU
      have HFE := Lib.hid hfe
      have hlb : ∀ b, (Value.slice oa ll.length oc).ownBlock = some b → B ≤ b := fun b hb => (World.ownsRow.lt hL.1 b hb).1
      have HLB := Lib.hid hlb
      clear hE hok hD hL ih hU hfe hlb
      go_enter Try.func61, Try.ntmps61
      go_wp2_with fail
      go_loopw [5, 13] (fun v i wr => ∃ (x : Nat) (cur : List (List Nat)) (oa' : Option Addr) (oc' : Nat) (vs' : List Value), x ≤ N ∧ i = .int .i64 x ∧ v = .slice oa' cur.length oc' ∧ Hid (cur = (ll ++ extL N f m done (selN x (freeF N f done))).take most) ∧ Hid (LisR B cur (.slice oa' cur.length oc') vs' wr) ∧ Hid (UsedAt B U N done wr) ∧ Hid (XsK U (.slice oa ll.length oc) w (.slice oa' cur.length oc') wr)) (fun _ i _ => N - (intOf i).toNat)
      case atStart =>
        refine ⟨0, ll, oa, oc, vs, Nat.zero_le _, rfl, rfl, Lib.hid ?_, HL0, HU0, Lib.hid (XsK.refl _ _ _)⟩
        show ll = (ll ++ []).take most
        rw [List.append_nil, List.take_of_length_le hll]
      case round =>
        obtain ⟨x, cur, oa', oc', vs', hx, rfl, rfl, HC, HL, HU, HX⟩ := hrel
        by_cases hlt : x < N
        · have j1 : (x : Int) < (N : Int) := by omega
          have hbb : Below B w wr := HX.out.below hUB HLB.out hB
          have hcf := free_any B U N x ad cap es done wr ((HE.out.below hbb).mono (Nat.le_trans hB hbb.size)) hk HOK.out HU.out hlt
          rw [HFE.out] at hcf
          cases hfx : freeF N f done x with
          | false =>
            rw [hfx] at hcf
            have HCF := Lib.hid hcf
            have HC' : Hid (cur = (ll ++ extL N f m done (selN (x + 1) (freeF N f done))).take most) := Lib.hid (by rw [selN_no hfx]; exact HC.out)
            clear hcf hbb hfx
            go_wp2_with fail
            refine HCF.out.mono ?_
            rintro e w4 ⟨rfl, rfl⟩
            go_wp2
            go_roundw
            case rel => exact ⟨x + 1, cur, oa', oc', vs', by omega, by go_num, rfl, HC', HL, HU, HX⟩
            case measure => simp [intOf]; omega
          | true =>
            rw [hfx] at hcf
            have HCF := Lib.hid hcf
            have hxd : done.contains x = false := by
              unfold freeF at hfx
              simpa using (Bool.and_eq_true_iff.1 hfx).1
            have hD : OwnN B done (.slice da done.length dc) wr := HX.out.keep HD.out HL0.out.1 (by decide) HU0.out (by decide)
            have c1 := HU.out.cell hlt
            have c2 : wr.frozen? ⟨U, x, none⟩ = false := World.ownsRow.frozenAt HU.out x
            obtain ⟨s1, s2⟩ := World.ownsRow.stored HU.out x (.bool true)
            rw [boolsV_set (q := fun i => (done ++ [x]).contains i) (by simp) (fun i hij => by simp [hij])] at s1
            have hLa : LisR B cur (.slice oa' cur.length oc') vs' (wr.setCell ⟨U, x, none⟩ (.bool true)) := HL.out.row HU.out s2
            have hDa : OwnN B done (.slice da done.length dc) (wr.setCell ⟨U, x, none⟩ (.bool true)) := own_nilkeep hD (fun b hb => s2.block b (World.ownsRow.lt hD b hb).2 (fun e => own_diff hD HU.out (by decide) b hb (by rw [e]; rfl)))
            have hgb : (wr.setCell ⟨U, x, none⟩ (.bool true)).grownBy ((wr.setCell ⟨U, x, none⟩ (.bool true)).alloc (.cells #[.int .i64 (x : Int)] TI)) none := World.grownBy_alloc _ _ none
            obtain ⟨da', dc', wc, hrun, hDc, hgc⟩ := appendMore (World.ownsRow.alloc hDa (.cells #[.int .i64 (x : Int)] TI)) x ⟨(wr.setCell ⟨U, x, none⟩ (.bool true)).heap.size, 0, none⟩ (box_cell (World.alloc_heap_new _ _)) (by omega)
            have hgac := grown_trans hgb hgc
            have hXc : XsK U (.slice oa' cur.length oc') wr (.slice oa' cur.length oc') wc := (XsK.row _ s2).trans (XsK.new U _ hgac)
            have hbc : Below B w wc := (HX.out.trans hXc).below hUB HLB.out hB
            have hcm : cur.length ≤ most := by rw [HC.out, List.length_take]; omega
            have hUc : UsedAt B U N (done ++ [x]) wc := own_nilkeep s1 (fun b hb => hgac.block b (World.ownsRow.lt s1 b hb).2 (by simp))
            have hrec := HIH.out (done ++ [x]) da' dc' cur oa' oc' vs' wc (by simp; omega) (HE.out.below hbc) (Nat.le_trans hB hbc.size) hUc (ownsRow_base (by have h1 := hbb.size; have h2 := s2.size; have h3 := hgb.size; omega) hDc) (hLa.new hgac) hcm
            rw [show (wr.setCell ⟨U, x, none⟩ (.bool true)).heap.size = wr.heap.size by simp] at hrun
            rw [show (done ++ [x]).length = done.length + 1 by simp] at hrun hrec
            have HREC := Lib.hid hrec
            have HRUN := Lib.hid hrun
            have HXC := Lib.hid hXc
            have HXD := Lib.hid hxd
            have HFX := Lib.hid hfx
            clear hcf hbb hfx hxd hD s1 s2 hLa hDa hgb hDc hgc hgac hXc hbc hUc hrec hrun
            go_wp2_with fail
            refine HCF.out.mono ?_
            rintro e w4 ⟨rfl, rfl⟩
            go_wp2_with (at_builtin; refine append_by_run _ rfl _ _ _ rfl _ _ rfl rfl _ _ HRUN.out ?_)
            go_wp2_with fail
            refine HREC.out.mono ?_
            rintro e wd ⟨v', rfl, ⟨vs2, hLd⟩, hUd, hXd⟩
            obtain ⟨a2, cc2, rfl, _, _⟩ := own_sliceS hLd.1
            have d1 := hUd.cell hlt
            have d2 : wd.frozen? ⟨U, x, none⟩ = false := World.ownsRow.frozenAt hUd x
            obtain ⟨t1, t2⟩ := World.ownsRow.stored hUd x (.bool false)
            rw [boolsV_set (q := fun i => done.contains i) HXD.out (fun i hij => by simp [hij])] at t1
            have HC' : Hid ((cur ++ extN N f m (done ++ [x])).take most = (ll ++ extL N f m done (selN (x + 1) (freeF N f done))).take most) := Lib.hid (by
              rw [selN_yes HFX.out, extL_snoc, HC.out, take_take_append, List.append_assoc])
            have HL' := Lib.hid (hLd.row hUd t2)
            have HU' : Hid (UsedAt B U N done (wd.setCell ⟨U, x, none⟩ (.bool false))) := Lib.hid t1
            have HX' := Lib.hid ((HX.out.trans (HXC.out.trans hXd)).trans (XsK.row _ t2))
            clear hLd hUd hXd t1 t2
            generalize (cur ++ extN N f m (done ++ [x])).take most = cur2 at *
            go_wp2
            go_roundw
            case rel => exact ⟨x + 1, cur2, a2, cc2, vs2, by omega, by go_num, rfl, HC', HL', HU', HX'⟩
            case measure => simp [intOf]; omega
        · obtain rfl : x = N := by omega
          have HC' : Hid (cur = (ll ++ extN x f (m + 1) done).take most) := Lib.hid (by rw [extN_succ]; exact HC.out)
          go_wp2
          go_ret
          refine ⟨_, rfl, ⟨vs', ?_⟩, HU.out, HX.out⟩
          rw [← HC'.out]
          exact HL.out

set_option maxRecDepth 100000 in
set_option maxHeartbeats 4000000 in
theorem refExtensions_any (n most : Int) (ad : Option Addr) (cap : Nat) (es : List (Int × Int)) (w : World) (hE : EdgesA w.heap.size w ad es) (hl : es.length ≤ 9223372036854775807) :
    Calls Try.prog 29 #[.int .i64 n, .slice ad es.length cap, .int .i64 most] w (RetLC (exsL n es most) (exsE n es most) w) := by
  have HCK := refCheck_any n ad cap es w hE hl
  by_cases hp : poE n es = 0
  · rw [hp] at HCK
    by_cases hr : most < 0 ∨ 5000 < most
    · have he : exsE n es most = 2 := by unfold exsE; rw [if_pos hp, if_pos hr]
      have hz : exsL n es most = [] := by unfold exsL; rw [he]; rfl
      rw [he, hz]
      have HCK := Lib.hid HCK
      clear hE hp he hz
      have hfin : ∀ w1, Below w.heap.size w w1 → RetLC [] 2 w (.returned (.tuple #[.slice none 0 0, .int .i64 2])) w1 := fun w1 b => ⟨_, rfl, ⟨none, 0, rfl, fun j hj => by simp [listsOf] at hj, by simp [listsOf]⟩, b⟩
      have HF := Lib.hid hfin
      clear hfin
      by_cases h0 : most < 0
      · clear hr
        go_enter Try.func29, Try.ntmps29
        go_wp2_with fail
        refine HCK.out.mono ?_
        rintro e w1 ⟨rfl, b1⟩
        go_wp2
        go_ret2
        exact HF.out _ b1
      · have h5 : 5000 < most := by omega
        clear hr
        go_enter Try.func29, Try.ntmps29
        go_wp2_with fail
        refine HCK.out.mono ?_
        rintro e w1 ⟨rfl, b1⟩
        go_wp2
        go_ret2
        exact HF.out _ b1
    · have h0 : ¬ most < 0 := by omega
      have h5 : ¬ 5000 < most := by omega
      have he : exsE n es most = 0 := by unfold exsE; rw [if_pos hp, if_neg hr]
      obtain ⟨N, rfl, hN, hk, hok, _, _, _⟩ := po_ok hp
      have hz : exsL (N : Int) es most = (extN N (relG (gN es)) N []).take most.toNat := by unfold exsL; rw [if_pos he, Int.toNat_natCast]
      rw [he, hz]
      obtain ⟨M, rfl⟩ : ∃ M : Nat, most = (M : Int) := ⟨most.toNat, by omega⟩
      rw [Int.toNat_natCast]
      obtain ⟨i0, ji, jz0, jz1, jz2⟩ := info_parts infoBool
      have HCK := Lib.hid HCK
      have HE := Lib.hid hE
      have HOK := Lib.hid hok
      clear hE hok hp he hz hr
      go_enter Try.func29, Try.ntmps29
      go_wp2_with fail
      refine HCK.out.mono ?_
      rintro e w1 ⟨rfl, b1⟩
      have HB1 := Lib.hid b1
      clear b1 HCK
      go_wp2_with (at_make; refine wpList_make_full _ rfl (.tmp 24) (.tmp 24) 58 rfl w1.heap.size TBool i0 (.bool false) 1 Try.underlying58 ji jz0 jz1 .i64 .i64 _ _ N rfl rfl rfl rfl (by rw [jz2]; omega) (by unfold maxLen; omega) (Nat.le_refl _) ?_)
      intro w2 ho2 hg2
      rw [boolsV_false] at ho2
      have hU2 : UsedAt w1.heap.size w1.heap.size N [] w2 := ho2
      have hb2 : Below w1.heap.size w1 w2 := (Below.refl _ w1).grown hg2 (Nat.le_refl _) (fun j hj => by cases hj)
      have hE2 : EdgesA w1.heap.size w2 ad es := (((HE.out.below HB1.out).mono HB1.out.size).below hb2)
      have hX := refExtend_any w1.heap.size w1.heap.size N M ad cap es _ rfl hN hk HOK.out (by omega) (Nat.le_refl _) N [] none 0 [] none 0 [] w2 (by simp) hE2 hb2.size hU2 (OwnN.nil _ _) (LisR.nil _ _) (Nat.zero_le _)
      have HX := Lib.hid hX
      have HB2 := Lib.hid hb2
      have hq : w1.heap.size ≤ w2.heap.size := hb2.size
      clear ho2 hg2 hU2 hb2 hE2 hX
      go_wp2_with fail
      refine HX.out.mono ?_
      rintro e w3 ⟨v', rfl, ⟨vs', hL3⟩, _, hX3⟩
      have hb3 : Below w1.heap.size w2 w3 := hX3.below (Nat.le_refl _) (fun b hb => by simp [Value.ownBlock] at hb) hq
      have HK := Lib.hid (hL3.known)
      have HB3 := Lib.hid (HB1.out.trans ((HB2.out.trans hb3).mono HB1.out.size))
      clear hL3 hX3 hb3
      go_wp2
      go_ret2
      exact ⟨_, rfl, by simpa using HK.out, HB3.out⟩
  · have he : exsE n es most = poE n es := by unfold exsE; rw [if_neg hp]
    have hz : exsL n es most = [] := by unfold exsL; rw [if_neg (by rw [he]; exact hp)]
    rw [he, hz]
    have hb : (poE n es != 0) = true := by simpa using hp
    have HCK := Lib.hid HCK
    have hfin : ∀ w1, Below w.heap.size w w1 → RetLC [] (poE n es) w (.returned (.tuple #[.slice none 0 0, .int .i64 (poE n es)])) w1 := fun w1 b => ⟨_, rfl, ⟨none, 0, rfl, fun j hj => by simp [listsOf] at hj, by simp [listsOf]⟩, b⟩
    have HF := Lib.hid hfin
    clear hE hp he hz hfin
    generalize poE n es = pe at *
    go_enter Try.func29, Try.ntmps29
    go_wp2_with fail
    refine HCK.out.mono ?_
    rintro e w1 ⟨rfl, b1⟩
    go_wp2
    go_ret2
    exact HF.out _ b1

end Go.Proofs.Ytbfeiegjhcjbnaa
