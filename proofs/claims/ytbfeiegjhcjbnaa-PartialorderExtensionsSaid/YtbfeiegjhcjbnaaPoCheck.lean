/-
  What the program's strictOrder and Check of partialorder return.
-/
import Derived.Test.YtbfeiegjhcjbnaaPoPairs
namespace Go.Proofs.Ytbfeiegjhcjbnaa
open Go.RowKit

/-- What strictOrder returns: the relation, or why it is none. -/
def StrR (n : Int) (es : List (Int × Int)) (w : World) (e : Ending) (w' : World) : Prop :=
  ∃ v, e = .returned (.tuple #[v, .int .i64 (poE n es)]) ∧ Below w.heap.size w w' ∧ ((poE n es ≠ 0 ∧ v = .slice none 0 0) ∨ ∃ (N A : Nat) (g : Nat → Nat), n = (N : Int) ∧ N ≤ 200 ∧ poE n es = 0 ∧ v = matV A N ∧ MatK w.heap.size A N N g (relG (gN es)) w')
theorem poE_of_chk {n : Int} {es : List (Int × Int)} {c : Int} (h : chkE n es = c) (hc : c ≠ 0) : poE n es = c := by
  unfold poE
  rw [if_neg (by rw [h]; exact hc), h]

set_option maxRecDepth 100000 in
set_option maxHeartbeats 8000000 in
theorem strictOrder_any (n : Int) (ad : Option Addr) (cap : Nat) (es : List (Int × Int)) (w : World) (hE : EdgesA w.heap.size w ad es) (hl : es.length ≤ 9223372036854775807) :
    Calls Try.prog 39 #[.int .i64 n, .slice ad es.length cap] w (StrR n es w) := by
  have HSZ := checkSize_any n ad cap es.length w hl
  by_cases hs : sizeE n es.length = 0
  · rw [hs] at HSZ
    have HSZ := Lib.hid HSZ
    have hsz : ¬ (n < 0 ∨ 200 < n) ∧ ¬ 2000 < es.length := by
      unfold sizeE at hs
      by_cases h1 : n < 0 ∨ 200 < n
      · rw [if_pos h1] at hs; cases hs
      · rw [if_neg h1] at hs
        by_cases h2 : 2000 < es.length
        · rw [if_pos h2] at hs; cases hs
        · exact ⟨h1, h2⟩
    obtain ⟨hn, hl2⟩ := hsz
    obtain ⟨N, rfl⟩ : ∃ N : Nat, n = (N : Int) := ⟨n.toNat, by omega⟩
    have hN : N ≤ 200 := by omega
    have HC : Hid (chkE (N : Int) es = chkL (N : Int) none es) := Lib.hid (by unfold chkE; rw [if_neg hn, if_neg hl2])
    have HE := Lib.hid hE
    obtain ⟨R, hR⟩ : ∃ R, chkL (N : Int) none es = R := ⟨_, rfl⟩
    rw [hR] at HC
    have H0 : Hid (R = chkL (N : Int) (prevE es 0) (es.drop 0)) := Lib.hid (by rw [← hR]; rfl)
    have HC2 : Hid (R = chkL (N : Int) none es) := Lib.hid hR.symm
    have HP : Hid (∀ c, c ≠ 0 → R = c → poE (N : Int) es = c) := Lib.hid (fun c hc he => poE_of_chk (HC.out.trans he) hc)
    clear hE hR hs hn
    go_enter Try.func39, Try.ntmps39
    go_wp2_with fail
    refine HSZ.out.mono ?_
    rintro e w0 ⟨rfl, rfl⟩
    go_wp2_with fail
    go_loopw [18] (fun i wr => ∃ k : Nat, k ≤ es.length ∧ i = .int .i64 k ∧ Hid (Below w.heap.size w wr) ∧ Hid (R = chkL (N : Int) (prevE es k) (es.drop k))) (fun i _ => es.length - (intOf i).toNat)
    case atStart => exact ⟨0, Nat.zero_le _, rfl, Lib.hid (Below.refl _ _), H0⟩
    case round =>
      obtain ⟨k, hk, rfl, HB, HI⟩ := hrel
      by_cases hlt : k < es.length
      · have k0 : (k : Int) < (es.length : Int) := by omega
        obtain ⟨b, off, rfl, hbb, hc⟩ := HE.out.some_ (by omega)
        obtain ⟨d1, d2⟩ := hc k hlt
        obtain ⟨⟨u, v⟩, hx⟩ : ∃ e, es[k]?.getD (0, 0) = e := ⟨_, rfl⟩
        rw [hx] at d1 d2
        simp only [] at d1 d2
        have c1 := (HB.out.cell (p := ⟨b, off + k * 2, none⟩) hbb).trans d1
        have c2 := (HB.out.cell (p := ⟨b, off + k * 2 + 1, none⟩) hbb).trans d2
        have hsz := HB.out.size
        have B2 := Lib.hid (HB.out.alloc hsz (.cells #[.int .i64 u, .int .i64 v] 42))
        obtain ⟨wb, hwb⟩ : ∃ wb, wr.alloc (.cells #[.int .i64 u, .int .i64 v] 42) = wb := ⟨_, rfl⟩
        have e0 : wb.heap[wr.heap.size]? = some (.cells #[.int .i64 u, .int .i64 v] 42 (0, 0)) := by rw [← hwb]; exact World.alloc_heap_new wr _
        have hwl := (Array.getElem?_eq_some_iff.1 e0).1
        obtain ⟨e1, e2⟩ := box2_cell e0
        rw [hwb] at B2
        have N1 := isPair_any (N : Int) u v wb
        clear d1 d2
        by_cases hnb : badE (N : Int) (u, v)
        · have HR : Hid (poE (N : Int) es = 2) := Lib.hid (HP.out 2 (by decide) (by rw [HC2.out]; exact chk_bad hlt hx hnb (by rw [← HC2.out]; exact HI.out)))
          rw [decide_eq_false (fun h => h hnb)] at N1
          have N1 := Lib.hid N1
          clear hc hx hnb e0
          go_wp2_with fail
          refine N1.out.mono ?_
          rintro e w1 ⟨rfl, b1⟩
          have B3 := Lib.hid (B2.out.trans (b1.mono B2.out.size))
          clear b1
          go_wp2
          go_ret2
          exact ⟨_, by rw [HR.out]; rfl, B3.out, .inl ⟨by rw [HR.out]; decide, rfl⟩⟩
        · rw [decide_eq_true hnb] at N1
          have N1 := Lib.hid N1
          by_cases h0 : k = 0
          · have HN : Hid (R = chkL (N : Int) (prevE es (k + 1)) (es.drop (k + 1))) := Lib.hid (by rw [HC2.out]; exact chk_next hlt hx hnb (fun h => absurd h0 h) (by rw [← HC2.out]; exact HI.out))
            have gd : decide ((0 : Int) < (k : Int)) = false := by simp; omega
            have gd2 : decide (0 < k) = false := by simp; omega
            clear hc hx hnb h0 e0
            go_wp2_with fail
            refine N1.out.mono ?_
            rintro e w1 ⟨rfl, b1⟩
            have B3 := Lib.hid (B2.out.trans (b1.mono B2.out.size))
            clear b1
            go_wp2_with fail
            go_quiet (fail)
            go_wp2
            go_roundw
            case rel => exact ⟨k + 1, by omega, by go_num, Lib.hid (below_drewN' B3.out), HN⟩
            case measure => simp [intOf]; omega
          · obtain ⟨q1, q2⟩ := hc (k - 1) (by omega)
            obtain ⟨p, hp⟩ : ∃ e, es[k - 1]?.getD (0, 0) = e := ⟨_, rfl⟩
            rw [hp] at q1 q2
            have gd : decide ((0 : Int) < (k : Int)) = true := by simp; omega
            have gd2 : decide (0 < k) = true := by simp; omega
            have k1 : (1 : Int) ≤ (k : Int) := by omega
            have k2 : (0 : Int) ≤ (k : Int) - 1 := by omega
            have k3 : (k : Int) - 1 < (es.length : Int) := by omega
            have k4 : ((k : Int) - 1).toNat = k - 1 := by omega
            have kw : IntKind.i64.wrap ((k : Int) - 1) = (k : Int) - 1 := IntWalk.i64_in _ (by omega)
            have CE := Lib.hid (comparePairs_any p (u, v))
            obtain ⟨z, hz⟩ : ∃ z, cmpE p (u, v) = z := ⟨_, rfl⟩
            rw [hz] at CE
            have HLO := Lib.hid (cmpE_low (p := p) (e := (u, v)))
            rw [hz] at HLO
            have HNL : Hid (¬ lowE p (u, v) → R = chkL (N : Int) (prevE es (k + 1)) (es.drop (k + 1))) := Lib.hid (fun hlo => by rw [HC2.out]; exact chk_next hlt hx hnb (fun _ => by rw [hp]; exact hlo) (by rw [← HC2.out]; exact HI.out))
            have HYL : Hid (lowE p (u, v) → poE (N : Int) es = 9) := Lib.hid (fun hlo => HP.out 9 (by decide) (by rw [HC2.out]; exact chk_low hlt hx hnb h0 hp hlo (by rw [← HC2.out]; exact HI.out)))
            have E0 := Lib.hid e0
            clear hc hx hnb h0 hp hz e0
            go_wp2_with fail
            refine N1.out.mono ?_
            rintro e w1 ⟨rfl, b1⟩
            have B3 := Lib.hid (B2.out.trans (b1.mono B2.out.size))
            have f0 := (b1.block _ hwl).trans E0.out
            clear b1 e1 e2 c1 c2
            go_wp2_with fail
            refine wp_region_still_tail 9 (by kernel_rfl) (by kernel_rfl) ?_
            obtain ⟨W2, hW2⟩ : ∃ W2, w1.drew = W2 := ⟨_, rfl⟩
            have f1 : W2.heap[wr.heap.size]? = some (.cells #[.int .i64 u, .int .i64 v] 42 (0, 0)) := by rw [← hW2]; exact f0
            obtain ⟨e1, e2⟩ := box2_cell f1
            have q3 : W2.cell? ⟨b, off + (k - 1) * 2, none⟩ = some (.int .i64 p.1) := by rw [← hW2]; exact ((B3.out.drew).cell (p := ⟨b, off + (k - 1) * 2, none⟩) hbb).trans q1
            have q4 : W2.cell? ⟨b, off + (k - 1) * 2 + 1, none⟩ = some (.int .i64 p.2) := by rw [← hW2]; exact ((B3.out.drew).cell (p := ⟨b, off + (k - 1) * 2 + 1, none⟩) hbb).trans q2
            have BW : Hid (Below w.heap.size w W2) := Lib.hid (by rw [← hW2]; exact B3.out.drew)
            change wpStill _ _ w1.drew (fun a' => wpList _ _ _ _ a' w1.drew) _ _
            rw [hW2]
            clear hW2 f0 f1 q1 q2
            simp only [List.take_succ_cons, List.take_zero, List.drop_succ_cons, List.drop_zero]
            repeat still_step
            refine wpStill_nil ?_
            clear e1 e2 q3 q4 kw
            by_cases hz0 : 0 ≤ z
            · have HR : Hid (poE (N : Int) es = 9) := Lib.hid (HYL.out (HLO.out.1 hz0))
              go_wp2_with fail
              refine (CE.out _).mono ?_
              rintro e w2 ⟨rfl, b2⟩
              have B4 := Lib.hid (BW.out.trans (b2.mono BW.out.size))
              clear b2
              go_wp2
              go_ret2
              exact ⟨_, by rw [HR.out]; rfl, B4.out, .inl ⟨by rw [HR.out]; decide, rfl⟩⟩
            · have HN := Lib.hid (HNL.out (fun h => hz0 (HLO.out.2 h)))
              have hz1 : z < 0 := by omega
              clear hz0
              go_wp2_with fail
              refine (CE.out _).mono ?_
              rintro e w2 ⟨rfl, b2⟩
              have B4 := Lib.hid (BW.out.trans (b2.mono BW.out.size))
              clear b2
              go_wp2
              go_roundw
              case rel => exact ⟨k + 1, by omega, by go_num, B4, HN⟩
              case measure => simp [intOf]; omega
      · have hR0 : R = 0 := by
          have := HI.out
          rw [List.drop_of_length_le (by omega)] at this
          rw [this]; rfl
        have hchk : chkE (N : Int) es = 0 := HC.out.trans hR0
        obtain ⟨N', hN', _, hl3, hok⟩ := chk_ok hchk
        have : N = N' := by omega
        subst this
        have HNR := Lib.hid (newRelation_any w.heap.size N ad cap es wr (HE.out.below HB.out) HB.out.size hl3 hN hok)
        have HPO : Hid (poE (N : Int) es = if loopK (relG (gN es)) N then 21 else if trsB N (relG (gN es)) then 0 else 10) := Lib.hid (by unfold poE; rw [if_pos hchk, Int.toNat_natCast])
        obtain ⟨A, hA⟩ : ∃ A, wr.heap.size = A := ⟨_, rfl⟩
        rw [hA] at HNR
        have hsA : w.heap.size ≤ A := by rw [← hA]; exact HB.out.size
        have HBA : Hid (∀ w', Below A wr w' → Below w.heap.size w w') := Lib.hid (fun w' hb => HB.out.trans (hb.mono hsA))
        clear hR0 hchk hok hN' hA HI H0
        go_wp2_with fail
        refine HNR.out.mono ?_
        rintro e w3 ⟨g, rfl, hm, hb3⟩
        have HM := Lib.hid (hm.base hsA)
        have B3 := Lib.hid (HBA.out _ hb3)
        have HLP := hasLoop_any w.heap.size A N g (relG (gN es)) w3 HM.out hN
        have HTR := isTransitive_any w.heap.size A N g (relG (gN es)) w3 HM.out hN
        obtain ⟨lp, hlp⟩ : ∃ x, loopK (relG (gN es)) N = x := ⟨_, rfl⟩
        obtain ⟨tr, htr⟩ : ∃ x, trsB N (relG (gN es)) = x := ⟨_, rfl⟩
        rw [hlp] at HLP HPO
        rw [htr] at HTR HPO
        have HLP := Lib.hid HLP
        have HTR := Lib.hid HTR
        clear hm hb3 hlp htr
        cases lp
        · cases tr
          · have HR : Hid (poE (N : Int) es = 10) := Lib.hid HPO.out
            go_wp2_with fail
            refine HLP.out.mono ?_
            rintro e w4 ⟨rfl, rfl⟩
            go_wp2_with fail
            refine HTR.out.mono ?_
            rintro e w4 ⟨rfl, rfl⟩
            go_wp2
            go_ret2
            exact ⟨_, by rw [HR.out]; rfl, B3.out, .inl ⟨by rw [HR.out]; decide, rfl⟩⟩
          · have HR : Hid (poE (N : Int) es = 0) := Lib.hid HPO.out
            go_wp2_with fail
            refine HLP.out.mono ?_
            rintro e w4 ⟨rfl, rfl⟩
            go_wp2_with fail
            refine HTR.out.mono ?_
            rintro e w4 ⟨rfl, rfl⟩
            go_wp2
            go_ret2
            exact ⟨_, by rw [HR.out]; rfl, B3.out, .inr ⟨N, A, g, rfl, hN, HR.out, rfl, HM.out⟩⟩
        · have HR : Hid (poE (N : Int) es = 21) := Lib.hid HPO.out
          go_wp2_with fail
          refine HLP.out.mono ?_
          rintro e w4 ⟨rfl, rfl⟩
          go_wp2
          go_ret2
          exact ⟨_, by rw [HR.out]; rfl, B3.out, .inl ⟨by rw [HR.out]; decide, rfl⟩⟩
  · have hR : poE n es = sizeE n es.length := by
      refine poE_of_chk ?_ hs
      unfold sizeE chkE at *
      by_cases h1 : n < 0 ∨ 200 < n
      · rw [if_pos h1, if_pos h1]
      · rw [if_neg h1] at hs
        rw [if_neg h1, if_neg h1]
        by_cases h2 : 2000 < es.length
        · rw [if_pos h2, if_pos h2]
        · rw [if_neg h2] at hs; exact absurd rfl hs
    obtain ⟨z, hz⟩ : ∃ z, sizeE n es.length = z := ⟨_, rfl⟩
    rw [hz] at HSZ hs hR
    have HR := Lib.hid hR
    have HSZ := Lib.hid HSZ
    have hzb : (z != 0) = true := by rw [bne_iff_ne]; exact hs
    have HZ := Lib.hid hs
    clear hE hR hz hs
    go_enter Try.func39, Try.ntmps39
    go_wp2_with fail
    refine HSZ.out.mono ?_
    rintro e w0 ⟨rfl, rfl⟩
    go_wp2
    go_ret2
    exact ⟨_, by rw [HR.out]; rfl, Below.refl _ _, .inl ⟨by rw [HR.out]; exact HZ.out, rfl⟩⟩

theorem devCheck_any (n : Int) (ad : Option Addr) (cap : Nat) (es : List (Int × Int)) (w : World) (hE : EdgesA w.heap.size w ad es) (hl : es.length ≤ 9223372036854775807) :
    Calls Try.prog 14 #[.int .i64 n, .slice ad es.length cap] w fun e w' => e = .returned (.int .i64 (poE n es)) ∧ Below w.heap.size w w' := by
  have H := Lib.hid (strictOrder_any n ad cap es w hE hl)
  clear hE
  go_enter Try.func14, Try.ntmps14
  go_wp2_with fail
  refine H.out.mono ?_
  rintro e w1 ⟨v, rfl, b1, _⟩
  go_wp2
  go_ret
  exact ⟨rfl, b1⟩

end Go.Proofs.Ytbfeiegjhcjbnaa
