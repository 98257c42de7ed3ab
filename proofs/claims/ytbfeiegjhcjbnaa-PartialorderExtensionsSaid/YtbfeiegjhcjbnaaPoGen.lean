/-
  What the program's Generate, Covers and Concurrent of partialorder return.
-/
import Derived.Test.YtbfeiegjhcjbnaaPoCheck
namespace Go.Proofs.Ytbfeiegjhcjbnaa
open Go.RowKit Go.Shelf

/-- A call that returns pairs and an error. -/
def GivE (l : List (Nat × Nat)) (x : Int) (w : World) (e : Ending) (w' : World) : Prop := ∃ v, e = .returned (.tuple #[v, .int .i64 x]) ∧ OwnE w.heap.size l v w' ∧ Below w.heap.size w w'
def okB (n : Int) (es : List (Int × Int)) : Bool := es.all fun e => !decide (badE n e)
theorem okB_ok {N : Nat} {es : List (Int × Int)} (h : okB (N : Int) es = true) : OkE N es := by
  intro e he
  have := List.all_eq_true.1 h e he
  simp only [Bool.not_eq_true', decide_eq_false_iff_not] at this
  unfold badE at this
  omega
theorem okB_take {n : Int} {es : List (Int × Int)} {k : Nat} {e : Int × Int} (h : k < es.length) (he : es[k]?.getD (0, 0) = e) : okB n (es.take (k + 1)) = (okB n (es.take k) && !decide (badE n e)) := by
  unfold okB
  rw [take_snocE es k h, he, List.all_append]
  simp
theorem okB_bad {n : Int} {es : List (Int × Int)} {k : Nat} {e : Int × Int} (h : k < es.length) (he : es[k]?.getD (0, 0) = e) (hb : badE n e) : okB n es = false := by
  unfold okB
  rw [List.all_eq_false]
  refine ⟨e, ?_, by simpa using hb⟩
  rw [List.getElem?_eq_getElem h] at he
  rw [← he]
  exact List.getElem_mem h
/-- What Generate returns. -/
def genF (N : Nat) (es : List (Int × Int)) : Nat → Nat → Bool := war (relG (gN es)) N
def genE (n : Int) (es : List (Int × Int)) : Int := if sizeE n es.length = 0 then (if okB n es then (if loopK (genF n.toNat es) n.toNat then 21 else if 2000 < (prs n.toNat (genF n.toNat es)).length then 4 else 0) else 2) else sizeE n es.length
def genL (n : Int) (es : List (Int × Int)) : List (Nat × Nat) := if genE n es = 0 then prs n.toNat (genF n.toNat es) else []
theorem genL_err {n : Int} {es : List (Int × Int)} {c : Int} (h : genE n es = c) (hc : c ≠ 0) : genL n es = [] := by
  unfold genL
  rw [if_neg (by rw [h]; exact hc)]

set_option maxRecDepth 100000 in
set_option maxHeartbeats 8000000 in
theorem generate_any (n : Int) (ad : Option Addr) (cap : Nat) (es : List (Int × Int)) (w : World) (hE : EdgesA w.heap.size w ad es) (hl : es.length ≤ 9223372036854775807) :
    Calls Try.prog 21 #[.int .i64 n, .slice ad es.length cap] w (GivE (genL n es) (genE n es) w) := by
  have HSZ := checkSize_any n ad cap es.length w hl
  by_cases hs : sizeE n es.length = 0
  · rw [hs] at HSZ
    have HSZ := Lib.hid HSZ
    have hsz : ¬ (n < 0 ∨ 200 < n) ∧ ¬ 2000 < es.length := by
      unfold sizeE at hs
      by_cases h1 : n < 0 ∨ 200 < n
      · rw [if_pos h1] at hs; cases hs
      · rw [if_neg h1] at hs
        by_cases h2 : 2000 < es.length
        · rw [if_pos h2] at hs; cases hs
        · exact ⟨h1, h2⟩
    obtain ⟨hn, hl2⟩ := hsz
    obtain ⟨N, rfl⟩ : ∃ N : Nat, n = (N : Int) := ⟨n.toNat, by omega⟩
    have hN : N ≤ 200 := by omega
    have HG : Hid (genE (N : Int) es = if okB (N : Int) es then (if loopK (genF N es) N then 21 else if 2000 < (prs N (genF N es)).length then 4 else 0) else 2) := Lib.hid (by unfold genE; rw [if_pos hs, Int.toNat_natCast])
    have HGL : Hid (genE (N : Int) es = 0 → genL (N : Int) es = prs N (genF N es)) := Lib.hid (fun h => by unfold genL; rw [if_pos h, Int.toNat_natCast])
    have HE := Lib.hid hE
    have HT0 : Hid (okB (N : Int) (es.take 0) = true) := Lib.hid rfl
    clear hE hs hn
    go_enter Try.func21, Try.ntmps21
    go_wp2_with fail
    refine HSZ.out.mono ?_
    rintro e w0 ⟨rfl, rfl⟩
    go_wp2_with fail
    go_loopw [19] (fun i wr => ∃ k : Nat, k ≤ es.length ∧ i = .int .i64 k ∧ Hid (Below w.heap.size w wr) ∧ Hid (okB (N : Int) (es.take k) = true)) (fun i _ => es.length - (intOf i).toNat)
    case atStart => exact ⟨0, Nat.zero_le _, rfl, Lib.hid (Below.refl _ _), HT0⟩
    case round =>
      obtain ⟨k, hk, rfl, HB, HI⟩ := hrel
      by_cases hlt : k < es.length
      · have k0 : (k : Int) < (es.length : Int) := by omega
        obtain ⟨b, off, rfl, hbb, hc⟩ := HE.out.some_ (by omega)
        obtain ⟨d1, d2⟩ := hc k hlt
        obtain ⟨⟨u, v⟩, hx⟩ : ∃ e, es[k]?.getD (0, 0) = e := ⟨_, rfl⟩
        rw [hx] at d1 d2
        simp only [] at d1 d2
        have c1 := (HB.out.cell (p := ⟨b, off + k * 2, none⟩) hbb).trans d1
        have c2 := (HB.out.cell (p := ⟨b, off + k * 2 + 1, none⟩) hbb).trans d2
        have hsz := HB.out.size
        have B2 := Lib.hid (HB.out.alloc hsz (.cells #[.int .i64 u, .int .i64 v] 42))
        obtain ⟨wb, hwb⟩ : ∃ wb, wr.alloc (.cells #[.int .i64 u, .int .i64 v] 42) = wb := ⟨_, rfl⟩
        have e0 : wb.heap[wr.heap.size]? = some (.cells #[.int .i64 u, .int .i64 v] 42 (0, 0)) := by rw [← hwb]; exact World.alloc_heap_new wr _
        obtain ⟨e1, e2⟩ := box2_cell e0
        rw [hwb] at B2
        have N1 := isPair_any (N : Int) u v wb
        clear d1 d2 e0
        by_cases hnb : badE (N : Int) (u, v)
        · have HR : Hid (genE (N : Int) es = 2) := Lib.hid (by rw [HG.out, okB_bad hlt hx hnb]; rfl)
          rw [decide_eq_false (fun h => h hnb)] at N1
          have N1 := Lib.hid N1
          clear hc hx hnb
          go_wp2_with fail
          refine N1.out.mono ?_
          rintro e w1 ⟨rfl, b1⟩
          have B3 := Lib.hid (B2.out.trans (b1.mono B2.out.size))
          clear b1
          go_wp2
          go_ret2
          exact ⟨_, by rw [HR.out]; rfl, by rw [genL_err HR.out (by decide)]; exact OwnE.nil _ _, B3.out⟩
        · rw [decide_eq_true hnb] at N1
          have N1 := Lib.hid N1
          have HN : Hid (okB (N : Int) (es.take (k + 1)) = true) := Lib.hid (by rw [okB_take hlt hx, HI.out, decide_eq_false hnb]; rfl)
          clear hc hx hnb
          go_wp2_with fail
          refine N1.out.mono ?_
          rintro e w1 ⟨rfl, b1⟩
          have B3 := Lib.hid (B2.out.trans (b1.mono B2.out.size))
          clear b1
          go_wp2
          go_roundw
          case rel => exact ⟨k + 1, by omega, by go_num, B3, HN⟩
          case measure => simp [intOf]; omega
      · have hokB : okB (N : Int) es = true := by
          have := HI.out
          rwa [List.take_of_length_le (by omega)] at this
        have hok := okB_ok hokB
        have HNR := Lib.hid (newRelation_any w.heap.size N ad cap es wr (HE.out.below HB.out) HB.out.size (by omega) hN hok)
        have HLow := Lib.hid (relG_low (gN_lt hok))
        have HPO : Hid (genE (N : Int) es = if loopK (genF N es) N then 21 else if 2000 < (prs N (genF N es)).length then 4 else 0) := Lib.hid (by rw [HG.out, hokB]; rfl)
        obtain ⟨A, hA⟩ : ∃ A, wr.heap.size = A := ⟨_, rfl⟩
        rw [hA] at HNR
        have hsA : w.heap.size ≤ A := by rw [← hA]; exact HB.out.size
        have HBA : Hid (∀ w', Below A wr w' → Below w.heap.size w w') := Lib.hid (fun w' hb => HB.out.trans (hb.mono hsA))
        clear hokB hok hA HI HT0
        go_wp2_with fail
        refine HNR.out.mono ?_
        rintro e w3 ⟨g, rfl, hm, hb3⟩
        have HB3 := Lib.hid hb3
        have HCM := Lib.hid (complete_any A A N g (relG (gN es)) w3 hm hN HLow.out)
        clear hm hb3
        go_wp2_with fail
        refine HCM.out.mono ?_
        rintro e w4 ⟨rfl, hm, hb4⟩
        have HM : Hid (MatK A A N N g (genF N es) w4) := Lib.hid hm
        have B4 := Lib.hid (HBA.out _ (HB3.out.trans hb4))
        have HLP := hasLoop_any A A N g (genF N es) w4 HM.out hN
        obtain ⟨lp, hlp⟩ : ∃ x, loopK (genF N es) N = x := ⟨_, rfl⟩
        rw [hlp] at HLP HPO
        have HLP := Lib.hid HLP
        have HPW := Lib.hid (pairsWith_any N 56 #[matV A N] #[] (genF N es) w4 hN (enters_of Try.func56 (by kernel_rfl) rfl) (fun i j W hi hj hb => has_cond A A N i j g (genF N es) W (HM.out.below hb (Nat.le_refl _)) hi hj))
        clear hm hb4 hlp
        cases lp
        · obtain ⟨L, hL⟩ : ∃ L, prs N (genF N es) = L := ⟨_, rfl⟩
          have hLl : L.length ≤ 40000 := by
            rw [← hL]
            have h1 := prsK_length N (genF N es) (N * N)
            have h2 : N * N ≤ 200 * 200 := Nat.mul_le_mul hN hN
            unfold prs
            omega
          rw [hL] at HPW HPO HGL
          clear hL
          go_wp2_with fail
          refine HLP.out.mono ?_
          rintro e w5 ⟨rfl, rfl⟩
          go_wp2_with fail
          refine HPW.out.mono ?_
          rintro e w5 ⟨v, rfl, ho, hb5⟩
          have HO := Lib.hid (ownsRow_base B4.out.size ho)
          have B5 := Lib.hid (B4.out.trans (hb5.mono B4.out.size))
          obtain ⟨a, c, rfl, _, _⟩ := own_sliceS ho
          clear ho hb5
          by_cases hgt : 2000 < L.length
          · have HR : Hid (genE (N : Int) es = 4) := Lib.hid (by rw [HPO.out]; simp [hgt])
            have m1 : decide ((2000 : Int) < (L.length : Int)) = true := by rw [decide_eq_true_iff]; omega
            go_wp2
            go_ret2
            exact ⟨_, by rw [HR.out]; rfl, by rw [genL_err HR.out (by decide)]; exact OwnE.nil _ _, B5.out⟩
          · have HR : Hid (genE (N : Int) es = 0) := Lib.hid (by rw [HPO.out]; simp [hgt])
            have m1 : decide ((2000 : Int) < (L.length : Int)) = false := by rw [decide_eq_false_iff_not]; omega
            go_wp2
            go_ret2
            exact ⟨_, by rw [HR.out]; rfl, by rw [HGL.out HR.out]; exact HO.out, B5.out⟩
        · have HR : Hid (genE (N : Int) es = 21) := Lib.hid HPO.out
          go_wp2_with fail
          refine HLP.out.mono ?_
          rintro e w5 ⟨rfl, rfl⟩
          go_wp2
          go_ret2
          exact ⟨_, by rw [HR.out]; rfl, by rw [genL_err HR.out (by decide)]; exact OwnE.nil _ _, B4.out⟩
  · have hR : genE n es = sizeE n es.length := by unfold genE; rw [if_neg hs]
    obtain ⟨z, hz⟩ : ∃ z, sizeE n es.length = z := ⟨_, rfl⟩
    rw [hz] at HSZ hs hR
    have HR := Lib.hid hR
    have HSZ := Lib.hid HSZ
    have hzb : (z != 0) = true := by rw [bne_iff_ne]; exact hs
    have HZ := Lib.hid hs
    clear hE hR hz hs
    go_enter Try.func21, Try.ntmps21
    go_wp2_with fail
    refine HSZ.out.mono ?_
    rintro e w0 ⟨rfl, rfl⟩
    go_wp2
    go_ret2
    exact ⟨_, by rw [HR.out]; rfl, by rw [genL_err HR.out HZ.out]; exact OwnE.nil _ _, Below.refl _ _⟩

/-- What Covers and Concurrent return. -/
def covL (n : Int) (es : List (Int × Int)) : List (Nat × Nat) := if poE n es = 0 then prs n.toNat (covP n.toNat (relG (gN es))) else []
def conL (n : Int) (es : List (Int × Int)) : List (Nat × Nat) := if poE n es = 0 then prs n.toNat (conP (relG (gN es))) else []

set_option maxRecDepth 100000 in
set_option maxHeartbeats 8000000 in
theorem covers_any (n : Int) (ad : Option Addr) (cap : Nat) (es : List (Int × Int)) (w : World) (hE : EdgesA w.heap.size w ad es) (hl : es.length ≤ 9223372036854775807) :
    Calls Try.prog 23 #[.int .i64 n, .slice ad es.length cap] w (GivE (covL n es) (poE n es) w) := by
  have H := strictOrder_any n ad cap es w hE hl
  by_cases hp : poE n es = 0
  · have HH : Hid (Calls Try.prog 39 #[.int .i64 n, .slice ad es.length cap] w fun e w' => ∃ (N A : Nat) (g : Nat → Nat), e = .returned (.tuple #[matV A N, .int .i64 0]) ∧ Below w.heap.size w w' ∧ n = (N : Int) ∧ N ≤ 200 ∧ MatK w.heap.size A N N g (relG (gN es)) w') := Lib.hid (H.mono (by
      rintro e w1 ⟨v, rfl, b1, h | ⟨N, A, g, h1, h2, h3, rfl, h5⟩⟩
      · exact absurd hp h.1
      · exact ⟨N, A, g, by rw [hp], b1, h1, h2, h5⟩))
    have HL : Hid (covL n es = prs n.toNat (covP n.toNat (relG (gN es)))) := Lib.hid (by unfold covL; rw [if_pos hp])
    rw [hp]
    clear hE H hp
    go_enter Try.func23, Try.ntmps23
    go_wp2_with fail
    refine HH.out.mono ?_
    rintro e w1 ⟨N, A, g, rfl, b1, rfl, hN, hm⟩
    rw [Int.toNat_natCast] at HL
    have HM := Lib.hid hm
    have hs1 := b1.size
    have B2 : Hid (Below w.heap.size w (w1.alloc (.cells #[matV A N] 53))) := Lib.hid (b1.alloc hs1 _)
    have HPW := Lib.hid (pairsWith_any N 57 #[] #[.pointer (some ⟨w1.heap.size, 0, none⟩)] (covP N (relG (gN es))) (w1.alloc (.cells #[matV A N] 53)) hN (enters_of Try.func57 (by kernel_rfl) rfl) (fun i j W hi hj hb => cover_cond w.heap.size A N i j _ g (relG (gN es)) W ((HM.out.alloc _).below hb (Nat.le_refl _)) ((hb.block _ (by simp)).trans (World.alloc_heap_new w1 _)) hN hi hj))
    clear hm b1
    go_wp2_with fail
    refine HPW.out.mono ?_
    rintro e w5 ⟨v, rfl, ho, hb5⟩
    have HO := Lib.hid (ownsRow_base B2.out.size ho)
    have B5 := Lib.hid (B2.out.trans (hb5.mono B2.out.size))
    clear ho hb5
    go_wp2
    go_ret2
    exact ⟨_, rfl, by rw [HL.out]; exact HO.out, B5.out⟩
  · have HL : Hid (covL n es = []) := Lib.hid (by unfold covL; rw [if_neg hp])
    obtain ⟨z, hz⟩ : ∃ z, poE n es = z := ⟨_, rfl⟩
    have HH : Hid (Calls Try.prog 39 #[.int .i64 n, .slice ad es.length cap] w fun e w' => e = .returned (.tuple #[.slice none 0 0, .int .i64 z]) ∧ Below w.heap.size w w') := Lib.hid (H.mono (by
      rintro e w1 ⟨v, rfl, b1, h | ⟨N, A, g, h1, h2, h3, rfl, h5⟩⟩
      · exact ⟨by rw [h.2, hz], b1⟩
      · exact absurd h3 hp))
    rw [hz] at hp ⊢
    have hzb : (z != 0) = true := by rw [bne_iff_ne]; exact hp
    clear hE H hp hz
    go_enter Try.func23, Try.ntmps23
    go_wp2_with fail
    refine HH.out.mono ?_
    rintro e w1 ⟨rfl, b1⟩
    have hs1 := b1.size
    have B2 : Hid (Below w.heap.size w (w1.alloc (.cells #[.slice none 0 0] 53))) := Lib.hid (b1.alloc hs1 _)
    clear b1
    go_wp2
    go_ret2
    exact ⟨_, rfl, by rw [HL.out]; exact OwnE.nil _ _, B2.out⟩

set_option maxRecDepth 100000 in
set_option maxHeartbeats 8000000 in
theorem concurrent_any (n : Int) (ad : Option Addr) (cap : Nat) (es : List (Int × Int)) (w : World) (hE : EdgesA w.heap.size w ad es) (hl : es.length ≤ 9223372036854775807) :
    Calls Try.prog 19 #[.int .i64 n, .slice ad es.length cap] w fun e w' => ∃ v, e = .returned v ∧ OwnE w.heap.size (conL n es) v w' ∧ Below w.heap.size w w' := by
  have H := strictOrder_any n ad cap es w hE hl
  by_cases hp : poE n es = 0
  · have HH : Hid (Calls Try.prog 39 #[.int .i64 n, .slice ad es.length cap] w fun e w' => ∃ (N A : Nat) (g : Nat → Nat), e = .returned (.tuple #[matV A N, .int .i64 0]) ∧ Below w.heap.size w w' ∧ n = (N : Int) ∧ N ≤ 200 ∧ MatK w.heap.size A N N g (relG (gN es)) w') := Lib.hid (H.mono (by
      rintro e w1 ⟨v, rfl, b1, h | ⟨N, A, g, h1, h2, h3, rfl, h5⟩⟩
      · exact absurd hp h.1
      · exact ⟨N, A, g, by rw [hp], b1, h1, h2, h5⟩))
    have HL : Hid (conL n es = prs n.toNat (conP (relG (gN es)))) := Lib.hid (by unfold conL; rw [if_pos hp])
    clear hE H hp
    go_enter Try.func19, Try.ntmps19
    go_wp2_with fail
    refine HH.out.mono ?_
    rintro e w1 ⟨N, A, g, rfl, b1, rfl, hN, hm⟩
    rw [Int.toNat_natCast] at HL
    have HM := Lib.hid hm
    have hs1 := b1.size
    have B2 : Hid (Below w.heap.size w (w1.alloc (.cells #[matV A N] 53))) := Lib.hid (b1.alloc hs1 _)
    have HPW := Lib.hid (pairsWith_any N 50 #[] #[.pointer (some ⟨w1.heap.size, 0, none⟩)] (conP (relG (gN es))) (w1.alloc (.cells #[matV A N] 53)) hN (enters_of Try.func50 (by kernel_rfl) rfl) (fun i j W hi hj hb => concur_cond w.heap.size A N i j _ g (relG (gN es)) W ((HM.out.alloc _).below hb (Nat.le_refl _)) ((hb.block _ (by simp)).trans (World.alloc_heap_new w1 _)) hi hj))
    clear hm b1
    go_wp2_with fail
    refine HPW.out.mono ?_
    rintro e w5 ⟨v, rfl, ho, hb5⟩
    have HO := Lib.hid (ownsRow_base B2.out.size ho)
    have B5 := Lib.hid (B2.out.trans (hb5.mono B2.out.size))
    clear ho hb5
    go_wp2
    go_ret
    exact ⟨_, rfl, by rw [HL.out]; exact HO.out, B5.out⟩
  · have HL : Hid (conL n es = []) := Lib.hid (by unfold conL; rw [if_neg hp])
    obtain ⟨z, hz⟩ : ∃ z, poE n es = z := ⟨_, rfl⟩
    have HH : Hid (Calls Try.prog 39 #[.int .i64 n, .slice ad es.length cap] w fun e w' => e = .returned (.tuple #[.slice none 0 0, .int .i64 z]) ∧ Below w.heap.size w w') := Lib.hid (H.mono (by
      rintro e w1 ⟨v, rfl, b1, h | ⟨N, A, g, h1, h2, h3, rfl, h5⟩⟩
      · exact ⟨by rw [h.2, hz], b1⟩
      · exact absurd h3 hp))
    rw [hz] at hp
    have hzb : (z != 0) = true := by rw [bne_iff_ne]; exact hp
    clear hE H hp hz
    go_enter Try.func19, Try.ntmps19
    go_wp2_with fail
    refine HH.out.mono ?_
    rintro e w1 ⟨rfl, b1⟩
    have hs1 := b1.size
    have B2 : Hid (Below w.heap.size w (w1.alloc (.cells #[.slice none 0 0] 53))) := Lib.hid (b1.alloc hs1 _)
    clear b1
    go_wp2
    go_ret
    exact ⟨_, rfl, by rw [HL.out]; exact OwnE.nil _ _, B2.out⟩

end Go.Proofs.Ytbfeiegjhcjbnaa
