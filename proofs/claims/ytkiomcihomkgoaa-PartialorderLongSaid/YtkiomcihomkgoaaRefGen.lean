/-
  What the reference's Generate of partialorder returns.
-/
import Derived.Test.YtkiomcihomkgoaaPoTab
namespace Go.Proofs.Ytkiomcihomkgoaa
open Go.RowKit

set_option maxRecDepth 100000 in
set_option maxHeartbeats 8000000 in
theorem refGenerate_any (n : Int) (ad : Option Addr) (cap : Nat) (es : List (Int × Int)) (w : World) (hE : EdgesA w.heap.size w ad es) (hl : es.length ≤ 9223372036854775807) :
    Calls Try.prog 23 #[.int .i64 n, .slice ad es.length cap] w (GivE (genL n es) (genE n es) w) := by
  by_cases hs : sizeE n es.length = 0
  · obtain ⟨N, rfl, hN, hk⟩ := size_ok hs
    have n1 : ¬ (N : Int) < 0 := by omega
    have n2 : ¬ (200 : Int) < (N : Int) := by omega
    have n3 : ¬ (2000 : Int) < (es.length : Int) := by omega
    have HE := Lib.hid hE
    have HBAD : Hid (∀ (k : Nat) (e : Int × Int), k < es.length → es[k]?.getD (0, 0) = e → badE (N : Int) e → genE (N : Int) es = 2 ∧ genL (N : Int) es = []) := Lib.hid (fun k e h1 h2 h3 => by
      have hb := okB_bad h1 h2 h3
      have h4 : genE (N : Int) es = 2 := by unfold genE; rw [if_pos hs, hb, if_neg (by simp)]
      exact ⟨h4, genL_err h4 (by omega)⟩)
    have HEND : Hid (okB (N : Int) es = true → OkE N es ∧ (loopK (genF N es) N = true → genE (N : Int) es = 21 ∧ genL (N : Int) es = []) ∧ (loopK (genF N es) N = false → (2000 < (prs N (genF N es)).length → genE (N : Int) es = 4 ∧ genL (N : Int) es = []) ∧ (¬ 2000 < (prs N (genF N es)).length → genE (N : Int) es = 0 ∧ genL (N : Int) es = prs N (genF N es)))) := Lib.hid (fun hb => by
      have hok := okB_ok hb
      refine ⟨hok, fun h => ?_, fun h => ⟨fun h2 => ?_, fun h2 => gen_of hN hk hok h (by omega)⟩⟩
      · have h4 : genE (N : Int) es = 21 := by unfold genE; rw [if_pos hs, hb, if_pos rfl, Int.toNat_natCast, h, if_pos rfl]
        exact ⟨h4, genL_err h4 (by omega)⟩
      · have h4 : genE (N : Int) es = 4 := by unfold genE; rw [if_pos hs, hb, if_pos rfl, Int.toNat_natCast, h, if_neg (by simp), if_pos h2]
        exact ⟨h4, genL_err h4 (by omega)⟩)
    clear hE hs
    generalize genE (N : Int) es = E at *
    generalize genL (N : Int) es = G at *
    go_enter Try.func23, Try.ntmps23
    go_wp2
    go_loopw [6] (fun x wr => ∃ k : Nat, k ≤ es.length ∧ x = .int .i64 k ∧ Hid (okB (N : Int) (es.take k) = true) ∧ Hid (Below w.heap.size w wr)) (fun x _ => es.length - (intOf x).toNat)
    case atStart => exact ⟨0, Nat.zero_le _, rfl, Lib.hid (by rw [List.take_zero]; rfl), Lib.hid (Below.refl _ _)⟩
    case round =>
      obtain ⟨k, hk', rfl, HO, HB⟩ := hrel
      by_cases hlt : k < es.length
      · have k1 : (k : Int) < (es.length : Int) := by omega
        obtain ⟨b, off, rfl, hb, hc⟩ := HE.out.some_ (by omega)
        obtain ⟨c1, c2⟩ := hc k hlt
        have p1 := (HB.out.cell (p := ⟨b, off + k * 2, none⟩) hb).trans c1
        have p2 := (HB.out.cell (p := ⟨b, off + k * 2 + 1, none⟩) hb).trans c2
        obtain ⟨⟨u, v⟩, hx⟩ : ∃ e, es[k]?.getD (0, 0) = e := ⟨_, rfl⟩
        rw [hx] at p1 p2
        simp only [] at p1 p2
        have HIN := inside_any (N : Int) u v wr
        by_cases hbad : badE (N : Int) (u, v)
        · rw [decide_eq_true hbad] at HIN
          have HIN := Lib.hid HIN
          obtain ⟨rfl, rfl⟩ := HBAD.out k (u, v) hlt hx hbad
          clear hc c1 c2 hx hbad
          go_wp2_with fail
          refine HIN.out.mono ?_
          rintro e w1 ⟨rfl, b1⟩
          go_wp2
          go_ret2
          exact ⟨_, rfl, OwnE.nil _ _, HB.out.trans (b1.mono HB.out.size)⟩
        · have HO' : Hid (okB (N : Int) (es.take (k + 1)) = true) := Lib.hid (by rw [okB_take hlt hx, HO.out, decide_eq_false hbad]; rfl)
          rw [decide_eq_false hbad] at HIN
          have HIN := Lib.hid HIN
          clear hc c1 c2 hx hbad
          go_wp2_with fail
          refine HIN.out.mono ?_
          rintro e w1 ⟨rfl, b1⟩
          have HB1 := Lib.hid (HB.out.trans (b1.mono HB.out.size))
          clear b1
          go_wp2
          go_roundw
          case rel => exact ⟨k + 1, by omega, by go_num, HO', HB1⟩
          case measure => simp [intOf]; omega
      · obtain rfl : k = es.length := by omega
        obtain ⟨hok, hE1, hE2⟩ := HEND.out (by have := HO.out; rwa [List.take_length] at this)
        have HTB := Lib.hid (table_any _ N ad cap es wr ((HE.out.below HB.out).mono HB.out.size) (Nat.le_refl _) hk hN hok)
        have HX1 := Lib.hid hE1
        have HX2 := Lib.hid hE2
        have HOK := Lib.hid hok
        clear hE1 hE2 hok
        go_wp2_with fail
        refine HTB.out.mono ?_
        rintro e w1 ⟨rfl, ht1, b1⟩
        have HCL := Lib.hid (closed_any _ _ N (relG (gN es)) w1 ht1 hN (gN_low HOK.out))
        have HB1 := Lib.hid (HB.out.trans (b1.mono HB.out.size))
        have hsz1 := b1.size
        clear ht1 b1 HTB
        go_wp2_with fail
        refine HCL.out.mono ?_
        rintro e w2 ⟨rfl, ht2, b2⟩
        have HRF := reflexive_any _ _ N (war (relG (gN es)) N) w2 ht2 hN
        have HT2 := Lib.hid ht2
        have HB2 := Lib.hid (HB1.out.trans (b2.mono HB.out.size))
        clear ht2 b2 HCL
        cases hlo : loopK (war (relG (gN es)) N) N with
        | true =>
          rw [hlo] at HRF
          have HRF := Lib.hid HRF
          obtain ⟨rfl, rfl⟩ := HX1.out hlo
          clear hlo
          go_wp2_with fail
          refine HRF.out.mono ?_
          rintro e w3 ⟨rfl, rfl⟩
          go_wp2
          go_ret2
          exact ⟨_, rfl, OwnE.nil _ _, HB2.out⟩
        | false =>
          rw [hlo] at HRF
          have HRF := Lib.hid HRF
          have HX := Lib.hid (HX2.out hlo)
          have HPR := Lib.hid (pairs_any _ _ N _ w2 HT2.out hN)
          clear hlo
          go_wp2_with fail
          refine HRF.out.mono ?_
          rintro e w3 ⟨rfl, rfl⟩
          go_wp2_with fail
          refine HPR.out.mono ?_
          rintro e w3 ⟨v3, rfl, ho3, b3⟩
          have ho3' := ownsRow_base HB2.out.size ho3
          obtain ⟨a', c', e', _, _⟩ := own_sliceS ho3'
          subst e'
          have HO3 := Lib.hid ho3'
          have HB3 := Lib.hid (HB2.out.trans (b3.mono HB2.out.size))
          clear ho3 ho3' b3
          by_cases h2 : 2000 < (prs N (genF N es)).length
          · obtain ⟨rfl, rfl⟩ := HX.out.1 h2
            have h2' : (2000 : Int) < (((prs N (war (relG (gN es)) N)).length : Nat) : Int) := by unfold genF at h2; omega
            clear h2
            go_wp2
            go_ret2
            exact ⟨_, rfl, OwnE.nil _ _, HB3.out⟩
          · obtain ⟨rfl, rfl⟩ := HX.out.2 h2
            have h2' : ¬ (2000 : Int) < (((prs N (war (relG (gN es)) N)).length : Nat) : Int) := by unfold genF at h2; omega
            clear h2
            go_wp2
            go_ret2
            exact ⟨_, rfl, HO3.out, HB3.out⟩
  · have hx : genE n es = sizeE n es.length := by unfold genE; rw [if_neg hs]
    have hg := genL_err hx hs
    rw [hx, hg]
    unfold sizeE at hs ⊢
    by_cases h1 : n < 0
    · rw [if_pos (.inl h1)]
      clear hE hx hg hs
      go_enter Try.func23, Try.ntmps23
      go_wp2
      go_ret2
      exact ⟨_, rfl, OwnE.nil _ _, Below.refl _ _⟩
    · by_cases h2 : 200 < n
      · rw [if_pos (.inr h2)]
        clear hE hx hg hs
        go_enter Try.func23, Try.ntmps23
        go_wp2
        go_ret2
        exact ⟨_, rfl, OwnE.nil _ _, Below.refl _ _⟩
      · rw [if_neg (by omega)] at hs ⊢
        by_cases h3 : 2000 < es.length
        · rw [if_pos h3]
          have h3' : (2000 : Int) < (es.length : Int) := by omega
          clear hE hx hg hs
          go_enter Try.func23, Try.ntmps23
          go_wp2
          go_ret2
          exact ⟨_, rfl, OwnE.nil _ _, Below.refl _ _⟩
        · rw [if_neg h3] at hs
          exact absurd rfl hs

end Go.Proofs.Ytkiomcihomkgoaa
