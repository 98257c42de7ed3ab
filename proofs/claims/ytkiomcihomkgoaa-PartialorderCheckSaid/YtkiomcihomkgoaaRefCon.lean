/-
  What the reference's Concurrent of partialorder returns.
-/
import Derived.Test.YtkiomcihomkgoaaRefChk
namespace Go.Proofs.Ytkiomcihomkgoaa
open Go.RowKit

theorem con_skip {N i : Nat} {f : Nat → Nat → Bool} (hi : i < N) : ∀ j, j ≤ i + 1 → prsK N (conP f) (i * N + j) = prsK N (conP f) (i * N)
  | 0, _ => rfl
  | j + 1, h => by
    rw [prsK_no (by omega) (by unfold conP; simp; intro h1; omega)]
    exact con_skip hi j (by omega)

set_option maxRecDepth 100000 in
set_option maxHeartbeats 8000000 in
theorem refConcurrent_any (n : Int) (ad : Option Addr) (cap : Nat) (es : List (Int × Int)) (w : World) (hE : EdgesA w.heap.size w ad es) (hl : es.length ≤ 9223372036854775807) :
    Calls Try.prog 21 #[.int .i64 n, .slice ad es.length cap] w fun e w' => ∃ v, e = .returned v ∧ OwnE w.heap.size (conL n es) v w' ∧ Below w.heap.size w w' := by
  have HCK := refCheck_any n ad cap es w hE hl
  by_cases hp : poE n es = 0
  · obtain ⟨N, hnN, hN, hk, hok, _⟩ := po_ok hp
    have hcv : conL n es = prs N (conP (relG (gN es))) := by unfold conL; rw [if_pos hp, hnN, Int.toNat_natCast]
    rw [hcv]
    rw [hp] at HCK
    subst hnN
    obtain ⟨i3, ki, kz0, kz1, kz2⟩ := info_parts infoE
    have HCK := Lib.hid HCK
    have HE := Lib.hid hE
    have HOK := Lib.hid hok
    clear hE hok hp hcv
    go_enter Try.func21, Try.ntmps21
    go_wp2_with fail
    refine HCK.out.mono ?_
    rintro e w1 ⟨rfl, b1⟩
    have HTB := Lib.hid (table_any _ N ad cap es w1 ((HE.out.below b1).mono b1.size) (Nat.le_refl _) hk hN HOK.out)
    have HB1 := Lib.hid b1
    clear b1 HCK
    go_wp2_with fail
    refine HTB.out.mono ?_
    rintro e w2 ⟨rfl, ht, b2⟩
    obtain ⟨G, hG⟩ : ∃ G, w1.heap.size = G := ⟨_, rfl⟩
    rw [hG] at ht ⊢
    have HT := Lib.hid ht
    have HB2 := Lib.hid (HB1.out.trans (b2.mono HB1.out.size))
    clear ht b2 HTB
    generalize hfe : relG (gN es) = f at *
    go_wp2_with fail
    go_loopw [6, 7] (fun v x wr => ∃ i : Nat, i ≤ N ∧ x = .int .i64 i ∧ Hid (OwnE w2.heap.size (prsK N (conP f) (i * N)) v wr) ∧ Hid (Below w2.heap.size w2 wr)) (fun _ x _ => N - (intOf x).toNat)
    case atStart => exact ⟨0, Nat.zero_le _, rfl, Lib.hid (by rw [Nat.zero_mul]; exact OwnE.nil _ _), Lib.hid (Below.refl _ _)⟩
    case round =>
      obtain ⟨i, hi, rfl, HO, HB⟩ := hrel
      by_cases hit : i < N
      · have i1 : (i : Int) < (N : Int) := by omega
        have HO0 : Hid (OwnE w2.heap.size (prsK N (conP f) (i * N + (i + 1))) u6 wr) := Lib.hid (by rw [con_skip hit _ (Nat.le_refl _)]; exact HO.out)
        go_wp2_with fail
        go_loopw [6, 8] (fun v x wr => ∃ j : Nat, i < j ∧ j ≤ N ∧ x = .int .i64 j ∧ Hid (OwnE w2.heap.size (prsK N (conP f) (i * N + j)) v wr) ∧ Hid (Below w2.heap.size w2 wr)) (fun _ x _ => N - (intOf x).toNat)
        case atStart => exact ⟨i + 1, by omega, by omega, by go_num, HO0, HB⟩
        case round =>
          obtain ⟨j, hij, hj, rfl, HO, HB⟩ := hrel
          by_cases hjt : j < N
          · have j1 : (j : Int) < (N : Int) := by omega
            obtain ⟨f1, f2, f3, f4, f5⟩ := flat_int hN hit hjt
            obtain ⟨h1, h2, h3, h4, h5⟩ := flat_int hN hjt hit
            have HTr := HT.out.below HB.out (Nat.le_refl _)
            have c1 := HTr.cell hit hjt
            have c2 := HTr.cell hjt hit
            have hcp : conP f i j = (!f i j && !f j i) := by unfold conP; simp [hij]
            have HNo : Hid (conP f i j = false → OwnE w2.heap.size (prsK N (conP f) (i * N + (j + 1))) u6 wr) := Lib.hid (fun h => by rw [prsK_no hjt h]; exact HO.out)
            have HYes : Hid (conP f i j = true → prsK N (conP f) (i * N + (j + 1)) = prsK N (conP f) (i * N + j) ++ [(i, j)]) := Lib.hid (fun h => prsK_yes hjt h)
            rw [hcp] at HNo HYes
            clear HTr hcp
            generalize f i j = z1 at *
            generalize f j i = z2 at *
            cases z1
            · cases z2
              · have HN := Lib.hid (HYes.out rfl)
                have hsz := HB.out.size
                have hll : (prsK N (conP f) (i * N + j)).length ≤ 40200 := by
                  have h1 := prsK_length N (conP f) (i * N + j)
                  have h2 : i * N ≤ 200 * 200 := Nat.mul_le_mul (by omega) hN
                  omega
                have ho := HO.out
                unfold OwnE at ho
                obtain ⟨L, hL⟩ : ∃ L, prsK N (conP f) (i * N + j) = L := ⟨_, rfl⟩
                rw [hL] at ho hll HN
                have HOWN := Lib.hid ho
                clear ho hL HNo HYes
                go_wp2_with (at_builtin; refine wpList_append_own _ rfl _ _ 22 rfl w2.heap.size TE i3 (.agg #[.int .i64 0, .int .i64 0]) 2 16 Try.underlying22 ki kz0 kz1 kz2 rfl (by decide) _ _ _ rfl (HOWN.out.alloc _) ⟨wr.heap.size, 0, none⟩ 1 1 [.int .i64 (i : Int), .int .i64 (j : Int)] rfl rfl (newCell2 _ _ _ _) (two_one _ _) (by unfold maxLen; omega) (by omega) (by simp; omega) ?_)
                intro v' w6 hown' hgrow hnil
                have HO6 : Hid (OwnE w2.heap.size (prsK N (conP f) (i * N + (j + 1))) v' w6) := Lib.hid (by
                  rw [HN.out]
                  unfold OwnE
                  rw [edV_snoc, List.length_append]
                  exact hown')
                have HB6 : Hid (Below w2.heap.size w2 w6) := Lib.hid ((HB.out.alloc hsz _).grown hgrow (by simp; omega) (fun i hi => (HOWN.out.lt i hi).1))
                clear hown' hgrow hnil
                go_wp2
                go_roundw
                case rel => exact ⟨j + 1, by omega, by omega, by go_num, HO6, HB6⟩
                case measure => simp [intOf]; omega
              · have HN := Lib.hid (HNo.out rfl)
                clear HNo HYes
                go_wp2
                go_roundw
                case rel => exact ⟨j + 1, by omega, by omega, by go_num, HN, HB⟩
                case measure => simp [intOf]; omega
            · have HN := Lib.hid (HNo.out rfl)
              clear HNo HYes
              go_wp2
              go_roundw
              case rel => exact ⟨j + 1, by omega, by omega, by go_num, HN, HB⟩
              case measure => simp [intOf]; omega
          · obtain rfl : j = N := by omega
            have HN : Hid (OwnE w2.heap.size (prsK j (conP f) ((i + 1) * j)) u6 wr) := Lib.hid (by rw [← prsK_next]; exact HO.out)
            go_wp2
            go_roundw
            case rel => exact ⟨i + 1, by omega, by go_num, HN, HB⟩
            case measure => simp [intOf]; omega
      · obtain rfl : i = N := by omega
        have hle : w.heap.size ≤ w2.heap.size := HB2.out.size
        have ho : Hid (OwnE w.heap.size (prs i (conP f)) u6 wr) := Lib.hid (ownsRow_base hle HO.out)
        go_wp2
        go_ret
        subst hfe
        exact ⟨u6, rfl, ho.out, HB2.out.trans (HB.out.mono hle)⟩
  · have hc0 : conL n es = [] := by unfold conL; rw [if_neg hp]
    have hpb : (poE n es != 0) = true := by simp [hp]
    rw [hc0]
    have HCK := Lib.hid HCK
    clear hE hc0
    go_enter Try.func21, Try.ntmps21
    go_wp2_with fail
    refine HCK.out.mono ?_
    rintro e w1 ⟨rfl, b1⟩
    go_wp2
    go_ret
    exact ⟨_, rfl, OwnE.nil _ _, b1⟩

end Go.Proofs.Ytkiomcihomkgoaa
