/-
  What the reference's Covers of partialorder returns.
-/
import Derived.Test.YtkiomcihomkgoaaRefChk
namespace Go.Proofs.Ytkiomcihomkgoaa
open Go.RowKit

def cvK (N : Nat) (f : Nat → Nat → Bool) (g : List (Nat × Nat)) (k : Nat) : List (Nat × Nat) := (g.take k).filter fun e => !betwK f e.1 e.2 N
theorem cvK_yes {N : Nat} {f : Nat → Nat → Bool} {g : List (Nat × Nat)} {k x y : Nat} (h : g[k]? = some (x, y)) (hb : betwK f x y N = false) : cvK N f g (k + 1) = cvK N f g k ++ [(x, y)] := by
  obtain ⟨hk, hg⟩ := List.getElem?_eq_some_iff.1 h
  unfold cvK
  rw [List.take_succ_eq_append_getElem hk, List.filter_append, hg]
  simp [hb]
theorem cvK_no {N : Nat} {f : Nat → Nat → Bool} {g : List (Nat × Nat)} {k x y : Nat} (h : g[k]? = some (x, y)) (hb : betwK f x y N = true) : cvK N f g (k + 1) = cvK N f g k := by
  obtain ⟨hk, hg⟩ := List.getElem?_eq_some_iff.1 h
  unfold cvK
  rw [List.take_succ_eq_append_getElem hk, List.filter_append, hg]
  simp [hb]
theorem cvK_len (N : Nat) (f : Nat → Nat → Bool) (g : List (Nat × Nat)) (k : Nat) : (cvK N f g k).length ≤ g.length := by
  unfold cvK
  refine Nat.le_trans (List.length_filter_le _ _) ?_
  rw [List.length_take]
  omega
theorem cvK_all {N : Nat} {g : List (Nat × Nat)} (hg : ∀ e, e ∈ g → e.1 < N ∧ e.2 < N) (hs : g.Pairwise ltP) : cvK N (relG g) g g.length = prs N (covP N (relG g)) := by
  unfold cvK
  rw [List.take_length]
  refine srt_ext _ _ (hs.filter _) (prsK_srt N _ _) ?_
  rintro ⟨a, b⟩
  rw [List.mem_filter, mem_prs]
  unfold covP
  constructor
  · rintro ⟨h1, h2⟩
    have := hg _ h1
    exact ⟨this.1, this.2, by rw [relG_iff.2 h1]; simpa using h2⟩
  · rintro ⟨h1, h2, h3⟩
    simp at h3
    exact ⟨relG_iff.1 h3.1, by simpa using h3.2⟩

set_option maxRecDepth 100000 in
set_option maxHeartbeats 8000000 in
theorem refCovers_any (n : Int) (ad : Option Addr) (cap : Nat) (es : List (Int × Int)) (w : World) (hE : EdgesA w.heap.size w ad es) (hl : es.length ≤ 9223372036854775807) :
    Calls Try.prog 25 #[.int .i64 n, .slice ad es.length cap] w (GivE (covL n es) (poE n es) w) := by
  have HCK := refCheck_any n ad cap es w hE hl
  by_cases hp : poE n es = 0
  · obtain ⟨N, hnN, hN, hk, hok, _, _, hsrt⟩ := po_ok hp
    have hcv : covL n es = cvK N (relG (gN es)) (gN es) es.length := by
      have h := cvK_all (gN_lt hok) hsrt
      rw [gN_length] at h
      unfold covL
      rw [if_pos hp, hnN, Int.toNat_natCast, h]
    rw [hcv, hp]
    rw [hp] at HCK
    subst hnN
    obtain ⟨i3, ki, kz0, kz1, kz2⟩ := info_parts infoE
    have HCK := Lib.hid HCK
    have HE := Lib.hid hE
    have HOK := Lib.hid hok
    clear hE hok hp hcv hsrt
    go_enter Try.func25, Try.ntmps25
    go_wp2_with fail
    refine HCK.out.mono ?_
    rintro e w1 ⟨rfl, b1⟩
    have HTB := Lib.hid (table_any _ N ad cap es w1 ((HE.out.below b1).mono b1.size) (Nat.le_refl _) hk hN HOK.out)
    have HB1 := Lib.hid b1
    clear b1 HCK
    go_wp2_with fail
    refine HTB.out.mono ?_
    rintro e w2 ⟨rfl, ht, b2⟩
    obtain ⟨G, hG⟩ : ∃ G, w1.heap.size = G := ⟨_, rfl⟩
    rw [hG] at ht ⊢
    have HT := Lib.hid ht
    have HB2 := Lib.hid (HB1.out.trans (b2.mono HB1.out.size))
    clear ht b2 HTB
    generalize hf : relG (gN es) = f at *
    go_wp2_with fail
    go_loopw [8, 9] (fun v x wr => ∃ k : Nat, k ≤ es.length ∧ x = .int .i64 k ∧ Hid (OwnE w2.heap.size (cvK N f (gN es) k) v wr) ∧ Hid (Below w2.heap.size w2 wr)) (fun _ x _ => es.length - (intOf x).toNat)
    case atStart => exact ⟨0, Nat.zero_le _, rfl, Lib.hid (OwnE.nil _ _), Lib.hid (Below.refl _ _)⟩
    case round =>
      obtain ⟨k, hk', rfl, HO, HB⟩ := hrel
      by_cases hlt : k < es.length
      · have k1 : (k : Int) < (es.length : Int) := by omega
        obtain ⟨b, off, rfl, hb, hc⟩ := HE.out.some_ (by omega)
        obtain ⟨c1, c2⟩ := hc k hlt
        obtain ⟨x, y, hev, hxN, hyN, hge⟩ := HOK.out.at_ hlt
        rw [hev] at c1 c2
        have HBA := HB2.out.trans (HB.out.mono HB2.out.size)
        have p1 := (HBA.cell (p := ⟨b, off + k * 2, none⟩) hb).trans c1
        have p2 := (HBA.cell (p := ⟨b, off + k * 2 + 1, none⟩) hb).trans c2
        simp only [] at p1 p2
        have HTr := Lib.hid (HT.out.below HB.out (Nat.le_refl _))
        clear hc c1 c2 hev HBA
        go_wp2_with fail
        go_loopw [10, 11] (fun z q wx => ∃ j : Nat, j ≤ N ∧ q = .int .i64 j ∧ z = .bool (betwK f x y j) ∧ wr = wx) (fun _ q _ => N - (intOf q).toNat)
        case atStart => exact ⟨0, Nat.zero_le _, rfl, rfl, rfl⟩
        case round =>
          obtain ⟨j, hj, rfl, rfl, rfl⟩ := hrel
          by_cases hjt : j < N
          · have j1 : (j : Int) < (N : Int) := by omega
            obtain ⟨f1, f2, f3, f4, f5⟩ := flat_int hN hxN hjt
            obtain ⟨h1, h2, h3, h4, h5⟩ := flat_int hN hjt hyN
            have c1 := HTr.out.cell hxN hjt
            have c2 := HTr.out.cell hjt hyN
            have hnx : Hid (betwK f x y (j + 1) = (betwK f x y j || (f x j && f j y))) := Lib.hid (betwK_succ f x y j)
            generalize betwK f x y j = z0 at *
            generalize f x j = z2 at *
            generalize f j y = z3 at *
            cases z0
            · cases z2
              · go_wp2
                go_roundw
                case rel => exact ⟨j + 1, by omega, by go_num, by rw [hnx.out]; rfl, trivial⟩
                case measure => simp [intOf]; omega
              · cases z3
                · go_wp2
                  go_roundw
                  case rel => exact ⟨j + 1, by omega, by go_num, by rw [hnx.out]; rfl, trivial⟩
                  case measure => simp [intOf]; omega
                · go_wp2
                  go_roundw
                  case rel => exact ⟨j + 1, by omega, by go_num, by rw [hnx.out]; rfl, trivial⟩
                  case measure => simp [intOf]; omega
            · go_wp2
              go_roundw
              case rel => exact ⟨j + 1, by omega, by go_num, by rw [hnx.out]; rfl, trivial⟩
              case measure => simp [intOf]; omega
          · obtain rfl : j = N := by omega
            cases hbt : betwK f x y j with
            | true =>
              have HN : Hid (OwnE w2.heap.size (cvK j f (gN es) (k + 1)) u8 wr) := Lib.hid (by rw [cvK_no hge hbt]; exact HO.out)
              clear hbt
              go_wp2
              go_roundw
              case rel => exact ⟨k + 1, by omega, by go_num, HN, HB⟩
              case measure => simp [intOf]; omega
            | false =>
              have HN : Hid (cvK j f (gN es) (k + 1) = cvK j f (gN es) k ++ [(x, y)]) := Lib.hid (cvK_yes hge hbt)
              have hll := cvK_len j f (gN es) k
              rw [gN_length] at hll
              have hsz := HB.out.size
              have ho := HO.out
              unfold OwnE at ho
              obtain ⟨L, hL⟩ : ∃ L, cvK j f (gN es) k = L := ⟨_, rfl⟩
              rw [hL] at ho hll HN
              have HOWN := Lib.hid ho
              clear hbt ho hL
              go_wp2_with (at_builtin; refine wpList_append_own _ rfl _ _ 22 rfl w2.heap.size TE i3 (.agg #[.int .i64 0, .int .i64 0]) 2 16 Try.underlying22 ki kz0 kz1 kz2 rfl (by decide) _ _ _ rfl (HOWN.out.alloc _) ⟨wr.heap.size, 0, none⟩ 1 1 [.int .i64 (x : Int), .int .i64 (y : Int)] rfl rfl (newCell2 _ _ _ _) (two_one _ _) (by unfold maxLen; omega) (by omega) (by simp; omega) ?_)
              intro v' w6 hown' hgrow hnil
              have HO6 : Hid (OwnE w2.heap.size (cvK j f (gN es) (k + 1)) v' w6) := Lib.hid (by
                rw [HN.out]
                unfold OwnE
                rw [edV_snoc, List.length_append]
                exact hown')
              have HB6 : Hid (Below w2.heap.size w2 w6) := Lib.hid ((HB.out.alloc hsz _).grown hgrow (by simp; omega) (fun i hi => (HOWN.out.lt i hi).1))
              clear hown' hgrow hnil
              go_wp2
              go_roundw
              case rel => exact ⟨k + 1, by omega, by go_num, HO6, HB6⟩
              case measure => simp [intOf]; omega
      · obtain rfl : k = es.length := by omega
        go_wp2
        go_ret2
        have hle : w.heap.size ≤ w2.heap.size := HB2.out.size
        exact ⟨_, rfl, ownsRow_base hle HO.out, HB2.out.trans (HB.out.mono hle)⟩
  · have hc0 : covL n es = [] := by unfold covL; rw [if_neg hp]
    have hpb : (poE n es != 0) = true := by simp [hp]
    rw [hc0]
    have HCK := Lib.hid HCK
    clear hE hc0
    go_enter Try.func25, Try.ntmps25
    go_wp2_with fail
    refine HCK.out.mono ?_
    rintro e w1 ⟨rfl, b1⟩
    go_wp2
    go_ret2
    exact ⟨_, rfl, OwnE.nil _ _, b1⟩

end Go.Proofs.Ytkiomcihomkgoaa
