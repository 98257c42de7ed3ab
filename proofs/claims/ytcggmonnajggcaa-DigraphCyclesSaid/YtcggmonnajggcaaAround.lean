/-
  What the reference's around of digraph returns.
-/
import Derived.Test.YtcggmonnajggcaaRefRanks
import Derived.Test.YtcggmonnajggcaaDistances
import Derived.Test.YtcggmonnajggcaaAroundPlain
namespace Go.Proofs.Ytcggmonnajggcaa
open Go.RowKit

theorem hasE_g {N : Nat} {es : List (Int × Int)} (hok : OkE N es) (x y : Nat) : hasE es (x : Int) (y : Int) = (gN es).contains (x, y) := by
  rw [Bool.eq_iff_iff]
  unfold hasE gN
  simp only [List.any_eq_true, List.contains_eq_mem, decide_eq_true_eq, List.mem_map, Bool.and_eq_true, beq_iff_eq, Prod.mk.injEq]
  constructor
  · rintro ⟨e, he, h1, h2⟩
    exact ⟨e, he, by omega, by omega⟩
  · rintro ⟨e, he, h1, h2⟩
    obtain ⟨a, b, c, d⟩ := hok e he
    exact ⟨e, he, by omega, by omega⟩
def optI : Option Nat → Int
  | none => -1
  | some j => (j : Int)
theorem zs_drewN {B G N k : Nat} {l : List Int} {W : World} (h : ZsAt B G N l W) : ZsAt B G N l (W.drewN k) := own_drewN h
theorem row_drewN {B k : Nat} {l : List Nat} {v : Value} {W : World} (h : RowN B l v W) : RowN B l v (W.drewN k) := by
  obtain ⟨g, cap, e, h⟩ := h
  exact ⟨g, cap, e, own_drewN h⟩
/-- The inner loop's state: next, and how far it has come. -/
def NearSt (N : Nat) (g : List (Nat × Nat)) (d : List Int) (x : Nat) (nx : Int) (i : Nat) : Prop :=
  (nx = -1 ∧ ∀ j, j < i → nearB g d x j = false) ∨ (∃ j : Nat, nx = (j : Int) ∧ nearF N g d x = some j)

set_option maxRecDepth 100000 in
set_option maxHeartbeats 8000000 in
theorem around_any (n₀ N s : Nat) (ad : Option Addr) (cap : Nat) (es : List (Int × Int)) (w : World) (hE : EdgesA n₀ w ad es) (hn₀ : n₀ ≤ w.heap.size) (hl : es.length ≤ 2000) (hN : N ≤ 200) (hs : s < N) (hok : OkE N es) :
    Calls Try.prog 51 #[.int .i64 (N : Int), .slice ad es.length cap, .int .i64 (s : Int)] w fun e w' => ∃ v, e = .returned v ∧ RowN w.heap.size (aroundF N (gN es) s) v w' ∧ Below w.heap.size w w' := by
  obtain ⟨i1, ji, jz0, jz1, jz2⟩ := info_parts infoI
  have hdi := distances_any n₀ N s ad cap es w hE hn₀ hl hN hs hok
  obtain ⟨R, hR⟩ : ∃ R, aroundF N (gN es) s = R := ⟨_, rfl⟩
  rw [hR]
  unfold aroundF at hR
  have hinv := distF_inv (gN es) hs
  have HHAS : Hid (∀ x y : Nat, hasE es (x : Int) (y : Int) = (gN es).contains (x, y)) := Lib.hid (hasE_g hok)
  obtain ⟨g0, hg0⟩ : ∃ g : List (Nat × Nat), gN es = g := ⟨_, rfl⟩
  rw [hg0] at hdi hR hinv HHAS
  obtain ⟨d, hd⟩ : ∃ d, distF N g0 s = d := ⟨_, rfl⟩
  rw [hd] at hdi hR hinv
  have HDI := Lib.hid hdi
  have HR := Lib.hid hR
  have HINV := Lib.hid hinv
  have HE := Lib.hid (hE.mono hn₀)
  clear hE hok hn₀ hg0 hd hdi hR hinv
  go_enter Try.func51, Try.ntmps51
  go_wp2_with fail
  refine HDI.out.mono ?_
  rintro e w1 ⟨rfl, z1, b1⟩
  obtain ⟨G, hG⟩ : ∃ G, w.heap.size = G := ⟨_, rfl⟩
  have HGG := Lib.hid hG
  rw [hG] at z1 b1 HE ⊢
  have HZ1 := Lib.hid z1
  clear z1 hG
  go_wp2
  go_loopw [8, 9] (fun o i wr => ∃ k : Nat, k ≤ N ∧ i = .int .i64 k ∧ o = .int .i64 (optI (bestK g0 d s k)) ∧ Hid (ZsAt G G N d wr) ∧ Below G w wr) (fun _ i _ => N - (intOf i).toNat)
  case atStart => exact ⟨0, Nat.zero_le _, rfl, rfl, HZ1, b1⟩
  case round =>
    obtain ⟨k, hk, rfl, rfl, HZ, hb⟩ := hrel
    by_cases hlt : k < N
    · have hsuc := bestK_succ g0 d s k
      have hbs := @bestK_some g0 d s k
      obtain ⟨B, hB⟩ : ∃ B, bestK g0 d s k = B := ⟨_, rfl⟩
      rw [hB] at hsuc hbs ⊢
      obtain ⟨a, ha⟩ : ∃ a, d[k]? = some a := ⟨_, List.getElem?_eq_getElem (by have := HINV.out.len; omega)⟩
      have t1 := HZ.out.cell hlt ha
      obtain ⟨h, hh⟩ : ∃ h, g0.contains (s, k) = h := ⟨_, rfl⟩
      have HC : Hid (∀ q', Calls Try.prog 64 #[.slice ad es.length cap, .int .i64 (s : Int), .int .i64 (k : Int)] (wr.drewN q') fun e w' => e = .returned (.bool h) ∧ w' = wr.drewN q') := Lib.hid (fun q' => by
        have := has_any G ad cap es (s : Int) (k : Int) (wr.drewN q') ((HE.out.below hb).below (below_drewN' (Below.refl _ _))) (by omega)
        rwa [HHAS.out, hh] at this)
      have k1 : (k : Int) < (N : Int) := by omega
      cases h
      · have HS : Hid (bestK g0 d s (k + 1) = B) := Lib.hid (by rw [hsuc, bestB_no hh])
        clear hsuc hbs hB ha hh
        go_wp2_with fail
        go_quiet ((go_at_call 64; exact Calls.quiet_of_same (HC.out _)))
        go_wp2
        go_roundw
        case rel => exact ⟨k + 1, by omega, by go_num, by rw [HS.out], Lib.hid (zs_drewN HZ.out), below_drewN' hb⟩
        case measure => simp [intOf]; omega
      · by_cases ha0 : 0 ≤ a
        · cases B with
          | none =>
            have HS : Hid (bestK g0 d s (k + 1) = some k) := Lib.hid (by rw [hsuc, bestB_first hh ha ha0])
            simp only [optI]
            clear hsuc hbs hB ha hh
            go_wp2_with fail
            go_quiet ((go_at_call 64; exact Calls.quiet_of_same (HC.out _)))
            go_wp2
            go_roundw
            case rel => exact ⟨k + 1, by omega, by go_num, by rw [HS.out], Lib.hid (zs_drewN HZ.out), below_drewN' hb⟩
            case measure => simp [intOf]; omega
          | some j =>
            obtain ⟨hjk, _, hj0⟩ := hbs rfl
            obtain ⟨b, hbj⟩ : ∃ b, d[j]? = some b := ⟨_, List.getElem?_eq_getElem (by have := HINV.out.len; omega)⟩
            have t2 := HZ.out.cell (by omega : j < N) hbj
            have j1 : (j : Int) < (N : Int) := by omega
            have j2 : ¬ (j : Int) < 0 := by omega
            simp only [optI]
            by_cases hab : a < b
            · have HS : Hid (bestK g0 d s (k + 1) = some k) := Lib.hid (by rw [hsuc, bestB_near hh ha ha0 hbj hab])
              clear hsuc hbs hB ha hh hj0 hbj
              go_wp2_with fail
              go_quiet ((go_at_call 64; exact Calls.quiet_of_same (HC.out _)))
              go_wp2
              go_roundw
              case rel => exact ⟨k + 1, by omega, by go_num, by rw [HS.out], Lib.hid (zs_drewN HZ.out), below_drewN' hb⟩
              case measure => simp [intOf]; omega
            · have HS : Hid (bestK g0 d s (k + 1) = some j) := Lib.hid (by rw [hsuc, bestB_not ha hbj hab])
              clear hsuc hbs hB ha hh hj0 hbj
              go_wp2_with fail
              go_quiet ((go_at_call 64; exact Calls.quiet_of_same (HC.out _)))
              go_wp2
              go_roundw
              case rel => exact ⟨k + 1, by omega, by go_num, by rw [HS.out], Lib.hid (zs_drewN HZ.out), below_drewN' hb⟩
              case measure => simp [intOf]; omega
        · have HS : Hid (bestK g0 d s (k + 1) = B) := Lib.hid (by rw [hsuc, bestB_far ha ha0])
          have hd0 : decide (0 ≤ a) = false := by simpa using ha0
          clear hsuc hbs hB ha hh ha0
          go_wp2_with fail
          go_quiet ((go_at_call 64; exact Calls.quiet_of_same (HC.out _)))
          go_wp2
          go_roundw
          case rel => exact ⟨k + 1, by omega, by go_num, by rw [HS.out], Lib.hid (zs_drewN HZ.out), below_drewN' hb⟩
          case measure => simp [intOf]; omega
    · have hkN : k = N := by omega
      have hRR := HR.out
      have hbs := @bestK_some g0 d s N
      rw [hkN]
      obtain ⟨B, hB⟩ : ∃ B, bestK g0 d s N = B := ⟨_, rfl⟩
      rw [hB] at hRR hbs ⊢
      have hGs : G < wr.heap.size := (World.ownsRow.lt HZ.out G rfl).2
      have HGS := Lib.hid hGs
      clear hB hkN hlt hk
      cases B with
      | none =>
        have HRN : Hid (R = []) := Lib.hid hRR.symm
        simp only [optI]
        clear hRR hbs hGs
        go_wp2
        go_ret
        have h := HGG.out
        subst h
        refine ⟨_, rfl, ?_, hb.alloc (by have := HGS.out; omega) _⟩
        rw [HRN.out]
        exact RowN.empty wr _ (by have := HGS.out; omega)
      | some j =>
        obtain ⟨hjN, _, hj0⟩ := hbs rfl
        obtain ⟨a, ha⟩ : ∃ a, d[j]? = some a := ⟨_, List.getElem?_eq_getElem (by have := HINV.out.len; omega)⟩
        rw [getD_of ha] at hj0
        have HRS : Hid ([s] ++ walkF N g0 d s a.toNat j = R) := Lib.hid (by rw [← hRR, aroundOf, getD_of ha]; rfl)
        have haN := (HINV.out.low j a ha).2
        have hr0 : RowN (G + 1) [s] (.slice (some ⟨wr.heap.size, 0, none⟩) 1 1) (wr.alloc (.cells #[.int .i64 (s : Int)] TI)) := ⟨_, _, rfl, ownsRow_new wr (G + 1) hGs TI #[.int .i64 (s : Int)] 1 rfl (by decide)⟩
        have HR0 := Lib.hid hr0
        have HZ0 : Hid (ZsAt G G N d (wr.alloc (.cells #[.int .i64 (s : Int)] TI))) := Lib.hid (HZ.out.alloc _)
        have hb0 : Below G w (wr.alloc (.cells #[.int .i64 (s : Int)] TI)) := hb.alloc (by omega) _
        have HA := Lib.hid ha
        have j2 : ¬ (j : Int) < 0 := by omega
        simp only [optI]
        have hss := hGs
        clear hRR hbs hr0 ha hGs
        go_wp2
        go_loopg [10, 11] a.toNat (fun gh o i wx => ∃ (x : Nat) (b : Int) (out : List Nat), x < N ∧ i = .int .i64 x ∧ gh = b.toNat ∧ 0 ≤ b ∧ out.length + b.toNat ≤ N + 1 ∧ Hid (d[x]? = some b) ∧ Hid (out ++ walkF N g0 d s b.toNat x = R) ∧ RowN (G + 1) out o wx ∧ Hid (ZsAt G G N d wx) ∧ Below G w wx)
        case atStart => exact ⟨j, a, [s], hjN, rfl, rfl, hj0, by simp; omega, HA, HRS, HR0.out, HZ0, hb0⟩
        case round =>
          obtain ⟨x, b, out, hxN, rfl, rfl, hb0', hlen, HB, HW, ⟨go, co, rfl, hown⟩, HZx, hbx⟩ := hrel
          have HOWN := Lib.hid hown
          have hgo := (hown.lt go rfl)
          clear hown
          by_cases hxs : x = s
          · have hbz : b = 0 := by
              have h1 := HB.out
              rw [hxs, HINV.out.root] at h1
              injection h1 with h1
              exact h1.symm
            have HF : Hid (out = R) := Lib.hid (by rw [← HW.out, hbz]; simp [walkF])
            have hne : ((x : Int) != (s : Int)) = false := by rw [hxs]; simp
            clear hxs hbz
            go_wp2
            go_ret
            have h := HGG.out
            subst h
            refine ⟨_, rfl, ?_, hbx⟩
            rw [← HF.out]
            exact RowN.base ⟨go, co, rfl, HOWN.out⟩ (by omega)
          · obtain ⟨hbp, hex⟩ := near_some HINV.out HB.out hb0' hxs
            have HEX := Lib.hid hex
            have hbN := (HINV.out.low x b HB.out).2
            have hne : ((x : Int) != (s : Int)) = true := by rw [bne_iff_ne]; omega
            have hws : G + 1 ≤ wr.heap.size := by omega
            clear hex hxs
            go_wp2_with (at_builtin; refine wpList_append_own _ rfl _ _ 28 rfl (G + 1) TI i1 (.int .i64 0) 1 8 Try.underlying28 ji jz0 jz1 jz2 rfl (by decide) _ _ _ rfl (HOWN.out.alloc _) ⟨wr.heap.size, 0, none⟩ 1 1 [.int .i64 (x : Int)] rfl rfl (newCell wr _ TI) (one_one _) (by unfold maxLen; omega) (by omega) (by simp; omega) ?_)
            intro v' w6 hown' hgrow hnil
            obtain ⟨g2, cap2, rfl⟩ := ownsRow_some hown' hnil
            have HR6 : Hid (RowN (G + 1) (out ++ [x]) (.slice (some ⟨g2, 0, none⟩) (out.length + 1) cap2) w6) := Lib.hid ⟨g2, cap2, by simp, by simpa [natV] using hown'⟩
            have HZ6 : Hid (ZsAt G G N d w6) := Lib.hid ((HZx.out.alloc _).kept hgrow (.inr (by simp [Value.ownBlock]; omega)))
            have hb6 : Below G w w6 := (hbx.alloc (by omega) _).grown hgrow (by simp; omega) (fun i hi => by have := (HOWN.out.lt i hi).1; omega)
            clear hown' hgrow hnil
            go_wp2
            go_loopw [12, 13] (fun nx i wy => ∃ (z : Int) (k : Nat), k ≤ N ∧ i = .int .i64 k ∧ nx = .int .i64 z ∧ Hid (NearSt N g0 d x z k) ∧ Hid (RowN (G + 1) (out ++ [x]) (.slice (some ⟨g2, 0, none⟩) (out.length + 1) cap2) wy) ∧ Hid (ZsAt G G N d wy) ∧ Below G w wy) (fun _ i _ => N - (intOf i).toNat)
            case atStart => exact ⟨-1, 0, Nat.zero_le _, rfl, rfl, Lib.hid (.inl ⟨rfl, fun j hj => absurd hj (by omega)⟩), HR6, HZ6, hb6⟩
            case round =>
              obtain ⟨z, k, hk, rfl, rfl, HN, HRy, HZy, hby⟩ := hrel
              by_cases hz : z < 0
              · have hnn : z = -1 ∧ ∀ j, j < k → nearB g0 d x j = false := by
                  rcases HN.out with h | ⟨j, h, _⟩
                  · exact h
                  · omega
                obtain ⟨rfl, hbef⟩ := hnn
                by_cases hkN : k < N
                · obtain ⟨c, hc⟩ : ∃ c, d[k]? = some c := ⟨_, List.getElem?_eq_getElem (by have := HINV.out.len; omega)⟩
                  have t1 := HZy.out.cell hkN hc
                  have t2 := HZy.out.cell hxN HB.out
                  obtain ⟨h, hh⟩ : ∃ h, g0.contains (x, k) = h := ⟨_, rfl⟩
                  have hnb := nearB_at (g := g0) HB.out hc
                  rw [hh] at hnb
                  have HC : Hid (∀ q', Calls Try.prog 64 #[.slice ad es.length cap, .int .i64 (x : Int), .int .i64 (k : Int)] (wr.drewN q') fun e w' => e = .returned (.bool h) ∧ w' = wr.drewN q') := Lib.hid (fun q' => by
                    have := has_any G ad cap es (x : Int) (k : Int) (wr.drewN q') ((HE.out.below hby).below (below_drewN' (Below.refl _ _))) (by omega)
                    rwa [HHAS.out, hh] at this)
                  have k1 : (k : Int) < (N : Int) := by omega
                  have x1 : (x : Int) < (N : Int) := by omega
                  have w1' : IntKind.i64.wrap (b - 1) = b - 1 := IntWalk.i64_in _ (by omega)
                  have HBF := Lib.hid hbef
                  clear hbef hc hz
                  cases h
                  · have hnf : nearB g0 d x k = false := by rw [hnb]; rfl
                    have HNS : Hid (NearSt N g0 d x (-1) (k + 1)) := Lib.hid (.inl ⟨rfl, fun j hj => by
                      by_cases e : j = k
                      · rw [e]; exact hnf
                      · exact HBF.out j (by omega)⟩)
                    clear hnb hh hnf
                    go_wp2_with fail
                    go_quiet ((go_at_call 64; exact Calls.quiet_of_same (HC.out _)))
                    go_wp2
                    go_roundw
                    case rel => exact ⟨-1, k + 1, by omega, by go_num, rfl, HNS, Lib.hid (row_drewN HRy.out), Lib.hid (zs_drewN HZy.out), below_drewN' hby⟩
                    case measure => simp [intOf]; omega
                  · by_cases hcb : c = b - 1
                    · have hnt : nearB g0 d x k = true := by rw [hnb, hcb]; simp
                      have HNS : Hid (NearSt N g0 d x (k : Int) (k + 1)) := Lib.hid (.inr ⟨k, rfl, nearF_some hkN hnt HBF.out⟩)
                      have hcb2 : (c == b - 1) = true := by rw [beq_iff_eq]; exact hcb
                      clear hnb hh hnt hcb
                      go_wp2_with fail
                      go_quiet ((go_at_call 64; exact Calls.quiet_of_same (HC.out _)))
                      go_wp2
                      go_roundw
                      case rel => exact ⟨k, k + 1, by omega, by go_num, rfl, HNS, Lib.hid (row_drewN HRy.out), Lib.hid (zs_drewN HZy.out), below_drewN' hby⟩
                      case measure => simp [intOf]; omega
                    · have hcb2 : (c == b - 1) = false := by rw [beq_eq_false_iff_ne]; exact hcb
                      have hnf : nearB g0 d x k = false := by rw [hnb, hcb2]; rfl
                      have HNS : Hid (NearSt N g0 d x (-1) (k + 1)) := Lib.hid (.inl ⟨rfl, fun j hj => by
                        by_cases e : j = k
                        · rw [e]; exact hnf
                        · exact HBF.out j (by omega)⟩)
                      clear hnb hh hnf hcb
                      go_wp2_with fail
                      go_quiet ((go_at_call 64; exact Calls.quiet_of_same (HC.out _)))
                      go_wp2
                      go_roundw
                      case rel => exact ⟨-1, k + 1, by omega, by go_num, rfl, HNS, Lib.hid (row_drewN HRy.out), Lib.hid (zs_drewN HZy.out), below_drewN' hby⟩
                      case measure => simp [intOf]; omega
                · exfalso
                  obtain ⟨y, hy, hyt⟩ := HEX.out
                  rw [hbef y (by omega)] at hyt
                  cases hyt
              · have hnn : ∃ j : Nat, z = (j : Int) ∧ nearF N g0 d x = some j := by
                  rcases HN.out with ⟨h, _⟩ | h
                  · omega
                  · exact h
                obtain ⟨j', rfl, hnf⟩ := hnn
                obtain ⟨hjN', hnt⟩ := nearF_spec hnf
                obtain ⟨c, hc⟩ : ∃ c, d[j']? = some c := ⟨_, List.getElem?_eq_getElem (by have := HINV.out.len; omega)⟩
                rw [nearB_at HB.out hc] at hnt
                simp only [Bool.and_eq_true, beq_iff_eq] at hnt
                obtain ⟨_, rfl⟩ := hnt
                have HW2 : Hid ((out ++ [x]) ++ walkF N g0 d s (b - 1).toNat j' = R) := Lib.hid (by rw [← HW.out, walkF_step hbp hnf]; simp)
                have HCC := Lib.hid hc
                have hl2 : (out ++ [x]).length + (b - 1).toNat ≤ N + 1 := by simp; omega
                have HL2 := Lib.hid hl2
                have HMM : Hid ((b - 1).toNat < b.toNat) := Lib.hid (by omega)
                have hb1 : 0 ≤ b - 1 := by omega
                clear hnf hc hl2
                by_cases hkN : k < N
                · go_wp2
                  go_roundg ((b - 1).toNat)
                  case measure => exact HMM.out
                  case rel => exact ⟨j', b - 1, out ++ [x], hjN', rfl, rfl, hb1, HL2.out, HCC, HW2, HRy.out, HZy, hby⟩
                · go_wp2
                  go_roundg ((b - 1).toNat)
                  case measure => exact HMM.out
                  case rel => exact ⟨j', b - 1, out ++ [x], hjN', rfl, rfl, hb1, HL2.out, HCC, HW2, HRy.out, HZy, hby⟩

end Go.Proofs.Ytcggmonnajggcaa
