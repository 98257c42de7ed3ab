/-
  What the program's Closure of digraph returns.
-/
import Derived.Test.YtcggmonnajggcaaDevRows
import Derived.Test.YtcggmonnajggcaaDevComp
import Derived.Test.YtcggmonnajggcaaRefClosure
namespace Go.Proofs.Ytcggmonnajggcaa
open Go.RowKit

theorem rowTyS_of {w : World} {B n s : Nat} {T : TypeId} {v : Value} {xs : List Value} (h : w.ownsRow B T s v n xs) : RowTy T w v.ownBlock := by
  intro r e
  rcases h.2 with ⟨rfl, _⟩ | ⟨g, cap, cur, rfl, _, hg, _⟩
  · simp [Value.ownBlock] at e
  · simp [Value.ownBlock] at e
    subst e
    exact ⟨_, hg⟩
/-- Edges in a row of the call's own, or none. -/
def OwnE (B : Nat) (l : List (Nat × Nat)) (v : Value) (w : World) : Prop := w.ownsRow B TE 2 v l.length (edV l)
theorem OwnE.nil (B : Nat) (w : World) : OwnE B [] (.slice none 0 0) w := World.ownsRow_nil _ _ _ _
theorem own_sliceS {w : World} {B s : Nat} {T : TypeId} {v : Value} {n : Nat} {xs : List Value} (h : w.ownsRow B T s v n xs) : ∃ a c, v = .slice a n c ∧ n ≤ c ∧ c ≤ 9223372036854775807 := by
  rcases h.2 with ⟨rfl, e⟩ | ⟨g, cap, cur, rfl, _, _, h1, h2, _⟩
  · exact ⟨none, 0, by rw [e], by omega, by omega⟩
  · unfold maxLen at h2
    exact ⟨_, cap, rfl, h1, by omega⟩
theorem clCond_any (j G N Ba C : Nat) (m : List Bool) (w : World) (ha : w.heap[Ba]? = some (.cells #[.slice (some ⟨G, 0, none⟩) N N] 50 (0, 0))) (hM : MarksAt C G N m w) (b : Bool) (hb : m[j]? = some b) (hj : j < N) :
    Calls Try.prog 53 (#[.int .i64 (j : Int)] ++ #[.pointer (some ⟨Ba, 0, none⟩)]) w fun e w' => e = .returned (.bool b) ∧ ∃ q, w' = w.drewN q := by
  have c2 := box_cell ha
  have c3 := hM.cell hj hb
  have j1 : (j : Int) < (N : Int) := by omega
  clear ha hM hb
  go_enter Try.func53, Try.ntmps53
  go_wp2
  go_ret
  exact ⟨rfl, 0, rfl⟩
/-- The edges from node i to some of its nodes. -/
def toK (i : Nat) (l : List Nat) : List (Nat × Nat) := l.map fun p => (i, p)

theorem toK_snoc {i p j : Nat} {l : List Nat} (h : l[j]? = some p) : toK i (l.take (j + 1)) = toK i (l.take j) ++ [(i, p)] := by
  unfold toK
  rw [List.take_add_one, h]
  simp
set_option maxRecDepth 100000 in
set_option maxHeartbeats 8000000 in
theorem devClosure_ok (n₀ N : Nat) (ad : Option Addr) (cap : Nat) (es : List (Int × Int)) (w : World) (hE : EdgesA n₀ w ad es) (hn₀ : n₀ ≤ w.heap.size) (hc : chkE (N : Int) es = 0) (hl : es.length ≤ 2000) (hcap : es.length ≤ cap) (hok : OkE N es) (hs : SrtN (gN es)) (hN : N ≤ 200) (L : List (Nat × Nat)) (z : Int) (hL : CloR N (gN es) L z) :
    Calls Try.prog 27 #[.int .i64 (N : Int), .slice ad es.length cap] w fun e w' => ∃ v, e = .returned (.tuple #[v, .int .i64 z]) ∧ OwnE w.heap.size L v w' ∧ Below w.heap.size w w' := by
  obtain ⟨i3, ki, kz0, kz1, kz2⟩ := info_parts infoE
  have HL := Lib.hid hL
  have hck := devCheck_any (N : Int) ad cap es w (hE.mono hn₀) (by omega)
  rw [hc] at hck
  have HCK := Lib.hid hck
  have HE := Lib.hid hE
  have HOK := Lib.hid hok
  have HS := Lib.hid hs
  clear hE hc hck hok hs hL
  go_enter Try.func27, Try.ntmps27
  go_wp2_with fail
  refine HCK.out.mono ?_
  rintro e w1 ⟨rfl, b1⟩
  have HA := Lib.hid (eachAhead_any n₀ N ad cap es w1 hl hcap HOK.out HS.out hN (HE.out.below (b1.mono hn₀)) (Nat.le_trans hn₀ b1.size))
  have B1 := Lib.hid b1
  clear b1
  go_wp2_with fail
  refine HA.out.mono ?_
  rintro e w2 ⟨va, rfl, hr, b2⟩
  obtain ⟨aa, ca, rfl⟩ := hr.slice
  have B2 : Hid (Below w.heap.size w w2) := Lib.hid (B1.out.trans (b2.mono B1.out.size))
  have R2 := Lib.hid (hr.base B1.out.size)
  clear hr b2 HA
  go_wp2
  go_loopw [6, 22] (fun v i wr => ∃ k : Nat, k ≤ N ∧ i = .int .i64 k ∧ Hid (OwnE w.heap.size (closK N (gN es) k) v wr) ∧ Hid (RowsAt w.heap.size TBs TBool N (aheadV N (gN es)) N (.slice aa N ca) wr) ∧ Hid (Below w.heap.size w wr)) (fun _ i _ => N - (intOf i).toNat)
  case atStart => exact ⟨0, Nat.zero_le _, rfl, Lib.hid (OwnE.nil _ _), R2, B2⟩
  case round =>
    obtain ⟨k, hk, rfl, HO, HR, HB⟩ := hrel
    by_cases hlt : k < N
    · obtain ⟨g, c, Gk, e1, h1, m1⟩ := HR.out.row hlt
      injection e1 with e1 _ e3
      subst e1
      subst e3
      have k1 : (k : Int) < (N : Int) := by omega
      have HXa : Hid ((wr.alloc (.cells #[.slice (some ⟨Gk, 0, none⟩) N N] 50)).heap[wr.heap.size]? = some (.cells #[.slice (some ⟨Gk, 0, none⟩) N N] 50 (0, 0))) := Lib.hid (World.alloc_heap_new wr _)
      have hb4 : Below wr.heap.size wr (wr.alloc (.cells #[.slice (some ⟨Gk, 0, none⟩) N N] 50)) := (Below.refl _ wr).alloc (Nat.le_refl _) _
      have HB4 := Lib.hid hb4
      have HMk : Hid (MarksAt w.heap.size Gk N (aheadB N (gN es) k) wr) := Lib.hid m1
      have HNW := Lib.hid (nodesWith_any N 53 #[.pointer (some ⟨wr.heap.size, 0, none⟩)] (clB (gN es) k) (wr.alloc (.cells #[.slice (some ⟨Gk, 0, none⟩) N N] 50)) hN (enters_of Try.func53 (by kernel_rfl) rfl) (fun j W hj hb => by
        have ha : W.heap[wr.heap.size]? = some (.cells #[.slice (some ⟨Gk, 0, none⟩) N N] 50 (0, 0)) := (hb.block _ (by simp)).trans HXa.out
        have hm : MarksAt w.heap.size Gk N (aheadB N (gN es) k) W := own_far (B0 := 0) HMk.out (grownOf (HB4.out.trans (hb.mono (by simp)))) (fun r e => by cases e)
        exact clCond_any j Gk N _ _ _ W ha hm _ (aheadB_get hj) hj))
      clear m1 hb4
      go_wp2_with fail
      refine HNW.out.mono ?_
      rintro e w5 ⟨v5, rfl, ho5, b5⟩
      have b5' : Below wr.heap.size wr w5 := HB4.out.trans (b5.mono (by simp))
      obtain ⟨sel, hsel⟩ : ∃ sel, selN N (clB (gN es) k) = sel := ⟨_, rfl⟩
      rw [hsel] at ho5
      have hsl : sel.length ≤ N := by rw [← hsel]; exact selN_length _ _
      have HSEL := Lib.hid hsel
      have HO5 : Hid (OwnN w.heap.size sel v5 w5) := Lib.hid (ownsRow_base (by have := HB.out.size; simp; omega) ho5)
      obtain ⟨a5, c5, rfl, _, _⟩ := own_slice ho5
      have HOe : Hid (OwnE w.heap.size (closK N (gN es) k ++ toK k (sel.take 0)) u6 w5) := Lib.hid (by
        simp only [List.take_zero, toK, List.map_nil, List.append_nil]
        exact own_far (B0 := 0) HO.out (grownOf b5') (fun r e => by cases e))
      have HR5 := Lib.hid (HR.out.below b5')
      have HB5 : Hid (Below w.heap.size w w5) := Lib.hid (HB.out.trans (b5'.mono HB.out.size))
      clear ho5 b5 b5' HNW hsel h1
      go_wp2
      go_loopw [6, 31] (fun v i wx => ∃ j : Nat, j ≤ sel.length ∧ i = .int .i64 j ∧ Hid (OwnE w.heap.size (closK N (gN es) k ++ toK k (sel.take j)) v wx) ∧ Hid (OwnN w.heap.size sel (.slice a5 sel.length c5) wx) ∧ Hid (RowsAt w.heap.size TBs TBool N (aheadV N (gN es)) N (.slice (some ⟨g, 0, none⟩) N ca) wx) ∧ Hid (Below w.heap.size w wx)) (fun _ i _ => sel.length - (intOf i).toNat)
      case atStart => exact ⟨0, Nat.zero_le _, rfl, HOe, HO5, HR5, HB5⟩
      case round =>
        obtain ⟨j, hj, rfl, HOj, HSj, HRj, HBj⟩ := hrel
        by_cases hjl : j < sel.length
        · obtain ⟨p, hp⟩ : ∃ p, sel[j]? = some p := ⟨_, List.getElem?_eq_getElem hjl⟩
          have hv : (Value.slice a5 sel.length c5) ≠ .slice none 0 0 := by
            intro e
            injection e with _ e _
            omega
          obtain ⟨g5, cp5, e5⟩ := ownsRow_some HSj.out hv
          injection e5 with e5 _ e6
          subst e5
          subst e6
          have d1 : wr.cell? ⟨g5, j, none⟩ = some (.int .i64 (p : Int)) := by
            have h := HSj.out
            rw [World.ownsRow.cellAt h j (by omega), natV, List.getElem?_map, hp]
            rfl
          have j1 : (j : Int) < (sel.length : Int) := by omega
          have HT := Lib.hid (toK_snoc (i := k) hp)
          have hll : (closK N (gN es) k ++ toK k (sel.take j)).length ≤ 50000 := by
            have h1 := closK_length_le N (gN es) k
            have h2 : k * N ≤ 200 * 200 := Nat.mul_le_mul (by omega) hN
            simp only [List.length_append, toK, List.length_map, List.length_take]
            omega
          obtain ⟨l0, hl0⟩ : ∃ l0, closK N (gN es) k ++ toK k (sel.take j) = l0 := ⟨_, rfl⟩
          have HOWN : Hid (wr.ownsRow w.heap.size TE 2 u6 l0.length (edV l0)) := Lib.hid (by rw [← hl0]; exact HOj.out)
          rw [hl0] at hll
          have HL0 := Lib.hid hl0
          have hsz := HBj.out.size
          clear hp hl0 hv
          go_wp2_with (at_builtin; refine wpList_append_own _ rfl _ _ 22 rfl w.heap.size TE i3 (.agg #[.int .i64 0, .int .i64 0]) 2 16 Try.underlying22 ki kz0 kz1 kz2 rfl (by decide) _ _ _ rfl (HOWN.out.alloc _) ⟨wr.heap.size, 0, none⟩ 1 1 [.int .i64 (k : Int), .int .i64 (p : Int)] rfl rfl (newCell2 _ _ _ _) (two_one _ _) (by unfold maxLen; omega) (by omega) (by simp; omega) ?_)
          intro v' w6 hown' hgrow hnil
          have hty : RowTy TE (wr.alloc (.cells #[.int .i64 (k : Int), .int .i64 (p : Int)] TE)) u6.ownBlock := (rowTyS_of HOWN.out).alloc _
          have HO6 : Hid (OwnE w.heap.size (closK N (gN es) k ++ toK k (sel.take (j + 1))) v' w6) := Lib.hid (by
            rw [HT.out, ← List.append_assoc, HL0.out]
            unfold OwnE
            rw [edV_snoc, List.length_append]
            exact hown')
          have HS6 : Hid (OwnN w.heap.size sel (.slice (some ⟨g5, 0, none⟩) sel.length c5) w6) := Lib.hid (own_other (World.ownsRow.alloc HSj.out _) hgrow hty (by decide))
          have HR6 : Hid (RowsAt w.heap.size TBs TBool N (aheadV N (gN es)) N (.slice (some ⟨g, 0, none⟩) N ca) w6) := Lib.hid ((HRj.out.far (B0 := 0) (World.grownBy_alloc wr _ none) (fun r e => by cases e)).other hgrow hty (by decide) (by decide))
          have HB6 : Hid (Below w.heap.size w w6) := Lib.hid ((HBj.out.alloc hsz _).grown hgrow (by simp; omega) (fun i hi => (HOWN.out.lt i hi).1))
          clear hown' hgrow hnil hty
          go_wp2
          go_roundw
          case rel => exact ⟨j + 1, by omega, by go_num, HO6, HS6, HR6, HB6⟩
          case measure => simp [intOf]; omega
        · have HN : Hid (OwnE w.heap.size (closK N (gN es) (k + 1)) u6 wr) := Lib.hid (by
            have h := HOj.out
            rw [List.take_of_length_le (by omega), ← HSEL.out] at h
            rw [closK_succ]
            exact h)
          go_wp2
          go_roundw
          case rel => exact ⟨k + 1, by omega, by go_num, HN, HRj, HBj⟩
          case measure => simp [intOf]; omega
    · have HN : Hid (OwnE w.heap.size (closK N (gN es) N) u6 wr) := Lib.hid (by
        have h : k = N := by omega
        exact h ▸ HO.out)
      obtain ⟨a6, c6, rfl, _, _⟩ := own_sliceS HO.out
      have hkN : k = N := by omega
      subst hkN
      rcases HL.out with ⟨h1, rfl, rfl⟩ | ⟨h1, rfl, rfl⟩
      · have d1 : decide ((2000 : Int) < ((closK k (gN es) k).length : Int)) = false := by simp; omega
        go_wp2
        go_ret2
        exact ⟨_, rfl, HN.out, HB.out⟩
      · have d1 : decide ((2000 : Int) < ((closK k (gN es) k).length : Int)) = true := by simp; omega
        go_wp2
        go_ret2
        exact ⟨_, rfl, OwnE.nil _ _, HB.out⟩
theorem devClosure_any (n : Int) (ad : Option Addr) (cap : Nat) (es : List (Int × Int)) (w : World) (hE : EdgesA w.heap.size w ad es) (hl : es.length ≤ 9223372036854775807) (hcap : es.length ≤ cap) :
    Calls Try.prog 27 #[.int .i64 n, .slice ad es.length cap] w fun e w' => ∃ v, e = .returned (.tuple #[v, .int .i64 (cloE n es)]) ∧ OwnE w.heap.size (cloL n es) v w' ∧ Below w.heap.size w w' := by
  by_cases hc : chkE n es = 0
  · obtain ⟨N, rfl, hN, hl2, hok⟩ := chk_ok hc
    refine devClosure_ok w.heap.size N ad cap es w hE (Nat.le_refl _) hc hl2 hcap hok (chk_srt hc) hN _ _ ?_
    unfold cloL cloE CloR
    rw [if_pos hc, Int.toNat_natCast]
    by_cases h : 2000 < (closK N (gN es) N).length
    · rw [if_pos h]
      exact .inr ⟨h, rfl, rfl⟩
    · rw [if_neg h]
      exact .inl ⟨by omega, rfl, rfl⟩
  · have e2 : cloE n es = 1 := by unfold cloE; rw [if_neg hc]
    have e1 : cloL n es = [] := by unfold cloL; rw [e2]; rfl
    rw [e1, e2]
    have hck := devCheck_any n ad cap es w hE hl
    have hcb : (chkE n es != 0) = true := by simpa using hc
    obtain ⟨c, hce⟩ : ∃ c, chkE n es = c := ⟨_, rfl⟩
    rw [hce] at hck hcb
    have HCK := Lib.hid hck
    clear hE hc hck e1 e2 hce
    go_enter Try.func27, Try.ntmps27
    go_wp2_with fail
    refine HCK.out.mono ?_
    rintro e w1 ⟨rfl, b1⟩
    have B1 := Lib.hid b1
    clear b1
    go_wp2
    go_ret2
    exact ⟨_, rfl, OwnE.nil _ _, B1.out⟩

end Go.Proofs.Ytcggmonnajggcaa
