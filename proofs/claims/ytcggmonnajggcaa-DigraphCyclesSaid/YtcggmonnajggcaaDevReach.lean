/-
  What the program's Reach of digraph returns.
-/
import Derived.Test.YtcggmonnajggcaaDevNodes
namespace Go.Proofs.Ytcggmonnajggcaa
open Go.RowKit

theorem marked_sel {m : List Bool} {p : Nat → Bool} (h : ∀ j : Nat, j < m.length → m[j]? = some (p j)) : ∀ k, k ≤ m.length → markedL (m.take k) = selN k p
  | 0, _ => rfl
  | k + 1, hk => by
    have h1 := h k (by omega)
    rw [List.take_add_one, h1]
    show markedL (m.take k ++ [p k]) = _
    rw [markedL_snoc, marked_sel h k (by omega)]
    rw [show (m.take k).length = k by simp; omega]
    cases hp : p k
    · rw [selN_no hp]; simp
    · rw [selN_yes hp]; simp
theorem marked_sel_all {m : List Bool} {p : Nat → Bool} (h : ∀ j : Nat, j < m.length → m[j]? = some (p j)) : markedL m = selN m.length p := by
  rw [← marked_sel h m.length (Nat.le_refl _), List.take_length]

/-- The condition of Reach. -/
noncomputable def reachP (g : List (Nat × Nat)) (s j : Nat) : Bool := (j == s) || clB g s j
theorem reachP_iff {g : List (Nat × Nat)} {s j : Nat} : reachP g s j = true ↔ Rch g s j := by
  unfold reachP
  simp only [Bool.or_eq_true, beq_iff_eq, clB_iff]
  constructor
  · rintro (rfl | h)
    · exact .refl
    · exact h.rch
  · intro h
    rcases h.cases1 with rfl | h
    · exact .inl rfl
    · exact .inr h
theorem reach_sel (N : Nat) (g : List (Nat × Nat)) (s : Nat) : markedL (reachB N g s) = selN N (reachP g s) := by
  have := marked_sel_all (m := reachB N g s) (p := reachP g s) (fun j hj => by
    rw [reachB_length] at hj
    rw [reachB_get hj]
    congr 1
    rw [Bool.eq_iff_iff, reachP_iff]
    simp)
  rwa [reachB_length] at this

set_option maxRecDepth 100000 in
theorem reachCond_any (s j G N Bf Ba C : Nat) (m : List Bool) (w : World) (hf : w.heap[Bf]? = some (.cells #[.int .i64 (s : Int)] 3 (0, 0))) (ha : w.heap[Ba]? = some (.cells #[.slice (some ⟨G, 0, none⟩) N N] 50 (0, 0))) (hM : MarksAt C G N m w) (b : Bool) (hb : m[j]? = some b) (hj : j < N) :
    Calls Try.prog 43 (#[.int .i64 (j : Int)] ++ #[.pointer (some ⟨Bf, 0, none⟩), .pointer (some ⟨Ba, 0, none⟩)]) w fun e w' => e = .returned (.bool ((j == s) || b)) ∧ ∃ q, w' = w.drewN q := by
  have c1 := box_cell hf
  have c2 := box_cell ha
  have c3 := hM.cell hj hb
  have j1 : (j : Int) < (N : Int) := by omega
  by_cases hjs : j = s
  · have e1 : ((j == s) || b) = true := by simp [hjs]
    have e2 : ((j : Int) == (s : Int)) = true := by rw [hjs]; simp
    rw [e1]
    clear e1 hjs hf ha hM hb
    go_enter Try.func43, Try.ntmps43
    go_wp2
    go_ret
    exact ⟨rfl, 0, rfl⟩
  · have e1 : ((j == s) || b) = b := by simp [hjs]
    have e2 : ((j : Int) == (s : Int)) = false := by rw [beq_eq_false_iff_ne]; omega
    rw [e1]
    clear e1 hjs hf ha hM hb
    go_enter Try.func43, Try.ntmps43
    go_wp2
    go_ret
    exact ⟨rfl, 0, rfl⟩

theorem OwnN.known {B : Nat} {l : List Nat} {v : Value} {w : World} (h : OwnN B l v w) : Ints w v l := by
  by_cases hv : v = .slice none 0 0
  · have hl : l = [] := by
      rcases h.2 with ⟨_, e⟩ | ⟨g, cap, cur, e, _⟩
      · exact List.eq_nil_of_length_eq_zero e
      · rw [hv] at e; cases e
    subst hl
    exact ⟨none, 0, hv, fun j hj => by simp [intsOf] at hj, by simp [intsOf]⟩
  · obtain ⟨g, cap, rfl⟩ := ownsRow_some h hv
    exact RowN.known (B := B) ⟨g, cap, rfl, h⟩

set_option maxRecDepth 100000 in
set_option maxHeartbeats 4000000 in
theorem devReach_ok (n₀ N u : Nat) (ad : Option Addr) (cap : Nat) (es : List (Int × Int)) (w : World) (hE : EdgesA n₀ w ad es) (hn₀ : n₀ ≤ w.heap.size) (hc : chkE (N : Int) es = 0) (hl : es.length ≤ 2000) (hcap : es.length ≤ cap) (hok : OkE N es) (hs : SrtN (gN es)) (hN : N ≤ 200) (hu : u < N) :
    Calls Try.prog 16 #[.int .i64 (N : Int), .slice ad es.length cap, .int .i64 (u : Int)] w fun e w' => ∃ v, e = .returned v ∧ OwnN w.heap.size (selN N (reachP (gN es) u)) v w' ∧ Below w.heap.size w w' := by
  have hb0 : Below w.heap.size w (w.alloc (.cells #[.int .i64 (u : Int)] 3)) := (Below.refl _ w).alloc (Nat.le_refl _) _
  have hck := devCheck_any (N : Int) ad cap es (w.alloc (.cells #[.int .i64 (u : Int)] 3)) (((hE.mono hn₀).below hb0).mono hb0.size) (by omega)
  rw [hc] at hck
  have HCK := Lib.hid hck
  have HE := Lib.hid hE
  have HOK := Lib.hid hok
  have HS := Lib.hid hs
  have HB0 := Lib.hid hb0
  have HX0 : Hid ((w.alloc (.cells #[.int .i64 (u : Int)] 3)).heap[w.heap.size]? = some (.cells #[.int .i64 (u : Int)] 3 (0, 0))) := Lib.hid (World.alloc_heap_new w _)
  clear hE hc hck hok hs hb0
  have IN := Lib.hid (isNode_any (N : Int) (u : Int))
  rw [decide_eq_true (show 0 ≤ (u : Int) ∧ (u : Int) < (N : Int) by omega)] at IN
  go_enter Try.func16, Try.ntmps16
  go_wp2_with fail
  refine HCK.out.mono ?_
  rintro e w1 ⟨rfl, b1⟩
  have B1 : Hid (Below w.heap.size w w1) := Lib.hid (HB0.out.trans (b1.mono HB0.out.size))
  have X1 : Hid (w1.heap[w.heap.size]? = some (.cells #[.int .i64 (u : Int)] 3 (0, 0))) := Lib.hid ((b1.block _ (by simp)).trans HX0.out)
  have x1 := box_cell X1.out
  have HA := Lib.hid (ahead_any n₀ N u ad cap es w1 hl hcap HOK.out HS.out hN hu (HE.out.below (B1.out.mono hn₀)) (Nat.le_trans hn₀ B1.out.size))
  clear b1
  go_wp2_with fail
  refine (IN.out _).mono ?_
  rintro e w2 ⟨rfl, rfl⟩
  go_wp2_with fail
  refine HA.out.mono ?_
  rintro e w3 ⟨G, rfl, hm3, b3⟩
  have HX3 : Hid (w3.heap[w.heap.size]? = some (.cells #[.int .i64 (u : Int)] 3 (0, 0))) := Lib.hid ((b3.block _ (Array.getElem?_eq_some_iff.1 X1.out).1).trans X1.out)
  have HM3 := Lib.hid hm3
  have B3 : Hid (Below w.heap.size w w3) := Lib.hid (B1.out.trans (b3.mono B1.out.size))
  have B4 : Hid (Below w.heap.size w (w3.alloc (.cells #[.slice (some ⟨G, 0, none⟩) N N] 50))) := Lib.hid (B3.out.alloc B3.out.size _)
  have HC := Lib.hid (nodesWith_any N 43 #[.pointer (some ⟨w.heap.size, 0, none⟩), .pointer (some ⟨w3.heap.size, 0, none⟩)] (reachP (gN es) u) (w3.alloc (.cells #[.slice (some ⟨G, 0, none⟩) N N] 50)) hN (enters_of Try.func43 (by kernel_rfl) rfl) (fun j W hj hb => by
    have hx : W.heap[w.heap.size]? = some (.cells #[.int .i64 (u : Int)] 3 (0, 0)) := (hb.block _ (by have := (Array.getElem?_eq_some_iff.1 HX3.out).1; simp; omega)).trans ((Below.heap_alloc _ _ _ (Array.getElem?_eq_some_iff.1 HX3.out).1).trans HX3.out)
    have ha : W.heap[w3.heap.size]? = some (.cells #[.slice (some ⟨G, 0, none⟩) N N] 50 (0, 0)) := (hb.block _ (by simp)).trans (World.alloc_heap_new w3 _)
    have hm : MarksAt w1.heap.size G N (aheadB N (gN es) u) W := own_far (B0 := 0) (World.ownsRow.alloc HM3.out _) (grownOf hb) (fun r e => by cases e)
    exact reachCond_any u j G N _ _ _ _ W hx ha hm _ (aheadB_get hj) hj))
  clear hm3 b3
  go_wp2_with fail
  refine HC.out.mono ?_
  rintro e w5 ⟨v, rfl, ho, b5⟩
  have HO := Lib.hid ho
  have B5 : Hid (Below w.heap.size w w5) := Lib.hid (B4.out.trans (b5.mono B4.out.size))
  clear ho b5 HC
  go_wp2
  go_ret
  exact ⟨_, rfl, ownsRow_base B4.out.size HO.out, B5.out⟩
theorem devReach_any (n s : Int) (ad : Option Addr) (cap : Nat) (es : List (Int × Int)) (w : World) (hE : EdgesA w.heap.size w ad es) (hl : es.length ≤ 9223372036854775807) (hcap : es.length ≤ cap) :
    Calls Try.prog 16 #[.int .i64 n, .slice ad es.length cap, .int .i64 s] w fun e w' => ∃ v, e = .returned v ∧ OwnN w.heap.size (reachL n es s) v w' ∧ Below w.heap.size w w' := by
  by_cases hc : chkE n es = 0
  · obtain ⟨N, rfl, hN, hl2, hok⟩ := chk_ok hc
    by_cases hs : 0 ≤ s ∧ s < (N : Int)
    · obtain ⟨u, rfl⟩ := Int.eq_ofNat_of_zero_le hs.1
      have e : reachL (N : Int) es (u : Int) = selN N (reachP (gN es) u) := by
        unfold reachL
        rw [if_pos ⟨hc, hs.1, hs.2⟩, Int.toNat_natCast, Int.toNat_natCast, reach_sel]
      rw [e]
      exact devReach_ok w.heap.size N u ad cap es w hE (Nat.le_refl _) hc hl2 hcap hok (chk_srt hc) hN (by omega)
    · have e : reachL (N : Int) es s = [] := by
        unfold reachL
        rw [if_neg (fun h => hs h.2)]
      rw [e]
      have hb0 : Below w.heap.size w (w.alloc (.cells #[.int .i64 s] 3)) := (Below.refl _ w).alloc (Nat.le_refl _) _
      have hck := devCheck_any (N : Int) ad cap es (w.alloc (.cells #[.int .i64 s] 3)) ((hE.below hb0).mono hb0.size) hl
      rw [hc] at hck
      have HCK := Lib.hid hck
      have HB0 := Lib.hid hb0
      have HX0 : Hid ((w.alloc (.cells #[.int .i64 s] 3)).heap[w.heap.size]? = some (.cells #[.int .i64 s] 3 (0, 0))) := Lib.hid (World.alloc_heap_new w _)
      have IN := Lib.hid (isNode_any (N : Int) s)
      rw [decide_eq_false hs] at IN
      clear hE hc hck e hs hb0
      go_enter Try.func16, Try.ntmps16
      go_wp2_with fail
      refine HCK.out.mono ?_
      rintro e w1 ⟨rfl, b1⟩
      have B1 : Hid (Below w.heap.size w w1) := Lib.hid (HB0.out.trans (b1.mono HB0.out.size))
      have X1 : Hid (w1.heap[w.heap.size]? = some (.cells #[.int .i64 s] 3 (0, 0))) := Lib.hid ((b1.block _ (by simp)).trans HX0.out)
      have x1 := box_cell X1.out
      clear b1
      go_wp2_with fail
      refine (IN.out _).mono ?_
      rintro e w2 ⟨rfl, rfl⟩
      go_wp2
      go_ret
      exact ⟨_, rfl, OwnN.nil _ _, B1.out⟩
  · have e : reachL n es s = [] := by
      unfold reachL
      rw [if_neg (fun h => hc h.1)]
    rw [e]
    have hb0 : Below w.heap.size w (w.alloc (.cells #[.int .i64 s] 3)) := (Below.refl _ w).alloc (Nat.le_refl _) _
    have hck := devCheck_any n ad cap es (w.alloc (.cells #[.int .i64 s] 3)) ((hE.below hb0).mono hb0.size) hl
    have hcb : (chkE n es != 0) = true := by simpa using hc
    obtain ⟨c, hce⟩ : ∃ c, chkE n es = c := ⟨_, rfl⟩
    rw [hce] at hck hcb
    have HCK := Lib.hid hck
    have HB0 := Lib.hid hb0
    clear hE hc hck e hb0 hce
    go_enter Try.func16, Try.ntmps16
    go_wp2_with fail
    refine HCK.out.mono ?_
    rintro e w1 ⟨rfl, b1⟩
    have B1 : Hid (Below w.heap.size w w1) := Lib.hid (HB0.out.trans (b1.mono HB0.out.size))
    clear b1
    go_wp2
    go_ret
    exact ⟨_, rfl, OwnN.nil _ _, B1.out⟩

end Go.Proofs.Ytcggmonnajggcaa
