/-
  What the program's order of digraph returns.
-/
import Derived.Test.YtcggmonnajggcaaDevLoop
import Derived.Test.YtcggmonnajggcaaDevComp
import Derived.Test.YtcggmonnajggcaaKahnPlain
import Derived.Test.YtcggmonnajggcaaDistances
namespace Go.Proofs.Ytcggmonnajggcaa
open Go.RowKit Go.Shelf
attribute [local go_sem] Oper.semAt_some

/-- The index of the first 0. -/
def IdxR (N : Nat) (f : Nat → Int) (r : Int) : Prop := (∃ i : Nat, i < N ∧ r = (i : Int) ∧ f i = 0 ∧ ∀ j, j < i → f j ≠ 0) ∨ (r = -1 ∧ ∀ j, j < N → f j ≠ 0)
theorem IdxR.hit {N : Nat} {f : Nat → Int} {r : Int} {k : Nat} (h : IdxR N f r) (hk : k < N) (h0 : f k = 0) (hb : ∀ j, j < k → f j ≠ 0) : r = (k : Int) := by
  rcases h with ⟨i, h1, rfl, h2, h3⟩ | ⟨_, h1⟩
  · have : ¬ i < k := fun hlt => hb i hlt h2
    have : ¬ k < i := fun hlt => h3 k hlt h0
    omega
  · exact absurd h0 (h1 k hk)
theorem IdxR.miss {N : Nat} {f : Nat → Int} {r : Int} (h : IdxR N f r) (hb : ∀ j, j < N → f j ≠ 0) : r = -1 := by
  rcases h with ⟨i, h1, rfl, h2, h3⟩ | ⟨h0, _⟩
  · exact absurd h2 (hb i h1)
  · exact h0

set_option maxRecDepth 100000 in
theorem index_any (B G N : Nat) (f : Nat → Int) (r : Int) (w : World) (hZ : ZsAt B G N (tabN N f) w) (hN : N ≤ 200) (hr : IdxR N f r) :
    Calls Try.prog 54 #[.slice (some ⟨G, 0, none⟩) N N, .int .i64 0] w fun e w' => e = .returned (.int .i64 r) ∧ w = w' := by
  have HZ := Lib.hid hZ
  have HR := Lib.hid hr
  clear hZ hr
  go_enter Try.func54, Try.ntmps54
  go_wp2
  go_loop [8] (fun i => ∃ k : Nat, k ≤ N ∧ i = .int .i64 k ∧ Hid (∀ j, j < k → f j ≠ 0)) (fun i => N - (intOf i).toNat)
  case atStart => exact ⟨0, Nat.zero_le _, rfl, Lib.hid (fun j hj => absurd hj (by omega))⟩
  case round =>
    obtain ⟨k, hk, rfl, HB⟩ := hrel
    by_cases hlt : k < N
    · have c1 := HZ.out.cell hlt (tabN_get f hlt)
      have k1 : (k : Int) < (N : Int) := by omega
      obtain ⟨z, hz⟩ : ∃ z, f k = z := ⟨_, rfl⟩
      rw [hz] at c1
      by_cases h0 : z = 0
      · have HE : Hid (r = (k : Int)) := Lib.hid (HR.out.hit hlt (by rw [hz]; exact h0) HB.out)
        have e1 : ((0 : Int) == z) = true := by rw [h0]; rfl
        clear hz h0
        go_wp2
        go_ret
        rw [HE.out]
        exact ⟨rfl, rfl⟩
      · have HN : Hid (∀ j, j < k + 1 → f j ≠ 0) := Lib.hid (fun j hj => by
          by_cases e : j = k
          · subst e; rw [hz]; exact h0
          · exact HB.out j (by omega))
        have e1 : ((0 : Int) == z) = false := by rw [beq_eq_false_iff_ne]; exact fun e => h0 e.symm
        clear hz h0
        go_wp2
        go_round
        case rel => exact ⟨k + 1, by omega, by go_num, HN⟩
        case measure => simp [intOf]; omega
    · have HE : Hid (r = -1) := Lib.hid (HR.out.miss (fun j hj => HB.out j (by omega)))
      go_wp2
      go_ret
      rw [HE.out]
      exact ⟨rfl, rfl⟩

/-- make([]int, N). -/
theorem make_zs (B N : Nat) (w : World) (hN : N ≤ 200) (hB : B ≤ w.heap.size) : ∃ w1, (Instr.makeSlice 28 (.int .i64 (N : Int)) (.int .i64 (N : Int))).run Try.prog w = .ok (.slice (some ⟨w.heap.size, 0, none⟩) N N) w1 ∧ ZsAt B w.heap.size N (tabN N (fun _ => 0)) w1 ∧ w.grownBy w1 none := by
  obtain ⟨i1, ji, jz0, jz1, jz2⟩ := info_parts infoI
  obtain ⟨w1, hrun, ho1, hg1⟩ := run_make_full (P := Try.prog) w B 28 TI i1 (.int .i64 0) 1 Try.underlying28 ji jz0 jz1 .i64 .i64 N (by rw [jz2]; omega) (by unfold maxLen; omega) hB
  rw [Nat.mul_one] at ho1
  rw [show (Value.int .i64 0).cells = #[Value.int .i64 0] from rfl, madeZ, tabN_zero] at ho1
  exact ⟨w1, hrun, ho1, hg1⟩

theorem own_below {w w' : World} {B T n c g m s : Nat} {xs : List Value} (h : w.ownsRow B T s (.slice (some ⟨g, 0, none⟩) n c) n xs) (hb : Below m w w') (hg : g < m) : w'.ownsRow B T s (.slice (some ⟨g, 0, none⟩) n c) n xs := by
  obtain ⟨h1, h2⟩ := h
  refine ⟨h1, ?_⟩
  rcases h2 with ⟨e, _⟩ | ⟨g', cap, cur, e, hB, hgg, r⟩
  · cases e
  · cases e
    exact .inr ⟨g, c, cur, rfl, hB, (hb.block g hg).trans hgg, r⟩
/-- What holds at the head of the loop. -/
structure OrdI (N G B3 : Nat) (ad : Option Addr) (len cap : Nat) (g : List (Nat × Nat)) (R : Option (List Nat)) (w : World) (k : Nat) (out : List Nat) (v : Value) (ds : List Deferred) (W : World) : Prop where
  num : k = N - out.length
  st : OrdSt N g out
  ord : orderFrom N g out = R
  defs : DefsOk w.heap.size ds W
  own : OwnN (B3 + 1) out v W
  gbox : W.heap[w.heap.size]? = some (.cells #[.int .i64 (N : Int), .slice ad len cap] 52 (0, 0))
  box : W.heap[B3]? = some (.cells #[.slice (some ⟨G, 0, none⟩) N N] 28 (0, 0))
  zs : ZsAt w.heap.size G N (tabN N (missV g out)) W
  below : Below w.heap.size w W

set_option maxRecDepth 100000 in
set_option maxHeartbeats 8000000 in
theorem devOrder_walk (n₀ N : Nat) (ad : Option Addr) (cap : Nat) (es : List (Int × Int)) (w : World) (hl : es.length ≤ 2000) (hcap : es.length ≤ cap) (hok : OkE N es) (hs : SrtN (gN es)) (hN : N ≤ 200) (hE : EdgesA n₀ w ad es) (hn₀ : n₀ ≤ w.heap.size) (R : Option (List Nat)) (hR : orderFrom N (gN es) [] = R) :
    Calls Try.prog 49 #[gV N ad es.length cap] w fun e w' => ∃ (v : Value) (out : List Nat), e = .returned v ∧ OwnN w.heap.size out v w' ∧ ((out.length < N ∧ R = none) ∨ (¬ out.length < N ∧ R = some out)) ∧ Below w.heap.size w w' := by
  obtain ⟨i1, ji, jz0, jz1, jz2⟩ := info_parts infoI
  have HE := Lib.hid hE
  have HOK := Lib.hid hok
  have HS := Lib.hid hs
  have HR := Lib.hid hR
  clear hE hok hs hR
  obtain ⟨w0, hw0⟩ : ∃ w0, w.alloc (.cells #[.int .i64 (N : Int), .slice ad es.length cap] 52) = w0 := ⟨_, rfl⟩
  have s0 : w0.heap.size = w.heap.size + 1 := by rw [← hw0]; simp
  have b0 : Below w.heap.size w w0 := by rw [← hw0]; exact (Below.refl _ w).alloc (Nat.le_refl _) _
  have g0 : w0.heap[w.heap.size]? = some (.cells #[.int .i64 (N : Int), .slice ad es.length cap] 52 (0, 0)) := by rw [← hw0]; exact World.alloc_heap_new w _
  obtain ⟨w1, hrun, hz1, hg1⟩ := make_zs w.heap.size N w0 hN (by omega)
  rw [s0] at hrun hz1
  have b1 : Below w.heap.size w w1 := b0.grown hg1 (by omega) (fun k e => by cases e)
  have g1 : w1.heap[w.heap.size]? = some (.cells #[.int .i64 (N : Int), .slice ad es.length cap] 52 (0, 0)) := (hg1.block _ (by omega) (by simp)).trans g0
  have lt1 : w.heap.size + 1 < w1.heap.size := (World.ownsRow.lt hz1 _ rfl).2
  obtain ⟨G, hG⟩ : ∃ G, w.heap.size + 1 = G := ⟨_, rfl⟩
  rw [hG] at hz1 lt1 hrun
  have HG := Lib.hid hG
  obtain ⟨gc0, gc1⟩ := box2_cell g0
  have g2 : (w1.alloc (.cells #[.slice (some ⟨G, 0, none⟩) N N] 28)).heap[w.heap.size]? = some (.cells #[.int .i64 (N : Int), .slice ad es.length cap] 52 (0, 0)) := (Below.heap_alloc _ _ _ (by omega)).trans g1
  obtain ⟨gd0, gd1⟩ := box2_cell g2
  have HG2 := Lib.hid g2
  have HX2 : Hid ((w1.alloc (.cells #[.slice (some ⟨G, 0, none⟩) N N] 28)).heap[w1.heap.size]? = some (.cells #[.slice (some ⟨G, 0, none⟩) N N] 28 (0, 0))) := Lib.hid (World.alloc_heap_new w1 _)
  have HZ2 : Hid (ZsAt w.heap.size G N (tabN N (inK (gN es) 0)) (w1.alloc (.cells #[.slice (some ⟨G, 0, none⟩) N N] 28))) := Lib.hid (by
    rw [tabN_ext (g := fun _ => 0) (fun j _ => inK_zero (gN es) j)]
    exact World.ownsRow.alloc hz1 _)
  have HB2 : Hid (Below w.heap.size w (w1.alloc (.cells #[.slice (some ⟨G, 0, none⟩) N N] 28))) := Lib.hid (b1.alloc (by omega) _)
  have HS2 : Hid ((w1.alloc (.cells #[.slice (some ⟨G, 0, none⟩) N N] 28)).heap.size = w1.heap.size + 1) := Lib.hid (by simp)
  clear hg1 hz1 b1 g1 g2 hG b0 g0
  refine (callsIn_wide (n := 9)).1 ?_
  refine callsIn_of_wp_marks Try.func49 rfl trivial ?_ rfl
  simp only [Try.ntmps49, List.size_toArray, List.length_cons, List.length_nil, Nat.reduceAdd, Nat.reduceSub, Array.replicate_succ, Array.replicate_zero, List.push_toArray, List.append_toArray, List.nil_append, List.cons_append]
  gi_wp2_with fail
  clear hrun hw0 s0 gc0 gc1 gd0 gd1
  obtain ⟨w2, hw2⟩ : ∃ w2, w1.alloc (.cells #[.slice (some ⟨G, 0, none⟩) N N] 28) = w2 := ⟨_, rfl⟩
  rw [hw2] at HG2 HX2 HZ2 HB2 HS2 ⊢
  obtain ⟨B3, hB3⟩ : ∃ B3, w1.heap.size = B3 := ⟨_, rfl⟩
  rw [hB3] at HX2 HS2 lt1 ⊢
  clear hw2 hB3
  gi_loopw [15] (fun i wr => ∃ q : Nat, q ≤ es.length ∧ i = .int .i64 q ∧ Hid (wr.heap[w.heap.size]? = some (.cells #[.int .i64 (N : Int), .slice ad es.length cap] 52 (0, 0))) ∧ Hid (wr.heap[B3]? = some (.cells #[.slice (some ⟨G, 0, none⟩) N N] 28 (0, 0))) ∧ Hid (ZsAt w.heap.size G N (tabN N (inK (gN es) q)) wr) ∧ Hid (Below w.heap.size w wr)) (fun i _ => es.length - (intOf i).toNat)
  case atStart => exact ⟨0, Nat.zero_le _, rfl, HG2, HX2, HZ2, HB2⟩
  case round =>
    obtain ⟨q, hq, rfl, HG2, HX2, HZ2, HB2⟩ := hrel
    have hg := HG.out
    by_cases hlt : q < es.length
    · obtain ⟨bo, off, rfl, hbb, hcc⟩ := (HE.out.below (HB2.out.mono hn₀)).some_ (by omega)
      obtain ⟨d1, d2⟩ := hcc q hlt
      obtain ⟨a, v, he, ha, hv, hge⟩ := HOK.out.at_ hlt
      rw [he] at d1 d2
      simp only [] at d1 d2
      have q1 : (q : Int) < (es.length : Int) := by omega
      have v1 : (v : Int) < (N : Int) := by omega
      obtain ⟨z, hz⟩ : ∃ z, inK (gN es) q v = z := ⟨_, rfl⟩
      have hzb := inK_bound (gN es) q v
      rw [gN_length, hz] at hzb
      obtain ⟨z1, z2⟩ := hzb
      have HZa : Hid (ZsAt w.heap.size G N (tabN N (inK (gN es) q)) (wr.alloc (.cells #[.int .i64 (a : Int), .int .i64 (v : Int)] 40))) := Lib.hid (World.ownsRow.alloc HZ2.out _)
      have HXa : Hid ((wr.alloc (.cells #[.int .i64 (a : Int), .int .i64 (v : Int)] 40)).heap[B3]? = some (.cells #[.slice (some ⟨G, 0, none⟩) N N] 28 (0, 0))) := Lib.hid ((Below.heap_alloc _ _ _ (Array.getElem?_eq_some_iff.1 HX2.out).1).trans HX2.out)
      have c3 := box_cell HXa.out
      have c4 := HZa.out.cell hv (tabN_get _ hv)
      rw [hz] at c4
      have c5 := HZa.out.free v
      have HZn : Hid (ZsAt w.heap.size G N (tabN N (inK (gN es) (q + 1))) ((wr.alloc (.cells #[.int .i64 (a : Int), .int .i64 (v : Int)] 40)).setCell ⟨G, v, none⟩ (.int .i64 (z + 1)))) := Lib.hid (by
        have h := HZa.out.store v (z + 1)
        rw [tabN_set (g := inK (gN es) (q + 1)) (by rw [inK_succ hge, if_pos rfl, hz]) (fun j hj => by rw [inK_succ hge, if_neg (Ne.symm hj), Int.add_zero])] at h
        exact h)
      have HXn : Hid (((wr.alloc (.cells #[.int .i64 (a : Int), .int .i64 (v : Int)] 40)).setCell ⟨G, v, none⟩ (.int .i64 (z + 1))).heap[B3]? = some (.cells #[.slice (some ⟨G, 0, none⟩) N N] 28 (0, 0))) := Lib.hid ((Below.heap_setCell _ _ _ _ (by simp; omega)).trans HXa.out)
      have HGn : Hid (((wr.alloc (.cells #[.int .i64 (a : Int), .int .i64 (v : Int)] 40)).setCell ⟨G, v, none⟩ (.int .i64 (z + 1))).heap[w.heap.size]? = some (.cells #[.int .i64 (N : Int), .slice (some ⟨bo, off, none⟩) es.length cap] 52 (0, 0))) := Lib.hid ((Below.heap_setCell _ _ _ _ (by simp; omega)).trans ((Below.heap_alloc _ _ _ (Array.getElem?_eq_some_iff.1 HG2.out).1).trans HG2.out))
      have HBn : Hid (Below w.heap.size w ((wr.alloc (.cells #[.int .i64 (a : Int), .int .i64 (v : Int)] 40)).setCell ⟨G, v, none⟩ (.int .i64 (z + 1)))) := Lib.hid ((HB2.out.alloc HB2.out.size _).setCell (by simp; omega) _)
      clear hcc he hge hz hg
      gi_wp2
      go_roundw
      case rel => exact ⟨q + 1, by omega, by go_num, HGn, HXn, HZn, HBn⟩
      case measure => simp [intOf]; omega
    · have HZ3 : Hid (ZsAt w.heap.size G N (tabN N (missV (gN es) [])) wr) := Lib.hid (by
        have h : q = es.length := by omega
        rw [tabN_ext (g := inK (gN es) q) (fun j _ => by rw [missV_nil, gN_length, h])]
        exact HZ2.out)
      clear hg
      gi_wp2_with fail
      refine wpIn_loop_ghost (fun k a' W => ∃ (out : List Nat) (v : Value) (ds : List Deferred) (x7 x8 x27 x28 x29 x30 x31 x32 x33 x34 x35 x36 x37 x38 x39 x40 x41 x42 x43 x44 x45 x46 x47 x48 : Value), a' = { tmps := #[gV N ad es.length cap, .pointer (some ⟨w.heap.size, 0, none⟩), .slice none 0 0, .pointer (some ⟨B3, 0, none⟩), undef, u5, v, x7, x8, .pointer (some ⟨w.heap.size, 0, none⟩), .int .i64 (N : Int), .slice (some ⟨G, 0, none⟩) N N, .pointer (some ⟨w.heap.size, 1, none⟩), .slice ad es.length cap, .int .i64 (es.length : Int), .int .i64 (q : Int), .bool false, u17, u18, u19, u20, u21, u22, u23, u24, u25, u26, x27, x28, x29, x30, x31, x32, x33, x34, x35, x36, x37, x38, x39, x40, x41, x42, x43, x44, x45, x46, x47, x48], defers := ds } ∧ OrdI N G B3 ad es.length cap (gN es) R w k out v ds W) N ?start ?round
      case start =>
        refine ⟨[], .slice none 0 0, [], _, _, _, _, _, _, _, _, _, _, _, _, _, _, _, _, _, _, _, _, _, _, _, _, rfl, ?_⟩
        exact { num := by simp, st := OrdSt.nil _ _, ord := HR.out, defs := DefsOk.nil _ _, own := OwnN.nil _ _, gbox := HG2.out, box := HX2.out, zs := HZ3.out, below := HB2.out }
      case round =>
        rintro k a' W ⟨out, v, ds, x7, x8, x27, x28, x29, x30, x31, x32, x33, x34, x35, x36, x37, x38, x39, x40, x41, x42, x43, x44, x45, x46, x47, x48, rfl, hI⟩ K hK
        dsimp only
        have HI := Lib.hid hI
        have HK := Lib.hid hK
        clear hI hK
        have c1 := box_cell HI.out.box
        have hll := HI.out.st.length_le
        rcases idx_next N (gN es) out with ⟨i, hiN, hnx, hi0, hib⟩ | ⟨hnx, hib⟩
        · have HIX := Lib.hid (index_any w.heap.size G N _ (i : Int) W HI.out.zs hN (.inl ⟨i, hiN, rfl, hi0, hib⟩))
          have hfree := missV_free.1 hi0
          have HFR := Lib.hid hfree
          have HNX := Lib.hid hnx
          have i1' : (i : Int) < (N : Int) := by omega
          have i2' : (0 : Int) ≤ (i : Int) := by omega
          clear hi0 hib hfree hnx
          have HOWN : Hid (W.ownsRow (B3 + 1) TI 1 v out.length (natV out)) := Lib.hid HI.out.own
          have hsz : B3 + 1 ≤ W.heap.size := (Array.getElem?_eq_some_iff.1 HI.out.box).1
          have hlt2 := HI.out.st.length_lt hiN HFR.out
          gi_wp2_with fail
          refine ⟨trivial, ?_⟩
          refine (callsIn_wide.2 HIX.out).mono ?_
          rintro e w' ⟨rfl, rfl⟩
          gi_wp2_with (gi_at_builtin; refine wpListIn_append_own _ rfl _ _ 28 rfl (B3 + 1) TI i1 (.int .i64 0) 1 8 Try.underlying28 ji jz0 jz1 jz2 rfl (by decide) _ _ _ rfl (HOWN.out.alloc _) ⟨W.heap.size, 0, none⟩ 1 1 [.int .i64 (i : Int)] rfl rfl (newCell W _ TI) (one_one _) (by unfold maxLen; omega) (by omega) (by simp; omega) ?_)
          intro v' w3 hown' hgrow hnil
          have hb3 : Below (B3 + 1) W w3 := ((Below.refl _ W).alloc hsz _).grown hgrow (by simp; omega) (fun r e => (HOWN.out.lt r e).1)
          have HO3 : Hid (OwnN (B3 + 1) (out ++ [i]) v' w3) := Lib.hid (by unfold OwnN; simpa [natV] using hown')
          have HZ3 : Hid (ZsAt w.heap.size G N (tabN N (missV (gN es) out)) w3) := Lib.hid (own_below HI.out.zs hb3 (by omega))
          have HX3 : Hid (w3.heap[B3]? = some (.cells #[.slice (some ⟨G, 0, none⟩) N N] 28 (0, 0))) := Lib.hid ((hb3.block _ (by omega)).trans HI.out.box)
          have HG3 : Hid (w3.heap[w.heap.size]? = some (.cells #[.int .i64 (N : Int), .slice ad es.length cap] 52 (0, 0))) := Lib.hid ((hb3.block _ (by have := HG.out; omega)).trans HI.out.gbox)
          have HD3 : Hid (DefsOk w.heap.size ds w3) := Lib.hid (HI.out.defs.keep ((Keeps.grown (World.grownBy_alloc W _ none)).trans (Keeps.row hgrow (fun r e => by obtain ⟨c, hc⟩ := (rowTy_of HOWN.out).alloc (.cells #[.int .i64 (i : Int)] TI) r e; exact ⟨c, _, _, hc⟩))))
          have hbw3 : Below w.heap.size w w3 := HI.out.below.trans (hb3.mono (by have := HG.out; omega))
          have HBW3 := Lib.hid hbw3
          have d1 := box_cell HX3.out
          have d2 := HZ3.out.cell hiN (tabN_get _ hiN)
          have d3 := HZ3.out.free i
          have hst := World.ownsRow.stored HZ3.out i (.int .i64 (-1))
          have HZ4 : Hid (ZsAt w.heap.size G N (tabN N (missW (gN es) out i [])) (w3.setCell ⟨G, i, none⟩ (.int .i64 (-1)))) := Lib.hid (by
            have h := HZ3.out.store i (-1)
            rw [missW_start] at h
            exact h)
          have HX4 : Hid ((w3.setCell ⟨G, i, none⟩ (.int .i64 (-1))).heap[B3]? = some (.cells #[.slice (some ⟨G, 0, none⟩) N N] 28 (0, 0))) := Lib.hid ((Below.heap_setCell _ _ _ _ (by simp; omega)).trans HX3.out)
          have HG4 : Hid ((w3.setCell ⟨G, i, none⟩ (.int .i64 (-1))).heap[w.heap.size]? = some (.cells #[.int .i64 (N : Int), .slice ad es.length cap] 52 (0, 0))) := Lib.hid ((Below.heap_setCell _ _ _ _ (by have := HG.out; simp; omega)).trans HG3.out)
          have HO4 : Hid (OwnN (B3 + 1) (out ++ [i]) v' (w3.setCell ⟨G, i, none⟩ (.int .i64 (-1)))) := Lib.hid (World.ownsRow.kept HO3.out hst.2 (by
            by_cases hv : v'.ownBlock = none
            · exact .inl hv
            · right
              intro e
              have := (World.ownsRow.lt HO3.out G e).1
              omega))
          have HD4 : Hid (DefsOk w.heap.size ds (w3.setCell ⟨G, i, none⟩ (.int .i64 (-1)))) := Lib.hid (HD3.out.keep (Keeps.row hst.2 (fun r e => by cases e; obtain ⟨c, hc⟩ := own_type HZ3.out; exact ⟨c, _, _, hc⟩)))
          have HB4 : Hid (Below w.heap.size w (w3.setCell ⟨G, i, none⟩ (.int .i64 (-1)))) := Lib.hid (HBW3.out.setCell (by have := HG.out; simp; omega) _)
          obtain ⟨d4, d5⟩ := box2_cell HG4.out
          clear hown' hgrow hnil hb3 hbw3 hst
          gi_wp2_with (refine ⟨trivial, ?_⟩; gi_at_call 52; refine (callsIn_wide.2 (successors_any N i ad es.length cap _)).mono ?_; rintro e w' ⟨rfl, rfl⟩)
          obtain ⟨w4, hw4⟩ : ∃ w4, w3.setCell ⟨G, i, none⟩ (.int .i64 (-1)) = w4 := ⟨_, rfl⟩
          have s4 : w4.heap.size = w3.heap.size := by rw [← hw4]; simp [World.setCell]
          rw [hw4] at HZ4 HX4 HG4 HO4 HD4 HB4 ⊢
          clear hw4 d1 d2 d3 d4 d5 c1 HZ3 HX3 HG3 HO3 HD3 HBW3
          obtain ⟨w5, hw5, s5, gb, xb, gr⟩ := succ_boxes N i ad es.length cap w4
          rw [← hw5]
          rw [s4] at s5 gb xb
          clear hw5
          have hb5 : Below w4.heap.size w4 w5 := (Below.refl _ _).grown gr (Nat.le_refl _) (fun r e => by cases e)
          have hG4 : G < w4.heap.size := (World.ownsRow.lt HZ4.out G rfl).2
          have hn4 : n₀ ≤ w4.heap.size := Nat.le_trans hn₀ HB4.out.size
          have hgG := HG.out
          refine wpIn_rangeFunc_ownF (w0 := w5) rfl (by omega) (gf := 65) (lb := #[.pointer (some ⟨w3.heap.size, 0, none⟩), .pointer (some ⟨w3.heap.size + 1, 0, none⟩)]) rfl trivial (enters_of Try.func65 (by kernel_rfl) rfl)
            (succ_stops (9 - 1) (by omega) n₀ w3.heap.size (w3.heap.size + 1) N i ad cap es hl hcap HOK.out HS.out w5 gb xb ((HE.out.below (HB4.out.mono hn₀)).below (hb5.mono hn4)) (Nat.le_trans hn4 hb5.size))
            (fun h k => ⟨h.1.trans k.1, k.2.trans h.2⟩) (fun W l o o' hl h h1 h2 => ⟨belowK_b (w := w5) (by omega) W l o o' hl h h1 h2, World.putObj_heap_other (by omega)⟩) (Below.refl _ _) (fun _ => rfl)
            (fun pre W6 => ZsAt w.heap.size G N (tabN N (missW (gN es) out i (valsS pre))) W6 ∧ W6.heap[B3]? = some (.cells #[.slice (some ⟨G, 0, none⟩) N N] 28 (0, 0)) ∧ w5.grownBy W6 (some G))
            (fun _ _ _ => False)
            (fun s A A' row hs hg hr => ⟨own_far hs.1 hg hr, cells_far hs.2.1 hg hr, grown_far hs.2.2 hg hr⟩)
            (fun _ _ _ _ _ hs _ _ => hs)
            ⟨own_far (B0 := 0) HZ4.out gr (fun r e => by cases e), cells_far (B := 0) HX4.out gr (fun r e => by cases e), grown_weak (grownOf (Below.refl _ _)) _⟩
            (fun x => { tmps := #[gV N ad es.length cap, .pointer (some ⟨w.heap.size, 0, none⟩), .slice none 0 0, .pointer (some ⟨B3, 0, none⟩), undef, u5, v', .int .i64 (i : Int), .int .i64 (x.1 : Int), .pointer (some ⟨w.heap.size, 0, none⟩), .int .i64 (N : Int), .slice (some ⟨G, 0, none⟩) N N, .pointer (some ⟨w.heap.size, 1, none⟩), .slice ad es.length cap, .int .i64 (es.length : Int), .int .i64 (q : Int), .bool false, u17, u18, u19, u20, u21, u22, u23, u24, u25, u26, .slice (some ⟨G, 0, none⟩) N N, .int .i64 (i : Int), .int .i64 (i : Int), .bool (decide ((i : Int) < 0)), x31, v, .int .i64 (i : Int), .slice (some ⟨W.heap.size, 0, none⟩) 1 1, v', .slice (some ⟨G, 0, none⟩) N N, .int .i64 (i : Int), .pointer (some ⟨G, i, none⟩), gV N ad es.length cap, .int .i64 (i : Int), .func (.func 65) #[] #[.pointer (some ⟨w3.heap.size, 0, none⟩), .pointer (some ⟨w3.heap.size + 1, 0, none⟩)], .int .i64 (x.1 : Int), x43, x44, x45, x46, x47, x48], defers := [] }) ?assign ?body ?done ?stop
          case assign =>
            intro l x W K hK
            gi_wp2
            exact hK
          case body =>
            rintro l pre x W6 ⟨hz, hbx, hg⟩ hlen
            obtain ⟨y, hy, hmem⟩ := x
            have t1 := box_cell hbx
            have t2 := hz.cell hy (tabN_get _ hy)
            have t3 := hz.free y
            have hpl : (valsS pre).length ≤ 2000 := by rw [valsS_length]; omega
            have hbd := missW_bound (gN es) out i (valsS pre) y hpl (by rw [gN_length]; exact hl)
            have hzs := hz.store y (missW (gN es) out i (valsS pre) y - 1)
            rw [missW_step, ← valsS_snoc pre ⟨y, hy, hmem⟩] at hzs
            obtain ⟨z, hzz⟩ : ∃ z, missW (gN es) out i (valsS pre) y = z := ⟨_, rfl⟩
            rw [hzz] at t2 hbd hzs
            obtain ⟨z1, z2⟩ := hbd
            have y1 : (y : Int) < (N : Int) := by omega
            have hst := (World.ownsRow.stored hz y (.int .i64 (z - 1))).2
            have HZS := Lib.hid hzs
            have HST := Lib.hid hst
            have HGG := Lib.hid hg
            have HZ6 := Lib.hid hz
            have HBX := Lib.hid hbx
            clear hzs hst hg hz hbx hzz hpl
            gi_wp2
            have hszg := HGG.out.size
            exact ⟨grown_keeps HST.out HZ6.out, ⟨grown_below HST.out (by omega) (by omega), HST.out.block _ (by omega) (by simp; omega)⟩, HZS.out, (Below.heap_setCell _ _ _ _ (by simp; omega)).trans HBX.out, grown_trans HGG.out HST.out⟩
          case done =>
            rintro D xs W6 hD hx ⟨hz, hbx, hg⟩ hK6
            have hkp : Keeps w4 W6 := (Keeps.grown gr).trans (Keeps.row hg (fun r e => by
              cases e
              obtain ⟨c, hc⟩ := own_type HZ4.out
              exact ⟨c, _, _, (hb5.block _ hG4).trans hc⟩))
            have hbl : Below w.heap.size w4 W6 := (hb5.mono HB4.out.size).trans (grown_below hg (by omega) (Nat.le_trans HB4.out.size hb5.size))
            have hne : ∀ k, k < w4.heap.size → k ≠ G → W6.heap[k]? = w4.heap[k]? := fun k hk hkg => (hg.block k (Nat.lt_of_lt_of_le hk hb5.size) (by simpa using hkg)).trans (hb5.block k hk)
            have HN : Hid (OrdI N G B3 ad es.length cap (gN es) R w (N - (out ++ [i]).length) (out ++ [i]) v' ({ target := .collected D, args := #[] } :: ds) W6) := Lib.hid {
              num := rfl
              st := HI.out.st.snoc hiN HFR.out
              ord := by rw [← HI.out.ord]; exact (orderFrom_some hlt2 HNX.out).symm
              defs := HD4.out.cons hkp (Nat.le_trans hb5.size hD) (Nat.le_trans HB4.out.size (Nat.le_trans hb5.size hD)) hK6
              own := by
                obtain ⟨h1, h2⟩ := HO4.out
                refine ⟨h1, ?_⟩
                rcases h2 with h2 | ⟨g', cap', cur, e, hB, hgg, r⟩
                · exact .inl h2
                · exact .inr ⟨g', cap', cur, e, hB, (hne g' (Array.getElem?_eq_some_iff.1 hgg).1 (by omega)).trans hgg, r⟩
              gbox := (hne _ (Array.getElem?_eq_some_iff.1 HG4.out).1 (by omega)).trans HG4.out
              box := hbx
              zs := by rw [← missW_done HI.out.st.down HFR.out, ← hx]; exact hz
              below := HB4.out.trans hbl }
            have HLT : Hid (N - (out ++ [i]).length < k) := Lib.hid (by rw [HI.out.num]; simp; omega)
            clear hkp hbl hne hz hbx hg hK6
            gi_wp2
            exact HK.out _ _ _ HLT.out ⟨_, _, _, _, _, _, _, _, _, _, _, _, _, _, _, _, _, _, _, _, _, _, _, _, _, _, _, rfl, HN.out⟩
          case stop =>
            rintro D c pre W _ _ hf _
            exact hf.elim
        · have HIX := Lib.hid (index_any w.heap.size G N _ (-1) W HI.out.zs hN (.inr ⟨rfl, hib⟩))
          have HNX := Lib.hid hnx
          clear hib hnx
          gi_wp2_with (refine ⟨trivial, ?_⟩; gi_at_call 54; refine (callsIn_wide.2 HIX.out).mono ?_; rintro e w' ⟨rfl, rfl⟩)
          refine HI.out.defs.leaves (fun w' hs => ?_)
          refine ⟨_, results_tmp rfl _ _ _, v, out, rfl, ownsRow_base (by have := HI.out.below.size; have := HG.out; omega) (hs.own HI.out.own), ?_, HI.out.below.trans hs.below⟩
          by_cases hol : out.length < N
          · exact .inl ⟨hol, by rw [← HI.out.ord]; exact orderFrom_none hol HNX.out⟩
          · exact .inr ⟨hol, by rw [← HI.out.ord]; exact orderFrom_full hol⟩

/-- Numbers of the call's own, and an error. -/
def GivN (l : List Nat) (x : Int) (w : World) (e : Ending) (w' : World) : Prop := ∃ v, e = .returned (.tuple #[v, .int .i64 x]) ∧ OwnN w.heap.size l v w' ∧ Below w.heap.size w w'
set_option maxRecDepth 100000 in
set_option maxHeartbeats 4000000 in
theorem devOrder_any (n : Int) (ad : Option Addr) (cap : Nat) (es : List (Int × Int)) (w : World) (hE : EdgesA w.heap.size w ad es) (hl : es.length ≤ 9223372036854775807) (hcap : es.length ≤ cap) :
    Calls Try.prog 21 #[.int .i64 n, .slice ad es.length cap] w (GivN (ordL n es) (ordE n es) w) := by
  have hck := devCheck_any n ad cap es w hE hl
  by_cases hc : chkE n es = 0
  · obtain ⟨N, rfl, hN, hl2, hok⟩ := chk_ok hc
    rw [hc] at hck
    have HCK := Lib.hid hck
    have HE := Lib.hid hE
    have HOK := Lib.hid hok
    have HS := Lib.hid (chk_srt hc)
    have HO : ∀ R, orderFrom N (gN es) [] = R → ordL (N : Int) es = R.getD [] ∧ ordE (N : Int) es = errO R := by
      rintro R rfl
      unfold ordL ordE
      rw [if_pos hc, if_pos hc, Int.toNat_natCast]
      exact ⟨rfl, rfl⟩
    obtain ⟨R, hR⟩ : ∃ R, orderFrom N (gN es) [] = R := ⟨_, rfl⟩
    obtain ⟨e1, e2⟩ := HO R hR
    rw [e1, e2]
    have HR := Lib.hid hR
    clear hE hc hck hok HO hR e1 e2
    go_enter Try.func21, Try.ntmps21
    go_wp2_with fail
    refine HCK.out.mono ?_
    rintro e w1 ⟨rfl, b1⟩
    have HW := Lib.hid (devOrder_walk w.heap.size N ad cap es w1 hl2 hcap HOK.out HS.out hN (HE.out.below b1) b1.size R HR.out)
    have B1 := Lib.hid b1
    clear b1
    go_wp2_with fail
    refine HW.out.mono ?_
    rintro e w2 ⟨v, out, rfl, ho, hr, b2⟩
    have B2 := Lib.hid (B1.out.trans (b2.mono B1.out.size))
    have HO := Lib.hid (ownsRow_base B1.out.size ho)
    obtain ⟨a, c, rfl, _, _⟩ := own_slice ho
    clear ho b2
    rcases hr with ⟨h1, rfl⟩ | ⟨h1, rfl⟩
    · have d1 : decide ((out.length : Int) < (N : Int)) = true := by simp; omega
      go_wp2
      go_ret2
      exact ⟨_, rfl, OwnN.nil _ _, B2.out⟩
    · have d1 : decide ((out.length : Int) < (N : Int)) = false := by simp; omega
      go_wp2
      go_ret2
      exact ⟨_, rfl, HO.out, B2.out⟩
  · have hcb : (chkE n es != 0) = true := by simpa using hc
    have e1 : ordL n es = [] := by unfold ordL; rw [if_neg hc]
    have e2 : ordE n es = 1 := by unfold ordE; rw [if_neg hc]
    rw [e1, e2]
    obtain ⟨c, hce⟩ : ∃ c, chkE n es = c := ⟨_, rfl⟩
    rw [hce] at hck hcb
    have HCK := Lib.hid hck
    clear hE hc hck e1 e2 hce
    go_enter Try.func21, Try.ntmps21
    go_wp2_with fail
    refine HCK.out.mono ?_
    rintro e w1 ⟨rfl, b1⟩
    have B1 := Lib.hid b1
    clear b1
    go_wp2
    go_ret2
    exact ⟨_, rfl, OwnN.nil _ _, B1.out⟩

end Go.Proofs.Ytcggmonnajggcaa
