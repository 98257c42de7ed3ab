/-
  What the program's Ranks of digraph returns.
-/
import Derived.Test.YtcggmonnajggcaaDevOrder
import Derived.Test.YtcggmonnajggcaaRefRanks
import Derived.Test.YtcggmonnajggcaaDevStill
namespace Go.Proofs.Ytcggmonnajggcaa
open Go.RowKit Go.Shelf
attribute [local go_sem] Oper.semAt_some

/-- The successors of node x that have been told, raised. -/
def raise1 (x : Nat) (r : List Nat) (y : Nat) : List Nat := r.set y (max (r.getD y 0) (r.getD x 0 + 1))
theorem raise_eq (x : Nat) (g : List (Nat × Nat)) (r : List Nat) : (succN g x).foldl (raise1 x) r = relaxN g r x := by
  unfold relaxN
  induction g generalizing r with
  | nil => rfl
  | cons e g ih =>
    rw [List.foldl_cons, ← ih]
    unfold succN
    by_cases h : e.1 = x
    · rw [List.filter_cons_of_pos (by simpa using h)]
      simp [relax1, raise1, h]
    · rw [List.filter_cons_of_neg (by simpa using h)]
      simp [relax1, h]
theorem raise_snoc (x : Nat) (r : List Nat) (pre : List Nat) (y : Nat) : (pre ++ [y]).foldl (raise1 x) r = raise1 x (pre.foldl (raise1 x) r) y := by rw [List.foldl_append]; rfl
theorem raise_length (x : Nat) (r : List Nat) (pre : List Nat) : (pre.foldl (raise1 x) r).length = r.length := by
  induction pre generalizing r with
  | nil => rfl
  | cons y pre ih => rw [List.foldl_cons, ih]; simp [raise1]
theorem raise_most {M : Nat} {x : Nat} {r : List Nat} (h : Most M r) (pre : List Nat) : Most (M + pre.length) (pre.foldl (raise1 x) r) := by
  induction pre generalizing M r with
  | nil => exact h
  | cons y pre ih =>
    rw [List.foldl_cons, List.length_cons, show M + (pre.length + 1) = (M + 1) + pre.length by omega]
    refine ih (fun b hb => ?_)
    rcases List.mem_or_eq_of_mem_set hb with hb | hb
    · have := h b hb; omega
    · have h1 := h.getD y
      have h2 := h.getD x
      omega
theorem relaxN_length (g : List (Nat × Nat)) (r : List Nat) (x : Nat) : (relaxN g r x).length = r.length := fold_length g x r

/-- What holds at the head of the loop. -/
structure RankI (N G B8 B : Nat) (g : List (Nat × Nat)) (l : List Nat) (w1 : World) (m k : Nat) (ds : List Deferred) (W : World) : Prop where
  le : k ≤ N
  num : m = N - k
  defs : DefsOk w1.heap.size ds W
  box : W.heap[B8]? = some (.cells #[.slice (some ⟨G, 0, none⟩) N N] 28 (0, 0))
  zs : NumsAt B G N ((l.take k).foldl (relaxN g) (List.replicate N 0)) W
  most : Most (k * 2000) ((l.take k).foldl (relaxN g) (List.replicate N 0))
  below : Below w1.heap.size w1 W

set_option maxRecDepth 100000 in
set_option maxHeartbeats 8000000 in
theorem devRanks_ok (n₀ N : Nat) (ad : Option Addr) (cap : Nat) (es : List (Int × Int)) (w : World) (hE : EdgesA n₀ w ad es) (hn₀ : n₀ ≤ w.heap.size) (hl : es.length ≤ 2000) (hcap : es.length ≤ cap) (hN : N ≤ 200) (hok : OkE N es) (hs : SrtN (gN es)) (l : List Nat) (hll : l.length = N) (hlN : ∀ x ∈ l, x < N) (ho : ordL (N : Int) es = l) (he : ordE (N : Int) es = 0) :
    Calls Try.prog 25 #[.int .i64 (N : Int), .slice ad es.length cap] w (GivN (ranksF N (gN es) l) 0 w) := by
  have hor := devOrder_any (N : Int) ad cap es w (hE.mono hn₀) (by omega) hcap
  rw [ho, he] at hor
  have HOR := Lib.hid hor
  have HE := Lib.hid hE
  have HOK := Lib.hid hok
  have HS := Lib.hid hs
  have HLN := Lib.hid hlN
  have HLL := Lib.hid hll
  obtain ⟨R, hR⟩ : ∃ R, ranksF N (gN es) l = R := ⟨_, rfl⟩
  rw [hR]
  have HR := Lib.hid hR
  clear hE hor ho he hok hlN hll hR hs
  refine (callsIn_wide (n := 9)).1 ?_
  refine callsIn_of_wp_marks Try.func25 rfl trivial ?_ rfl
  simp only [Try.ntmps25, List.size_toArray, List.length_cons, List.length_nil, Nat.reduceAdd, Nat.reduceSub, Array.replicate_succ, Array.replicate_zero, List.push_toArray, List.append_toArray, List.nil_append, List.cons_append]
  gi_wp2_with fail
  refine ⟨trivial, ?_⟩
  refine (callsIn_wide.2 HOR.out).mono ?_
  rintro e w1 ⟨v, rfl, ho1, b1⟩
  obtain ⟨ao, co, rfl, _, _⟩ := own_slice ho1
  obtain ⟨ao', co', e1, hints, _⟩ := ho1.known
  injection e1 with e1 _ e3
  subst e1
  subst e3
  have HI1 := Lib.hid hints
  have B1 := Lib.hid b1
  obtain ⟨w2, hrun, hz2, hg2⟩ := make_zs w.heap.size N w1 hN b1.size
  have g2 : (w2.alloc (.cells #[.slice (some ⟨w1.heap.size, 0, none⟩) N N] 28)).heap[w2.heap.size]? = some (.cells #[.slice (some ⟨w1.heap.size, 0, none⟩) N N] 28 (0, 0)) := World.alloc_heap_new w2 _
  have HX3 := Lib.hid g2
  have HZ3 : Hid (NumsAt w.heap.size w1.heap.size N (([] : List Nat).foldl (relaxN (gN es)) (List.replicate N 0)) (w2.alloc (.cells #[.slice (some ⟨w1.heap.size, 0, none⟩) N N] 28))) := Lib.hid (by
    have h := World.ownsRow.alloc hz2 (.cells #[.slice (some ⟨w1.heap.size, 0, none⟩) N N] 28)
    have e : zV (tabN N (fun _ => 0)) = natV (List.replicate N 0) := by rw [← tabN_zero]; simp [zV, natV]
    rw [e] at h
    exact h)
  have HB3 : Hid (Below w1.heap.size w1 (w2.alloc (.cells #[.slice (some ⟨w1.heap.size, 0, none⟩) N N] 28))) := Lib.hid (((Below.refl _ w1).grown hg2 (Nat.le_refl _) (fun r e => by cases e)).alloc (hg2.size) _)
  have lt2 : w1.heap.size < w2.heap.size := (World.ownsRow.lt hz2 _ rfl).2
  have s2 : (w2.alloc (.cells #[.slice (some ⟨w1.heap.size, 0, none⟩) N N] 28)).heap.size = w2.heap.size + 1 := by simp
  rw [HLL.out]
  clear ho1 b1 hints hz2 hg2 g2 HOR
  gi_wp2_with fail
  clear hrun
  obtain ⟨w3, hw3⟩ : ∃ w3, w2.alloc (.cells #[.slice (some ⟨w1.heap.size, 0, none⟩) N N] 28) = w3 := ⟨_, rfl⟩
  rw [hw3] at HX3 HZ3 HB3 s2 ⊢
  obtain ⟨G, hG⟩ : ∃ G, w1.heap.size = G := ⟨_, rfl⟩
  rw [hG] at HX3 HZ3 lt2 ⊢
  obtain ⟨B8, hB8⟩ : ∃ B8, w2.heap.size = B8 := ⟨_, rfl⟩
  rw [hB8] at HX3 lt2 s2 ⊢
  have HG := Lib.hid hG
  clear hw3 hG hB8
  refine wpIn_loop_ghost (fun m a' W => ∃ (k : Nat) (ds : List Deferred) (x10 x11 x26 x27 x28 x29 x30 x31 x32 x33 x34 x35 x36 x37 x38 x39 x40 x41 x42 x43 x44 x45 x46 x47 x48 x49 : Value), a' = { tmps := #[.int .i64 (N : Int), .slice ad es.length cap, undef, undef, .slice none 0 0, .int .i64 0, .slice ao N co, .int .i64 0, .pointer (some ⟨B8, 0, none⟩), undef, x10, x11, .tuple #[.slice ao N co, .int .i64 0], .int .i64 (N : Int), .slice ad es.length cap, .tuple #[.slice ao N co, .int .i64 0], .slice ao N co, .int .i64 0, .int .i64 0, .bool false, undef, .int .i64 (N : Int), .slice (some ⟨G, 0, none⟩) N N, .slice ao N co, .int .i64 (N : Int), .int .i64 (k : Int), x26, x27, x28, x29, x30, x31, x32, x33, x34, x35, x36, x37, x38, x39, x40, x41, x42, x43, x44, x45, x46, x47, x48, x49], defers := ds } ∧ RankI N G B8 w.heap.size (gN es) l w1 m k ds W) N ?start ?round
  case start =>
    refine ⟨0, [], _, _, _, _, _, _, _, _, _, _, _, _, _, _, _, _, _, _, _, _, _, _, _, _, _, _, rfl, ?_⟩
    exact { le := Nat.zero_le _, num := by simp, defs := DefsOk.nil _ _, box := HX3.out, zs := HZ3.out, most := by rw [Nat.zero_mul]; exact Most.start N, below := HB3.out }
  case round =>
    rintro m a' W ⟨k, ds, x10, x11, x26, x27, x28, x29, x30, x31, x32, x33, x34, x35, x36, x37, x38, x39, x40, x41, x42, x43, x44, x45, x46, x47, x48, x49, rfl, hI⟩ K hK
    dsimp only
    have HI := Lib.hid hI
    have HK := Lib.hid hK
    clear hI hK
    by_cases hlt : k < N
    · obtain ⟨x, hx⟩ : ∃ x, l[k]? = some x := ⟨_, List.getElem?_eq_getElem (by rw [HLL.out]; exact hlt)⟩
      have hxN := HLN.out x (List.mem_of_getElem? hx)
      have hkl : k < (intsOf l).length := by rw [intsOf_length, HLL.out]; exact hlt
      obtain ⟨bo, off, rfl, hbo, hcc⟩ := (HI1.out.below HI.out.below).some_ (by omega)
      have d1 := hcc k hkl
      have e1 : (intsOf l)[k]?.getD 0 = (x : Int) := by simp [intsOf, hx]
      rw [e1] at d1
      have HXX := Lib.hid hx
      have k1 : (k : Int) < (N : Int) := by omega
      clear hcc hkl hx e1
      have HXa : Hid ((W.alloc (.cells #[.int .i64 (x : Int)] 3)).heap[W.heap.size]? = some (.cells #[.int .i64 (x : Int)] 3 (0, 0))) := Lib.hid (World.alloc_heap_new W _)
      have HXb : Hid ((W.alloc (.cells #[.int .i64 (x : Int)] 3)).heap[B8]? = some (.cells #[.slice (some ⟨G, 0, none⟩) N N] 28 (0, 0))) := Lib.hid ((Below.heap_alloc _ _ _ (Array.getElem?_eq_some_iff.1 HI.out.box).1).trans HI.out.box)
      have HZa : Hid (NumsAt w.heap.size G N ((l.take k).foldl (relaxN (gN es)) (List.replicate N 0)) (W.alloc (.cells #[.int .i64 (x : Int)] 3))) := Lib.hid (World.ownsRow.alloc HI.out.zs _)
      have HBa : Hid (Below w1.heap.size w1 (W.alloc (.cells #[.int .i64 (x : Int)] 3))) := Lib.hid (HI.out.below.alloc HI.out.below.size _)
      have HDa : Hid (DefsOk w1.heap.size ds (W.alloc (.cells #[.int .i64 (x : Int)] 3))) := Lib.hid (HI.out.defs.keep (Keeps.grown (World.grownBy_alloc W _ none)))
      have d2 := box_cell HXa.out
      gi_wp2_with (refine ⟨trivial, ?_⟩; gi_at_call 52; refine (callsIn_wide.2 (successors_any N x ad es.length cap _)).mono ?_; rintro e w' ⟨rfl, rfl⟩)
      obtain ⟨w4, hw4⟩ : ∃ w4, W.alloc (.cells #[.int .i64 (x : Int)] 3) = w4 := ⟨_, rfl⟩
      have s4 : w4.heap.size = W.heap.size + 1 := by rw [← hw4]; simp
      rw [hw4] at HXa HXb HZa HBa HDa ⊢
      clear hw4 d1 d2
      obtain ⟨w5, hw5, s5, gb, xb, gr⟩ := succ_boxes N x ad es.length cap w4
      rw [← hw5]
      rw [s4] at s5 gb xb
      clear hw5
      have hb5 : Below w4.heap.size w4 w5 := (Below.refl _ _).grown gr (Nat.le_refl _) (fun r e => by cases e)
      have hG4 : G < w4.heap.size := (World.ownsRow.lt HZa.out G rfl).2
      have hn1 : n₀ ≤ w1.heap.size := Nat.le_trans hn₀ B1.out.size
      have hn4 : n₀ ≤ w4.heap.size := Nat.le_trans hn1 HBa.out.size
      have hgG := HG.out
      obtain ⟨r0, hr0⟩ : ∃ r0, (l.take k).foldl (relaxN (gN es)) (List.replicate N 0) = r0 := ⟨_, rfl⟩
      rw [hr0] at HZa
      have HR0 := Lib.hid hr0
      have HM0 : Hid (Most (k * 2000) r0) := Lib.hid (by rw [← hr0]; exact HI.out.most)
      have hl0 : r0.length = N := by
        rw [← hr0]
        have : ∀ (q : List Nat) (r : List Nat), (q.foldl (relaxN (gN es)) r).length = r.length := by
          intro q
          induction q with
          | nil => intro r; rfl
          | cons a q ih => intro r; rw [List.foldl_cons, ih, relaxN_length]
        rw [this]
        simp
      have HL0 := Lib.hid hl0
      clear hr0 hl0
      refine wpIn_rangeFunc_ownF (w0 := w5) rfl (by omega) (gf := 65) (lb := #[.pointer (some ⟨W.heap.size + 1, 0, none⟩), .pointer (some ⟨W.heap.size + 1 + 1, 0, none⟩)]) rfl trivial (enters_of Try.func65 (by kernel_rfl) rfl)
        (succ_stops (9 - 1) (by omega) n₀ (W.heap.size + 1) (W.heap.size + 1 + 1) N x ad cap es hl hcap HOK.out HS.out w5 gb xb (((HE.out.below (B1.out.mono hn₀)).below (HBa.out.mono hn1)).below (hb5.mono hn4)) (Nat.le_trans hn4 hb5.size))
        (fun h k => ⟨h.1.trans k.1, k.2.trans h.2⟩) (fun W' l o o' hl h h1 h2 => ⟨belowK_b (w := w5) (by omega) W' l o o' hl h h1 h2, World.putObj_heap_other (by omega)⟩) (Below.refl _ _) (fun _ => rfl)
        (fun pre W6 => NumsAt w.heap.size G N ((valsS pre).foldl (raise1 x) r0) W6 ∧ W6.heap[B8]? = some (.cells #[.slice (some ⟨G, 0, none⟩) N N] 28 (0, 0)) ∧ W6.heap[W.heap.size]? = some (.cells #[.int .i64 (x : Int)] 3 (0, 0)) ∧ w5.grownBy W6 (some G))
        (fun _ _ _ => False)
        (fun s A A' row hs hg hr => ⟨own_far hs.1 hg hr, cells_far hs.2.1 hg hr, cells_far hs.2.2.1 hg hr, grown_far hs.2.2.2 hg hr⟩)
        (fun _ _ _ _ _ hs _ _ => hs)
        ⟨own_far (B0 := 0) HZa.out gr (fun r e => by cases e), cells_far (B := 0) HXb.out gr (fun r e => by cases e), cells_far (B := 0) HXa.out gr (fun r e => by cases e), grown_weak (grownOf (Below.refl _ _)) _⟩
        (fun y => { tmps := #[.int .i64 (N : Int), .slice ad es.length cap, undef, undef, .slice none 0 0, .int .i64 0, .slice (some ⟨bo, off, none⟩) N co, .int .i64 0, .pointer (some ⟨B8, 0, none⟩), undef, .pointer (some ⟨W.heap.size, 0, none⟩), .int .i64 (y.1 : Int), .tuple #[.slice (some ⟨bo, off, none⟩) N co, .int .i64 0], .int .i64 (N : Int), .slice ad es.length cap, .tuple #[.slice (some ⟨bo, off, none⟩) N co, .int .i64 0], .slice (some ⟨bo, off, none⟩) N co, .int .i64 0, .int .i64 0, .bool false, undef, .int .i64 (N : Int), .slice (some ⟨G, 0, none⟩) N N, .slice (some ⟨bo, off, none⟩) N co, .int .i64 (N : Int), .int .i64 (k : Int), .bool true, .pointer (some ⟨bo, off + k, none⟩), .int .i64 (x : Int), .int .i64 (N : Int), .slice ad es.length cap, gV N ad es.length cap, .int .i64 (x : Int), .func (.func 65) #[] #[.pointer (some ⟨W.heap.size + 1, 0, none⟩), .pointer (some ⟨W.heap.size + 1 + 1, 0, none⟩)], .int .i64 (y.1 : Int), x35, x36, x37, x38, x39, x40, x41, x42, x43, x44, x45, x46, x47, x48, x49], defers := [] }) ?assign ?body ?done ?stop
      case assign =>
        intro l x W K hK
        gi_wp2
        exact hK
      case body =>
        rintro lp pre ys W6 ⟨hz, hbx, hxx, hg⟩ hlen
        obtain ⟨y, hy, hmem⟩ := ys
        have hmx : Try.prog.follows .mixedOrders = true := by kernel_rfl
        have t1 := box_cell hbx
        have t2 := box_cell hxx
        have hrl : ((valsS pre).foldl (raise1 x) r0).length = N := by rw [raise_length]; exact HL0.out
        obtain ⟨r, hr⟩ : ∃ r, (valsS pre).foldl (raise1 x) r0 = r := ⟨_, rfl⟩
        have hm := raise_most (x := x) HM0.out (valsS pre)
        rw [hr] at hz hrl hm
        obtain ⟨a, ha⟩ : ∃ a, r[y]? = some a := ⟨_, List.getElem?_eq_getElem (by omega)⟩
        obtain ⟨b, hb⟩ : ∃ b, r[x]? = some b := ⟨_, List.getElem?_eq_getElem (by omega)⟩
        have t3 := hz.cell hy ha
        have t4 := hz.cell hxN hb
        have t5 := hz.free y
        have hbM := hm b (List.mem_of_getElem? hb)
        rw [valsS_length] at hbM
        have hb2 : (b : Int) + 1 ≤ 9223372036854775807 := by
          have : k * 2000 ≤ 200 * 2000 := Nat.mul_le_mul_right _ (by omega)
          omega
        obtain ⟨M, hM⟩ : ∃ M, max a (b + 1) = M := ⟨_, rfl⟩
        have hMi : max (a : Int) ((b : Int) + 1) = (M : Int) := by omega
        have hzs := hz.store y M
        have hst := (World.ownsRow.stored hz y (.int .i64 (M : Int))).2
        have y1 : (y : Int) < (N : Int) := by omega
        have x1 : (x : Int) < (N : Int) := by omega
        have HZS := Lib.hid hzs
        have HST := Lib.hid hst
        have HGG := Lib.hid hg
        have HZ6 := Lib.hid hz
        have HBX := Lib.hid hbx
        have HXX2 := Lib.hid hxx
        have HRR := Lib.hid hr
        have HN : Hid ((valsS (pre ++ [(⟨y, hy, hmem⟩ : Suc N (gN es) x)])).foldl (raise1 x) r0 = r.set y M) := Lib.hid (by
          rw [valsS_snoc, raise_snoc, hr]
          unfold raise1
          rw [List.getD_eq_getElem?_getD, List.getD_eq_getElem?_getD, ha, hb, ← hM]
          rfl)
        have hwr : IntKind.i64.wrap ((b : Int) + 1) = (b : Int) + 1 := IntWalk.i64_in _ (by omega)
        clear hzs hst hg hz hbx hxx hr ha hb hm hrl hbM hM
        gi_wp2
        refine wpIn_region_still_tail (open_round _ _ _) 13 hmx (by kernel_rfl) (by kernel_rfl) ?_
        obtain ⟨W7, hW7⟩ : ∃ W7, W6.drew = W7 := ⟨_, rfl⟩
        rw [show W6.cell? = W7.cell? by rw [← hW7]; rfl] at t1 t2 t3 t4
        rw [hW7]
        have t5' : W7.frozen? ⟨G, y, none⟩ = false := by rw [← hW7]; exact t5
        simp only [List.take_succ_cons, List.take_zero, List.drop_succ_cons, List.drop_zero]
        repeat still_step
        refine wpStill_nil ?_
        have HW7 := Lib.hid hW7
        clear hwr hMi hW7 t1 t2 t4 hb2 t5 hlen
        gi_wp2
        have e7 := HW7.out
        subst e7
        have hszg := HGG.out.size
        have hg7 : W6.grownBy (W6.drew.setCell ⟨G, y, none⟩ (.int .i64 (M : Int))) (some G) := ⟨HST.out.os, HST.out.tape, HST.out.output, HST.out.size, HST.out.block⟩
        have hgn1 : n₀ ≤ G := by omega
        have hGW : G < W.heap.size := (World.ownsRow.lt HI.out.zs G rfl).2
        refine ⟨grown_keeps hg7 HZ6.out, ⟨grown_below hg7 hgn1 (by omega), hg7.block _ (by omega) (by simp; omega)⟩, ?_, ?_, ?_, grown_trans HGG.out hg7⟩
        · rw [HN.out]
          exact HZS.out
        · exact (hg7.block _ (Array.getElem?_eq_some_iff.1 HBX.out).1 (by simp; omega)).trans HBX.out
        · exact (hg7.block _ (Array.getElem?_eq_some_iff.1 HXX2.out).1 (by simp; omega)).trans HXX2.out
      case done =>
        rintro D xs W6 hD hx ⟨hz, hbx, hxx, hg⟩ hK6
        have hkp : Keeps w4 W6 := (Keeps.grown gr).trans (Keeps.row hg (fun r e => by
          cases e
          obtain ⟨c, hc⟩ := own_type HZa.out
          exact ⟨c, _, _, (hb5.block _ hG4).trans hc⟩))
        have hGw : w1.heap.size ≤ G := by omega
        have hbl : Below w1.heap.size w4 W6 := (hb5.mono HBa.out.size).trans (grown_below hg hGw (Nat.le_trans HBa.out.size hb5.size))
        have hex : (valsS xs).foldl (raise1 x) r0 = relaxN (gN es) r0 x := by rw [hx, raise_eq]
        have htk : (l.take (k + 1)).foldl (relaxN (gN es)) (List.replicate N 0) = relaxN (gN es) r0 x := by rw [take_fold _ _ _ _ _ HXX.out, HR0.out]
        have HN : Hid (RankI N G B8 w.heap.size (gN es) l w1 (N - (k + 1)) (k + 1) ({ target := .collected D, args := #[] } :: ds) W6) := Lib.hid {
          le := hlt
          num := rfl
          defs := HDa.out.cons hkp (Nat.le_trans hb5.size hD) (Nat.le_trans HBa.out.size (Nat.le_trans hb5.size hD)) hK6
          box := hbx
          zs := by rw [htk, ← hex]; exact hz
          most := by
            have h := raise_most (x := x) HM0.out (valsS xs)
            rw [hex] at h
            rw [htk]
            intro b hb
            have h2 := h b hb
            have h3 : (valsS xs).length ≤ 2000 := by
              rw [hx]
              have := succN_length (gN es) x
              rw [gN_length] at this
              omega
            have h4 : (k + 1) * 2000 = k * 2000 + 2000 := by omega
            omega
          below := HBa.out.trans hbl }
        have HLT : Hid (N - (k + 1) < m) := Lib.hid (by rw [HI.out.num]; omega)
        clear hkp hbl hz hbx hxx hg hK6 hex htk
        gi_wp2
        exact HK.out _ _ _ HLT.out ⟨k + 1, _, _, _, _, _, _, _, _, _, _, _, _, _, _, _, _, _, _, _, _, _, _, _, _, _, _, _, rfl, HN.out⟩
      case stop =>
        rintro D c pre W _ _ hf _
        exact hf.elim
    · have HN : Hid (NumsAt w.heap.size G N R W) := Lib.hid (by
        have h := HI.out.zs
        rw [List.take_of_length_le (by rw [HLL.out]; omega)] at h
        rw [← HR.out]
        exact h)
      have d1 := box_cell HI.out.box
      gi_wp2
      refine HI.out.defs.leaves (fun w' hs => ?_)
      refine ⟨_, results_tmp2 rfl _ _ _, _, rfl, ?_, ?_⟩
      · have e : R.length = N := by rw [← HR.out]; exact ranksF_length _ _ _
        unfold OwnN
        rw [e]
        exact hs.own HN.out
      · exact B1.out.trans ((HI.out.below.mono B1.out.size).trans (hs.below.mono B1.out.size))

theorem ordE_cases (n : Int) (es : List (Int × Int)) : (ordE n es = 0 ∧ ∃ N : Nat, n = (N : Int) ∧ N ≤ 200 ∧ chkE n es = 0 ∧ (ordL n es).length = N ∧ ∀ x ∈ ordL n es, x < N) ∨ ordE n es ≠ 0 := by
  by_cases h : ordE n es = 0
  · left
    refine ⟨h, ?_⟩
    unfold ordE at h
    by_cases hc : chkE n es = 0
    · rw [if_pos hc] at h
      obtain ⟨N, rfl, hN, hl2, hok⟩ := chk_ok hc
      refine ⟨N, rfl, hN, hc, ?_⟩
      unfold ordL
      rw [if_pos hc]
      rw [Int.toNat_natCast] at h ⊢
      cases ho : orderFrom N (gN es) [] with
      | none => rw [ho] at h; cases h
      | some l => exact orderFrom_length (by simp) (fun x hx => by simp at hx) ho
    · rw [if_neg hc] at h; cases h
  · exact .inr h
set_option maxRecDepth 100000 in
set_option maxHeartbeats 4000000 in
theorem devRanks_any (n : Int) (ad : Option Addr) (cap : Nat) (es : List (Int × Int)) (w : World) (hE : EdgesA w.heap.size w ad es) (hl : es.length ≤ 9223372036854775807) (hcap : es.length ≤ cap) :
    Calls Try.prog 25 #[.int .i64 n, .slice ad es.length cap] w (GivN (rankL n es) (ordE n es) w) := by
  rcases ordE_cases n es with ⟨h0, N, rfl, hN, hc, hll, hlN⟩ | h0
  · obtain ⟨N', e, _, hl2, hok⟩ := chk_ok hc
    obtain rfl : N = N' := by omega
    have e1 : rankL (N : Int) es = ranksF N (gN es) (ordL (N : Int) es) := by unfold rankL; rw [if_pos h0, Int.toNat_natCast]
    rw [e1, h0]
    exact devRanks_ok w.heap.size N ad cap es w hE (Nat.le_refl _) hl2 hcap hN hok (chk_srt hc) _ hll hlN rfl h0
  · have e1 : rankL n es = [] := by unfold rankL; rw [if_neg h0]
    rw [e1]
    have hor := devOrder_any n ad cap es w hE hl hcap
    obtain ⟨x, hx⟩ : ∃ x, ordE n es = x := ⟨_, rfl⟩
    rw [hx] at hor h0
    rw [hx]
    have hxb : (x != 0) = true := by simpa using h0
    have HOR := Lib.hid hor
    clear hE hor hx h0 e1
    refine (callsIn_wide (n := 9)).1 ?_
    refine callsIn_of_wp_marks Try.func25 rfl trivial ?_ rfl
    simp only [Try.ntmps25, List.size_toArray, List.length_cons, List.length_nil, Nat.reduceAdd, Nat.reduceSub, Array.replicate_succ, Array.replicate_zero, List.push_toArray, List.append_toArray, List.nil_append, List.cons_append]
    gi_wp2_with fail
    refine ⟨trivial, ?_⟩
    refine (callsIn_wide.2 HOR.out).mono ?_
    rintro e w1 ⟨v, rfl, ho1, b1⟩
    have B1 := Lib.hid b1
    clear ho1 b1
    gi_wp2
    exact ⟨_, results_tmp2 rfl _ _ _, _, rfl, OwnN.nil _ _, B1.out⟩

end Go.Proofs.Ytcggmonnajggcaa
