/-
  What the program's distances of digraph returns.
-/
import Derived.Test.YtcggmonnajggcaaDevQueue
import Derived.Test.YtcggmonnajggcaaBfsPlain
import Derived.Test.YtcggmonnajggcaaDevStill
namespace Go.Proofs.Ytcggmonnajggcaa
open Go.RowKit Go.Shelf
attribute [local go_sem] Oper.semAt_some

abbrev ftab (N : Nat) (f : Nat → Nat) : List Int := tabN N (fun j => (f j : Int))
theorem QRow.far {g off cap B0 : Nat} {l : List Nat} {w w' : World} {row : Option Nat} (h : QRow g off cap l w) (hg : w.grownBy w' row) (hr : RowFar B0 w row) : QRow g off cap l w' := by
  obtain ⟨cur, hc, r⟩ := h
  exact ⟨cur, cells_far hc hg hr, r⟩
theorem keeps_far {w A A' : World} {row : Option Nat} (h : Keeps w A) (hg : A.grownBy A' row) (hr : RowFar w.heap.size A row) : Keeps w A' := fun k o hk ho => by
  have hA := h k o hk ho
  have hlt := (Array.getElem?_eq_some_iff.1 hk).1
  rw [hg.block k (Array.getElem?_eq_some_iff.1 hA).1 (fun e => by obtain ⟨hB, _⟩ := hr k e.symm; omega)]
  exact hA
theorem below_far {n : Nat} {w A A' : World} {row : Option Nat} (h : Below n w A) (hn : n ≤ w.heap.size) (hg : A.grownBy A' row) (hr : RowFar w.heap.size A row) : Below n w A' :=
  h.trans ((Below.refl _ A).grown hg (Nat.le_trans hn h.size) (fun k e => by obtain ⟨hB, _⟩ := hr k e; omega))
/-- An append whose run is known. -/
theorem wpListIn_append_run {F : Fence} {n : Nat} {P : Program} (w : World) {ops : Array Oper} {rest : List Oper} {o : Oper} {a : Act} {Q : Exit → Act → World → Prop}
    (hg : o.guard = none) (s x : Operand) (t : TypeId) (hop : o.op = Op.call { callee := Callee.builtin Builtin.append, args := #[s, x], argTypes := #[t, t] })
    (v u v' : Value) (w' : World) (hs : a.eval s = v) (hx : a.eval x = u) (hrun : (Builtin.append_ #[t, t] o.type #[v, u]).run P w = .ok v' w') (hK : wpListIn F n P ops Q rest (a.put o.dst v') w') :
    wpListIn F n P ops Q (o :: rest) a w := by
  refine wpListIn_plain hg fun K hK' => ?_
  unfold Oper.wpIn
  refine ⟨?_, ?_⟩
  · simp [Oper.about, hop, resolve, Target.leads, Sem.run_pure]
  · rw [Oper.semAt_plain F _ _ (by rw [hop]; intro c hc'; cases hc')]
    simp [execOp, hop, resolve, invoke, builtin, hs, hx, hrun, Result.andThen]
    exact hK' _ _ hK
/-- What holds at the head of the search's loop. -/
structure DistI (N G B5 B6 : Nat) (ad : Option Addr) (len cap : Nat) (g : List (Nat × Nat)) (s : Nat) (w : World) (m : Nat) (q : List Nat) (f : Nat → Nat) (gq oq cq : Nat) (ds : List Deferred) (W : World) : Prop where
  num : m = 2 * zerosF N f + q.length
  le : m ≤ 401
  bnd : ∀ v, f v + zerosF N f ≤ N
  inv : BInv N g s q f
  defs : DefsOk w.heap.size ds W
  gbox : W.heap[w.heap.size]? = some (.cells #[.int .i64 (N : Int), .slice ad len cap] 52 (0, 0))
  box5 : W.heap[B5]? = some (.cells #[.slice (some ⟨G, 0, none⟩) N N] 28 (0, 0))
  box6 : W.heap[B6]? = some (.cells #[.slice (some ⟨gq, oq, none⟩) q.length cq] 28 (0, 0))
  zs : ZsAt w.heap.size G N (ftab N f) W
  row : QRow gq oq cq q W
  ne : gq ≠ G
  base : w.heap.size ≤ gq
  below : Below w.heap.size w W
/-- What holds between two rounds of the range over the successors. -/
structure DistJ (N G B5 B6 B8 Bx : Nat) (ad : Option Addr) (len cap : Nat) (g : List (Nat × Nat)) (s x c M : Nat) (w w5 : World) (pre : List Nat) (q : List Nat) (f : Nat → Nat) (gq oq cq : Nat) (W : World) : Prop where
  num : 2 * zerosF N f + q.length ≤ M
  bnd : ∀ v, f v + zerosF N f ≤ N
  bndc : c + zerosF N f ≤ N
  inv : LInv N g s x c q f pre
  gbox : W.heap[w.heap.size]? = some (.cells #[.int .i64 (N : Int), .slice ad len cap] 52 (0, 0))
  box5 : W.heap[B5]? = some (.cells #[.slice (some ⟨G, 0, none⟩) N N] 28 (0, 0))
  box6 : W.heap[B6]? = some (.cells #[.slice (some ⟨gq, oq, none⟩) q.length cq] 28 (0, 0))
  box8 : W.heap[B8]? = some (.cells #[.int .i64 ((c : Int) + 1)] 3 (0, 0))
  boxx : W.heap[Bx]? = some (.cells #[.int .i64 (x : Int)] 3 (0, 0))
  zs : ZsAt w.heap.size G N (ftab N f) W
  row : QRow gq oq cq q W
  ne : gq ≠ G
  ne8 : gq ≠ B8
  nex : gq ≠ Bx
  base : w.heap.size ≤ gq
  keeps : Keeps w5 W
  below : Below w.heap.size w5 W
theorem DistJ.far {N G B5 B6 B8 Bx : Nat} {ad : Option Addr} {len cap : Nat} {g : List (Nat × Nat)} {s x c M : Nat} {w w5 : World} {pre q : List Nat} {f : Nat → Nat} {gq oq cq : Nat} {W W' : World} {row : Option Nat} (h : DistJ N G B5 B6 B8 Bx ad len cap g s x c M w w5 pre q f gq oq cq W) (hw : w.heap.size ≤ w5.heap.size) (hg : W.grownBy W' row) (hr : RowFar w5.heap.size W row) : DistJ N G B5 B6 B8 Bx ad len cap g s x c M w w5 pre q f gq oq cq W' where
  num := h.num
  bnd := h.bnd
  bndc := h.bndc
  inv := h.inv
  gbox := cells_far h.gbox hg hr
  box5 := cells_far h.box5 hg hr
  box6 := cells_far h.box6 hg hr
  box8 := cells_far h.box8 hg hr
  boxx := cells_far h.boxx hg hr
  zs := own_far h.zs hg hr
  row := h.row.far hg hr
  ne := h.ne
  ne8 := h.ne8
  nex := h.nex
  base := h.base
  keeps := keeps_far h.keeps hg hr
  below := below_far h.below hw hg hr

set_option maxRecDepth 100000 in
set_option maxHeartbeats 8000000 in
theorem devDist_walk (n₀ N s : Nat) (ad : Option Addr) (cap : Nat) (es : List (Int × Int)) (w : World) (hl : es.length ≤ 2000) (hcap : es.length ≤ cap) (hok : OkE N es) (hs : SrtN (gN es)) (hN : N ≤ 200) (hsN : s < N) (hE : EdgesA n₀ w ad es) (hn₀ : n₀ ≤ w.heap.size) :
    Calls Try.prog 62 #[gV N ad es.length cap, .int .i64 (s : Int)] w fun e w' => ∃ G, e = .returned (.slice (some ⟨G, 0, none⟩) N N) ∧ ZsAt w.heap.size G N (ftab N (dstN (gN es) s)) w' ∧ Below w.heap.size w w' := by
  have HE := Lib.hid hE
  have HOK := Lib.hid hok
  have HS := Lib.hid hs
  clear hE hok hs
  obtain ⟨w0, hw0⟩ : ∃ w0, w.alloc (.cells #[.int .i64 (N : Int), .slice ad es.length cap] 52) = w0 := ⟨_, rfl⟩
  have s0 : w0.heap.size = w.heap.size + 1 := by rw [← hw0]; simp
  have b0 : Below w.heap.size w w0 := by rw [← hw0]; exact (Below.refl _ w).alloc (Nat.le_refl _) _
  have g0 : w0.heap[w.heap.size]? = some (.cells #[.int .i64 (N : Int), .slice ad es.length cap] 52 (0, 0)) := by rw [← hw0]; exact World.alloc_heap_new w _
  obtain ⟨w1, hrun, hz1, hg1⟩ := make_zs w.heap.size N w0 hN (by omega)
  rw [s0] at hrun hz1
  have b1 : Below w.heap.size w w1 := b0.grown hg1 (by omega) (fun k e => by cases e)
  have g1 : w1.heap[w.heap.size]? = some (.cells #[.int .i64 (N : Int), .slice ad es.length cap] 52 (0, 0)) := (hg1.block _ (by omega) (by simp)).trans g0
  have lt1 : w.heap.size + 1 < w1.heap.size := (World.ownsRow.lt hz1 _ rfl).2
  obtain ⟨G, hG⟩ : ∃ G, w.heap.size + 1 = G := ⟨_, rfl⟩
  rw [hG] at hz1 lt1 hrun
  have HG := Lib.hid hG
  obtain ⟨gc0, gc1⟩ := box2_cell g0
  obtain ⟨W1, hW1⟩ : ∃ W1, w1.alloc (.cells #[.slice (some ⟨G, 0, none⟩) N N] 28) = W1 := ⟨_, rfl⟩
  obtain ⟨W2, hW2⟩ : ∃ W2, W1.alloc (.cells #[.int .i64 (s : Int)] 3) = W2 := ⟨_, rfl⟩
  obtain ⟨W3, hW3⟩ : ∃ W3, W2.alloc (.cells #[.slice (some ⟨w1.heap.size + 1, 0, none⟩) 1 1] 28) = W3 := ⟨_, rfl⟩
  have t1 : W1.heap.size = w1.heap.size + 1 := by rw [← hW1]; simp
  have t2 : W2.heap.size = w1.heap.size + 1 + 1 := by rw [← hW2]; simp [t1]
  have t3 : W3.heap.size = w1.heap.size + 1 + 1 + 1 := by rw [← hW3]; simp [t2]
  have h12 : Below W1.heap.size W1 W2 := by rw [← hW2]; exact (Below.refl _ _).alloc (Nat.le_refl _) _
  have h23 : Below W2.heap.size W2 W3 := by rw [← hW3]; exact (Below.refl _ _).alloc (Nat.le_refl _) _
  have h01 : Below w1.heap.size w1 W1 := by rw [← hW1]; exact (Below.refl _ _).alloc (Nat.le_refl _) _
  have h03 : Below w1.heap.size w1 W3 := h01.trans ((h12.mono h01.size).trans (h23.mono (by omega)))
  have HI0 : Hid (DistI N G w1.heap.size (w1.heap.size + 1 + 1) ad es.length cap (gN es) s w (2 * zerosF N (fun _ => 0) + 1) [s] (fun _ => 0) (w1.heap.size + 1) 0 1 [] W3) := Lib.hid {
    num := rfl
    le := by have := zerosF_le N (fun _ => 0); omega
    bnd := fun v => by have := zerosF_le N (fun _ => 0); omega
    inv := BInv.first _ hsN
    defs := DefsOk.nil _ _
    gbox := (h03.block _ (by omega)).trans g1
    box5 := by
      have : W1.heap[w1.heap.size]? = some (.cells #[.slice (some ⟨G, 0, none⟩) N N] 28 (0, 0)) := by rw [← hW1]; exact World.alloc_heap_new w1 _
      exact (h23.block _ (by omega)).trans ((h12.block _ (by omega)).trans this)
    box6 := by rw [← hW3, ← t2]; exact World.alloc_heap_new W2 _
    zs := own_below hz1 h03 lt1
    row := by
      have hr : QRow W1.heap.size 0 1 [s] W2 := by rw [← hW2]; exact QRow.first s
      rw [t1] at hr
      exact hr.block (h23.block _ (by omega))
    ne := by omega
    base := by omega
    below := b1.trans (h03.mono (by omega)) }
  have HL := Lib.hid lt1
  clear hg1 hz1 b1 g1 hG b0 g0 h12 h23 h01 h03
  refine (callsIn_wide (n := 9)).1 ?_
  refine callsIn_of_wp_marks Try.func62 rfl trivial ?_ rfl
  simp only [Try.ntmps62, List.size_toArray, List.length_cons, List.length_nil, Nat.reduceAdd, Nat.reduceSub, Array.replicate_succ, Array.replicate_zero, List.push_toArray, List.append_toArray, List.nil_append, List.cons_append]
  gi_wp2_with fail
  obtain ⟨B5, hB5⟩ : ∃ B5, w1.heap.size = B5 := ⟨_, rfl⟩
  rw [hB5] at HI0 HL ⊢
  clear hrun hw0 s0 gc0 gc1 hW1 hW2 hW3 t1 t2 t3 lt1 hB5
  refine wpIn_loop_ghost (fun m a' W => ∃ (q : List Nat) (f : Nat → Nat) (gq oq cq : Nat) (ds : List Deferred) (x7 x8 x9 x15 x16 x17 x18 x19 x20 x21 x22 x23 x24 x25 x26 x27 x28 x29 x30 x31 x32 x33 x34 x35 x36 x37 x38 x39 x40 x41 x42 x43 x44 : Value), a' = { tmps := #[gV N ad es.length cap, .int .i64 (s : Int), .pointer (some ⟨w.heap.size, 0, none⟩), undef, .slice none 0 0, .pointer (some ⟨B5, 0, none⟩), .pointer (some ⟨B5 + 1 + 1, 0, none⟩), x7, x8, x9, .pointer (some ⟨w.heap.size, 0, none⟩), .int .i64 (N : Int), .slice (some ⟨G, 0, none⟩) N N, .int .i64 (s : Int), .slice (some ⟨B5 + 1, 0, none⟩) 1 1, x15, x16, x17, x18, x19, x20, x21, x22, x23, x24, x25, x26, x27, x28, x29, x30, x31, x32, x33, x34, x35, x36, x37, x38, x39, x40, x41, x42, x43, x44, undef], defers := ds } ∧ DistI N G B5 (B5 + 1 + 1) ad es.length cap (gN es) s w m q f gq oq cq ds W) (2 * zerosF N (fun _ => 0) + 1) ?start ?round
  case start => exact ⟨_, _, _, _, _, _, _, _, _, _, _, _, _, _, _, _, _, _, _, _, _, _, _, _, _, _, _, _, _, _, _, _, _, _, _, _, _, _, _, rfl, HI0.out⟩
  case round =>
    rintro m a' W ⟨q, f, gq, oq, cq, ds, x7, x8, x9, x15, x16, x17, x18, x19, x20, x21, x22, x23, x24, x25, x26, x27, x28, x29, x30, x31, x32, x33, x34, x35, x36, x37, x38, x39, x40, x41, x42, x43, x44, rfl, hI⟩ K hK
    dsimp only
    have HI := Lib.hid hI
    have HK := Lib.hid hK
    clear hI hK HI0
    have c5 := box_cell HI.out.box5
    have c6 := box_cell HI.out.box6
    have f6 : W.frozen? ⟨B5 + 1 + 1, 0, none⟩ = false := Lib.frozen_of_heap HI.out.box6 0
    have hgG := HG.out
    have hltG := HL.out
    cases q with
    | nil =>
      have HZ : Hid (ZsAt w.heap.size G N (ftab N (dstN (gN es) s)) W) := Lib.hid (by
        rw [show ftab N (dstN (gN es) s) = ftab N f from tabN_ext (fun j _ => by rw [HI.out.inv.last j])]
        exact HI.out.zs)
      gi_wp2
      refine HI.out.defs.leaves (fun w' hs => ?_)
      exact ⟨_, results_tmp rfl _ _ _, G, rfl, hs.own HZ.out, HI.out.below.trans hs.below⟩
    | cons x r =>
      have hx0 : (x :: r)[0]? = some x := rfl
      have c7 := HI.out.row.cell hx0
      rw [Nat.add_zero] at c7
      obtain ⟨oq', cq', hsl, hrow⟩ := HI.out.row.tail
      have hxN := HI.out.inv.lt x (by simp)
      have c8 := HI.out.zs.cell hxN (tabN_get _ hxN)
      rw [List.length_cons] at c6
      obtain ⟨c, hcf⟩ : ∃ c, f x = c := ⟨_, rfl⟩
      rw [hcf] at c8
      have hcN : c + zerosF N f ≤ N := by rw [← hcf]; exact HI.out.bnd x
      have hj := HI.out.inv.pop
      rw [hcf] at hj
      have HJ0 := Lib.hid hj
      have hnum := HI.out.num
      rw [List.length_cons] at hnum
      have hle := HI.out.le
      have hrl : r.length ≤ 400 := by omega
      have d1 : decide ((0 : Int) < (r.length : Int) + 1) = true := by simp
      obtain ⟨Wa, hWa⟩ : ∃ Wa, W.setCell ⟨B5 + 1 + 1, 0, none⟩ (.slice (some ⟨gq, oq', none⟩) r.length cq') = Wa := ⟨_, rfl⟩
      have sA : Wa.heap.size = W.heap.size := by rw [← hWa]; simp [World.setCell]
      have hA : ∀ k, k ≠ B5 + 1 + 1 → Wa.heap[k]? = W.heap[k]? := fun k hk => by rw [← hWa]; exact Below.heap_setCell _ _ _ _ hk
      obtain ⟨Wb, hWb⟩ : ∃ Wb, Wa.alloc (.cells #[.int .i64 ((c : Int) + 1)] 3) = Wb := ⟨_, rfl⟩
      have sB : Wb.heap.size = W.heap.size + 1 := by rw [← hWb]; simp [sA]
      have hB : ∀ k, k < W.heap.size → Wb.heap[k]? = Wa.heap[k]? := fun k hk => by rw [← hWb]; exact Below.heap_alloc _ _ _ (by omega)
      have lt6 : B5 + 1 + 1 < W.heap.size := (Array.getElem?_eq_some_iff.1 HI.out.box6).1
      have hgq : gq ≠ B5 + 1 + 1 := by
        rintro rfl
        obtain ⟨cc, hc⟩ := HI.out.row.type
        have := HI.out.box6
        rw [hc] at this
        injection this with this
        injection this with _ this _
        simp [TI] at this
      have cA5 : Wa.cell? ⟨B5, 0, none⟩ = some (.slice (some ⟨G, 0, none⟩) N N) := box_cell ((hA _ (by omega)).trans HI.out.box5)
      have hzA : ZsAt w.heap.size G N (ftab N f) Wa := by
        refine World.ownsRow.kept HI.out.zs (row := some (B5 + 1 + 1)) ?_ (.inr (by simp [Value.ownBlock]; omega))
        rw [← hWa]
        exact grownBy_setCell' _ _ _
      have cA8 := hzA.cell hxN (tabN_get _ hxN)
      rw [hcf] at cA8
      have hgb : Wb.heap[w.heap.size]? = some (.cells #[.int .i64 (N : Int), .slice ad es.length cap] 52 (0, 0)) := (hB _ (Array.getElem?_eq_some_iff.1 HI.out.gbox).1).trans ((hA _ (by omega)).trans HI.out.gbox)
      obtain ⟨e1, e2⟩ := box2_cell hgb
      gi_wp2_with (refine ⟨trivial, ?_⟩; gi_at_call 52; refine (callsIn_wide.2 (successors_any N x ad es.length cap _)).mono ?_; rintro e w' ⟨rfl, rfl⟩)
      obtain ⟨w5, hw5, s5, gb, xb, gr⟩ := succ_boxes N x ad es.length cap Wb
      rw [← hw5]
      rw [sB] at s5 gb xb
      clear hw5
      have hb5 : Below Wb.heap.size Wb w5 := (Below.refl _ _).grown gr (Nat.le_refl _) (fun r e => by cases e)
      have hWw : w.heap.size ≤ W.heap.size := HI.out.below.size
      have h5 : ∀ k, k < W.heap.size → k ≠ B5 + 1 + 1 → w5.heap[k]? = W.heap[k]? := fun k hk hne => (hb5.block k (by omega)).trans ((hB k hk).trans (hA k hne))
      have hltG' : G < W.heap.size := (World.ownsRow.lt HI.out.zs G rfl).2
      have hb8 : Wb.heap[W.heap.size]? = some (.cells #[.int .i64 ((c : Int) + 1)] 3 (0, 0)) := by rw [← hWb, ← sA]; exact World.alloc_heap_new Wa _
      have hbox6 : Wa.heap[B5 + 1 + 1]? = some (.cells #[.slice (some ⟨gq, oq', none⟩) r.length cq'] 28 (0, 0)) := by rw [← hWa]; exact Boxed.set _ HI.out.box6
      have hkW5 : Keeps W w5 := by
        have k1 : Keeps W Wa := by rw [← hWa]; exact Keeps.row (grownBy_setCell' W (B5 + 1 + 1) _) (fun r e => by cases e; exact ⟨_, _, _, HI.out.box6⟩)
        have k2 : Keeps Wa Wb := by rw [← hWb]; exact Keeps.grown (World.grownBy_alloc Wa _ none)
        exact (k1.trans k2).trans (Keeps.grown gr)
      have hbW5 : Below w.heap.size W w5 := by
        have k1 : Below w.heap.size W Wa := by rw [← hWa]; exact (Below.refl _ W).setCell (by simp; omega) _
        have k2 : Below w.heap.size Wa Wb := by rw [← hWb]; exact (Below.refl _ Wa).alloc (by omega) _
        exact (k1.trans k2).trans (hb5.mono (by omega))
      have HKW := Lib.hid hkW5
      have HBW := Lib.hid hbW5
      have HJ : Hid (DistJ N G B5 (B5 + 1 + 1) W.heap.size (W.heap.size + 1 + 1) ad es.length cap (gN es) s x c (m - 1) w w5 [] r f gq oq' cq' w5) := Lib.hid {
        num := by omega
        bnd := HI.out.bnd
        bndc := hcN
        inv := HJ0.out
        gbox := (hb5.block _ (by omega)).trans hgb
        box5 := (h5 _ (Array.getElem?_eq_some_iff.1 HI.out.box5).1 (by omega)).trans HI.out.box5
        box6 := (hb5.block _ (by omega)).trans ((hB _ lt6).trans hbox6)
        box8 := (hb5.block _ (by omega)).trans hb8
        boxx := xb
        zs := own_far (B0 := 0) (own_below hzA (show Below W.heap.size Wa Wb by rw [← hWb]; exact (Below.refl _ Wa).alloc (by omega) _) hltG') gr (fun r e => by cases e)
        row := hrow.block (h5 _ HI.out.row.lt hgq)
        ne := HI.out.ne
        ne8 := by have := HI.out.row.lt; omega
        nex := by have := HI.out.row.lt; omega
        base := HI.out.base
        keeps := Keeps.refl _
        below := Below.refl _ _ }
      have hw5W : w.heap.size ≤ w5.heap.size := by omega
      have hnW : n₀ ≤ W.heap.size := Nat.le_trans hn₀ hWw
      clear c5 c6 f6 c7 c8 cA5 cA8 e1 e2 hgb hzA hrow hsl hb8 hbox6 hkW5 hbW5 hj h5 hA hB hWa hWb d1 hx0
      refine wpIn_rangeFunc_ownF (w0 := w5) rfl (by omega) (gf := 65) (lb := #[.pointer (some ⟨W.heap.size + 1, 0, none⟩), .pointer (some ⟨W.heap.size + 1 + 1, 0, none⟩)]) rfl trivial (enters_of Try.func65 (by kernel_rfl) rfl)
        (succ_stops (9 - 1) (by omega) n₀ (W.heap.size + 1) (W.heap.size + 1 + 1) N x ad cap es hl hcap HOK.out HS.out w5 gb xb ((HE.out.below (HI.out.below.mono hn₀)).below (HBW.out.mono hn₀)) (by omega))
        (fun h k => ⟨h.1.trans k.1, k.2.trans h.2⟩) (fun W' l o o' hl h h1 h2 => ⟨belowK_b (w := w5) (by omega) W' l o o' hl h h1 h2, World.putObj_heap_other (by omega)⟩) (Below.refl _ _) (fun _ => rfl)
        (fun pre W6 => ∃ (q : List Nat) (f : Nat → Nat) (gq oq cq : Nat), DistJ N G B5 (B5 + 1 + 1) W.heap.size (W.heap.size + 1 + 1) ad es.length cap (gN es) s x c (m - 1) w w5 (valsS pre) q f gq oq cq W6)
        (fun _ _ _ => False)
        (fun t A A' row hs hg hr => by
          obtain ⟨q, f, gq, oq, cq, h⟩ := hs
          exact ⟨q, f, gq, oq, cq, h.far hw5W hg hr⟩)
        (fun _ _ _ _ _ hs _ _ => hs)
        ⟨r, f, gq, oq', cq', HJ.out⟩
        (fun y => { tmps := #[gV N ad es.length cap, .int .i64 (s : Int), .pointer (some ⟨w.heap.size, 0, none⟩), undef, .slice none 0 0, .pointer (some ⟨B5, 0, none⟩), .pointer (some ⟨B5 + 1 + 1, 0, none⟩), .int .i64 (x : Int), .pointer (some ⟨W.heap.size, 0, none⟩), .int .i64 (y.1 : Int), .pointer (some ⟨w.heap.size, 0, none⟩), .int .i64 (N : Int), .slice (some ⟨G, 0, none⟩) N N, .int .i64 (s : Int), .slice (some ⟨B5 + 1, 0, none⟩) 1 1, .slice (some ⟨gq, oq, none⟩) (r.length + 1) cq, .int .i64 ((r.length : Int) + 1), .bool true, .slice (some ⟨gq, oq, none⟩) (r.length + 1) cq, .pointer (some ⟨gq, oq, none⟩), .int .i64 (x : Int), .slice (some ⟨gq, oq, none⟩) (r.length + 1) cq, .slice (some ⟨gq, oq', none⟩) r.length cq', .slice (some ⟨G, 0, none⟩) N N, .int .i64 (x : Int), .pointer (some ⟨G, x, none⟩), .int .i64 (c : Int), .int .i64 ((c : Int) + 1), gV N ad es.length cap, .int .i64 (x : Int), .func (.func 65) #[] #[.pointer (some ⟨W.heap.size + 1, 0, none⟩), .pointer (some ⟨W.heap.size + 1 + 1, 0, none⟩)], .int .i64 (y.1 : Int), x32, x33, x34, x35, x36, x37, x38, x39, x40, x41, x42, x43, x44, undef], defers := [] }) ?assign ?body ?done ?stop
      case assign =>
        intro l x W K hK
        gi_wp2
        exact hK
      case body =>
        rintro lp pre ys W6 ⟨q, f, gq, oq, cq, hD⟩ hlen
        obtain ⟨y, hy, hmem⟩ := ys
        have t5 := box_cell hD.box5
        have t1 := hD.zs.cell hy (tabN_get _ hy)
        have y1 : (y : Int) < (N : Int) := by omega
        by_cases hfy : f y = 0
        · have hyb : ((f y : Int) == 0) = true := by rw [hfy]; rfl
          obtain ⟨fy, hfyy⟩ : ∃ z : Int, (f y : Int) = z := ⟨_, rfl⟩
          rw [hfyy] at t1 hyb
          have hD' := Lib.hid hD
          have HFY := Lib.hid hfy
          have t2 := hD.zs.free y
          have t8 := box_cell hD.box8
          have hlt6 : B5 + 1 + 1 < W6.heap.size := (Array.getElem?_eq_some_iff.1 hD.box6).1
          have hltg : gq < W6.heap.size := hD.row.lt
          have hgq6 : gq ≠ B5 + 1 + 1 := by
            rintro rfl
            obtain ⟨cc, hc⟩ := hD.row.type
            have := hD.box6
            rw [hc] at this
            injection this with this
            injection this with _ this _
            simp [TI] at this
          have hql : q.length ≤ 1000 := by have := hD.num; omega
          obtain ⟨W7, hW7⟩ : ∃ W7, W6.setCell ⟨G, y, none⟩ (.int .i64 ((c : Int) + 1)) = W7 := ⟨_, rfl⟩
          have s7 : W7.heap.size = W6.heap.size := by rw [← hW7]; simp [World.setCell]
          have g7 : W6.grownBy W7 (some G) := by rw [← hW7]; exact (World.ownsRow.stored hD.zs y _).2
          obtain ⟨W8, hW8⟩ : ∃ W8, W7.alloc (.cells #[.int .i64 (y : Int)] 3) = W8 := ⟨_, rfl⟩
          have s8 : W8.heap.size = W6.heap.size + 1 := by rw [← hW8]; simp [s7]
          have g8 : W7.grownBy W8 none := by rw [← hW8]; exact World.grownBy_alloc W7 _ none
          have t6 : W7.cell? ⟨B5 + 1 + 1, 0, none⟩ = some (.slice (some ⟨gq, oq, none⟩) q.length cq) := box_cell ((g7.block _ hlt6 (by simp; omega)).trans hD.box6)
          have hr8 : QRow gq oq cq q W8 := (hD.row.block (g7.block _ hltg (by simpa using hD.ne))).block (g8.block _ (by omega) (by simp))
          have hc8 : W8.cell? ⟨W6.heap.size, 0, none⟩ = some (.int .i64 (y : Int)) := by
            have : W8.heap[W7.heap.size]? = some (.cells #[.int .i64 (y : Int)] 3 (0, 0)) := by rw [← hW8]; exact World.alloc_heap_new W7 _
            rw [s7] at this
            exact box_cell this
          obtain ⟨g', o', c', W9, hrun, hq9, hgr⟩ := hr8.snoc ⟨W6.heap.size, 0, none⟩ hc8 hql
          have h89 : ∀ k, k < W8.heap.size → k ≠ gq → W9.heap[k]? = W8.heap[k]? := by
            intro k hk hne
            rcases hgr with ⟨_, h⟩ | ⟨_, h⟩
            · exact h.block k hk (by simpa using hne)
            · exact h.block k hk (by simp)
          have s9 : W8.heap.size ≤ W9.heap.size := by rcases hgr with ⟨_, h⟩ | ⟨_, h⟩ <;> exact h.size
          have b9 : W9.heap[B5 + 1 + 1]? = some (.cells #[.slice (some ⟨gq, oq, none⟩) q.length cq] 28 (0, 0)) := (h89 _ (by omega) (Ne.symm hgq6)).trans ((g8.block _ (by omega) (by simp)).trans ((g7.block _ hlt6 (by simp; omega)).trans hD.box6))
          have u6 := box_cell b9
          have v6 : W9.frozen? ⟨B5 + 1 + 1, 0, none⟩ = false := Lib.frozen_of_heap b9 0
          have HG' : Hid ((g' = gq ∧ W8.grownBy W9 (some gq)) ∨ (W8.heap.size ≤ g' ∧ W8.grownBy W9 none)) := Lib.hid hgr
          have HQ9 := Lib.hid hq9
          have HB9 := Lib.hid b9
          have HRUN := Lib.hid hrun
          clear hD hfy hfyy hr8 hc8 hq9 hgr b9 hrun
          gi_wp2_with (gi_at_builtin; refine wpListIn_append_run _ rfl _ _ 28 rfl _ _ _ _ rfl rfl HRUN.out ?_)
          have hD := hD'.out
          have g10 : W9.grownBy (W9.setCell ⟨B5 + 1 + 1, 0, none⟩ (.slice (some ⟨g', o', none⟩) (q.length + 1) c')) (some (B5 + 1 + 1)) := grownBy_setCell' W9 _ _
          obtain ⟨W10, hW10⟩ : ∃ W10, W9.setCell ⟨B5 + 1 + 1, 0, none⟩ (.slice (some ⟨g', o', none⟩) (q.length + 1) c') = W10 := ⟨_, rfl⟩
          rw [hW10] at g10 ⊢
          have hk10 : ∀ k, k < W6.heap.size → k ≠ G → k ≠ gq → k ≠ B5 + 1 + 1 → W10.heap[k]? = W6.heap[k]? := fun k hk h1 h2 h3 =>
            (g10.block k (by omega) (by simpa using h3)).trans ((h89 k (by omega) h2).trans ((g8.block k (by omega) (by simp)).trans (g7.block k hk (by simpa using h1))))
          have hg' : g' = gq ∨ W8.heap.size ≤ g' := HG'.out.elim (fun h => .inl h.1) (fun h => .inr h.1)
          have g9 : W8.grownBy W9 (some gq) := by
            rcases HG'.out with ⟨_, h⟩ | ⟨_, h⟩
            · exact h
            · exact grown_weak h _
          have hz8 : ZsAt w.heap.size G N (ftab N (setF f y (c + 1))) W8 := by
            have h := hD.zs.store y ((c : Int) + 1)
            rw [hW7, tabN_set (g := fun j => (setF f y (c + 1) j : Int)) (by simp [setF]) (fun j hj => by simp [setF, hj])] at h
            exact World.ownsRow.kept h g8 (.inr (by simp [Value.ownBlock]))
          have hz10 : ZsAt w.heap.size G N (ftab N (setF f y (c + 1))) W10 := by
            have h := World.ownsRow.kept hz8 g9 (.inr (by simp [Value.ownBlock]; exact Ne.symm hD.ne))
            exact World.ownsRow.kept h g10 (.inr (by simp [Value.ownBlock]; omega))
          have hcellT : ∃ cc, W8.heap[gq]? = some (.cells cc TI (0, 0)) := by
            obtain ⟨cc, hc⟩ := hD.row.type
            exact ⟨cc, (g8.block _ (by omega) (by simp)).trans ((g7.block _ hltg (by simpa using hD.ne)).trans hc)⟩
          have hkp : Keeps W6 W10 := by
            have k1 : Keeps W6 W7 := Keeps.row g7 (fun r e => by cases e; obtain ⟨cc, hc⟩ := own_type hD.zs; exact ⟨_, _, _, hc⟩)
            have k3 : Keeps W8 W9 := Keeps.row g9 (fun r e => by cases e; obtain ⟨cc, hc⟩ := hcellT; exact ⟨_, _, _, hc⟩)
            have k4 : Keeps W9 W10 := Keeps.row g10 (fun r e => by cases e; exact ⟨_, _, _, HB9.out⟩)
            exact ((k1.trans (Keeps.grown g8)).trans k3).trans k4
          have hW6w : w.heap.size ≤ W6.heap.size := Nat.le_trans hw5W hD.below.size
          have hbl : Below w.heap.size W6 W10 := by
            have k1 := (Below.refl w.heap.size W6).grown g7 hW6w (fun k e => by cases e; omega)
            have k2 := k1.grown g8 (by omega) (fun k e => by cases e)
            have k3 := k2.grown g9 (by omega) (fun k e => by cases e; exact hD.base)
            exact k3.grown g10 (by omega) (fun k e => by cases e; omega)
          have hzf := zerosF_set (k := c + 1) hy HFY.out (by omega)
          refine ⟨⟨hbl.size, hkp⟩, ⟨hbl.mono hn₀, hk10 _ (Array.getElem?_eq_some_iff.1 hD.boxx).1 (by omega) (Ne.symm hD.nex) (by omega)⟩, q ++ [y], setF f y (c + 1), g', o', c', ?_⟩
          exact {
            num := by have := hD.num; simp; omega
            bnd := fun v => by
              by_cases e : v = y
              · subst e; rw [setF_same]; have := hD.bndc; omega
              · rw [setF_ne e]; have := hD.bnd v; omega
            bndc := by have := hD.bndc; omega
            inv := by rw [valsS_snoc]; exact hD.inv.push hmem HFY.out hy
            gbox := (hk10 _ (Array.getElem?_eq_some_iff.1 hD.gbox).1 (by omega) (fun e => by
              obtain ⟨cc, hc⟩ := hD.row.type
              have h2 := hD.gbox
              rw [e, hc] at h2
              injection h2 with h2
              injection h2 with _ h2 _
              simp [TI] at h2) (by omega)).trans hD.gbox
            box5 := (hk10 _ (Array.getElem?_eq_some_iff.1 hD.box5).1 (by omega) (fun e => by
              obtain ⟨cc, hc⟩ := hD.row.type
              have h2 := hD.box5
              rw [e, hc] at h2
              injection h2 with h2
              injection h2 with _ h2 _
              simp [TI] at h2) (by omega)).trans hD.box5
            box6 := by
              have h : W10.heap[B5 + 1 + 1]? = some (.cells #[.slice (some ⟨g', o', none⟩) (q.length + 1) c'] 28 (0, 0)) := by rw [← hW10]; exact Boxed.set _ HB9.out
              rw [List.length_append]
              exact h
            box8 := (hk10 _ (Array.getElem?_eq_some_iff.1 hD.box8).1 (by omega) (Ne.symm hD.ne8) (by omega)).trans hD.box8
            boxx := (hk10 _ (Array.getElem?_eq_some_iff.1 hD.boxx).1 (by omega) (Ne.symm hD.nex) (by omega)).trans hD.boxx
            zs := hz10
            row := HQ9.out.block (g10.block _ HQ9.out.lt (by simp; omega))
            ne := by have := hD.ne; omega
            ne8 := by have := hD.ne8; have := (Array.getElem?_eq_some_iff.1 hD.box8).1; omega
            nex := by have := hD.nex; have := (Array.getElem?_eq_some_iff.1 hD.boxx).1; omega
            base := by have := hD.base; omega
            keeps := hD.keeps.trans hkp
            below := hD.below.trans hbl }
        · have hyb : ((f y : Int) == 0) = false := by rw [beq_eq_false_iff_ne]; omega
          obtain ⟨fy, hfyy⟩ : ∃ z : Int, (f y : Int) = z := ⟨_, rfl⟩
          rw [hfyy] at t1 hyb
          have hD' := Lib.hid hD
          have HFY := Lib.hid hfy
          clear hD hfy hfyy
          gi_wp2
          have hD := hD'.out
          exact ⟨KeepsOthers.refl _, ⟨Below.refl _ _, rfl⟩, q, f, gq, oq, cq, ⟨hD.num, hD.bnd, hD.bndc, by rw [valsS_snoc]; exact hD.inv.skip (Nat.pos_of_ne_zero HFY.out), hD.gbox, hD.box5, hD.box6, hD.box8, hD.boxx, hD.zs, hD.row, hD.ne, hD.ne8, hD.nex, hD.base, hD.keeps, hD.below⟩⟩
      case done =>
        rintro D xs W6 hD hx ⟨q, f, gq, oq, cq, hJ⟩ hK6
        have HN : Hid (DistI N G B5 (B5 + 1 + 1) ad es.length cap (gN es) s w (2 * zerosF N f + q.length) q f gq oq cq ({ target := .collected D, args := #[] } :: ds) W6) := Lib.hid {
          num := rfl
          le := by have := hJ.num; omega
          bnd := hJ.bnd
          inv := hJ.inv.finish (fun y hy => by rw [hx]; exact mem_succN.2 hy)
          defs := HI.out.defs.cons (HKW.out.trans hJ.keeps) (Nat.le_trans HBW.out.size hD) (by omega) hK6
          gbox := hJ.gbox
          box5 := hJ.box5
          box6 := hJ.box6
          zs := hJ.zs
          row := hJ.row
          ne := hJ.ne
          base := hJ.base
          below := HI.out.below.trans (HBW.out.trans hJ.below) }
        have HLT : Hid (2 * zerosF N f + q.length < m) := Lib.hid (by have := hJ.num; omega)
        clear hJ hK6
        gi_wp2
        exact HK.out _ _ _ HLT.out ⟨_, _, _, _, _, _, _, _, _, _, _, _, _, _, _, _, _, _, _, _, _, _, _, _, _, _, _, _, _, _, _, _, _, _, _, _, _, _, _, rfl, HN.out⟩
      case stop =>
        rintro D c pre W _ _ hf _
        exact hf.elim

end Go.Proofs.Ytcggmonnajggcaa
