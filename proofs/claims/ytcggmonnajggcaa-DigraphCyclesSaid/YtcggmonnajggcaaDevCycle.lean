/-
  What the program's shortestCycle and Cycle of digraph return.
-/
import Derived.Test.YtcggmonnajggcaaDevRowsI
import Derived.Test.YtcggmonnajggcaaCycPlain
namespace Go.Proofs.Ytcggmonnajggcaa
open Go.RowKit Go.Shelf
attribute [local go_sem] Oper.semAt_some

/-- What the search for the shortest cycle keeps. -/
structure CycI (N B3 B5 : Nat) (ad : Option Addr) (len cap : Nat) (w w1 : World) (vr : Value) (st : Nat) (W : World) : Prop where
  gbox : W.heap[w.heap.size]? = some (.cells #[.int .i64 (N : Int), .slice ad len cap] 52 (0, 0))
  box3 : W.heap[B3]? = some (.cells #[vr] 31 (0, 0))
  box5 : W.heap[B5]? = some (.cells #[.int .i64 (st : Int)] 3 (0, 0))
  below : Below w1.heap.size w1 W
/-- A cell of the rows that were there in an earlier world. -/
theorem RowsAt.at {B N : Nat} {f : Nat → Nat → Nat} {v : Value} {w W : World} (h : RowsAt B TL TI N (fun i => zV (ftab N (f i))) N v w) (hb : Below w.heap.size w W) {i : Nat} (hi : i < N) :
    ∃ g c G, v = .slice (some ⟨g, 0, none⟩) N c ∧ W.cell? ⟨g, i, none⟩ = some (.slice (some ⟨G, 0, none⟩) N N) ∧ ∀ j, j < N → W.cell? ⟨G, j, none⟩ = some (.int .i64 (f i j : Int)) := by
  obtain ⟨g, c, G, e, h1, h2⟩ := h.row hi
  have hz : ZsAt B G N (ftab N (f i)) w := h2
  exact ⟨g, c, G, e, (hb.cell (p := ⟨g, i, none⟩) (World.block_lt_of_cell? _ _ h1)).trans h1, fun j hj => (hb.cell (p := ⟨G, j, none⟩) (World.ownsRow.lt h2 G rfl).2).trans (hz.cell hj (tabN_get _ hj))⟩

/-- What holds at the head of the loop that gathers the cycle. -/
structure CycJ (N B3 B8 B10 : Nat) (ad : Option Addr) (len cap : Nat) (g : List (Nat × Nat)) (w w1 : World) (vr : Value) (st : Nat) (L : List Nat) (left x : Nat) (c : List Nat) (v9 : Value) (ds : List Deferred) (W : World) : Prop where
  base : CycI N B3 (B3 + 1) ad len cap w w1 vr st W
  box8 : W.heap[B8]? = some (.cells #[.int .i64 (x : Int)] 3 (0, 0))
  box10 : W.heap[B10]? = some (.cells #[.int .i64 (left : Int)] 3 (0, 0))
  whole : c ++ walkC g st left x = L
  own : OwnN B3 c v9 W
  ne5 : v9.ownBlock ≠ some (B3 + 1)
  ne8 : v9.ownBlock ≠ some B8
  ne10 : v9.ownBlock ≠ some B10
  hB8 : B3 + 1 < B8
  hB10 : B8 ≠ B10
  h10 : B3 + 1 < B10
  defs : DefsOk w.heap.size ds W
  lt : x < N
  pos : 0 < c.length
  few : c.length + left ≤ 400
theorem box_ne {w : World} {B k n : Nat} {v u : Value} {t : TypeId} {fz : Nat × Nat} {xs : List Value} (h : w.ownsRow B TI 1 v n xs) (hn : 2 ≤ n) (hb : w.heap[k]? = some (.cells #[u] t fz)) : v.ownBlock ≠ some k := by
  intro e
  rcases h.2 with ⟨rfl, _⟩ | ⟨g, cap, cur, rfl, _, hg, h1, _, h2, _⟩
  · simp [Value.ownBlock] at e
  · simp [Value.ownBlock] at e
    subst e
    rw [hb] at hg
    cases hg
    simp at h2
    omega

set_option maxRecDepth 100000 in
set_option maxHeartbeats 8000000 in
theorem devShort_walk (n₀ N : Nat) (ad : Option Addr) (cap : Nat) (es : List (Int × Int)) (w : World) (hl : es.length ≤ 2000) (hcap : es.length ≤ cap) (hok : OkE N es) (hs : SrtN (gN es)) (hN : N ≤ 200) (hE : EdgesA n₀ w ad es) (hn₀ : n₀ ≤ w.heap.size) (L : List Nat) (hL : cycD N (gN es) = L) :
    Calls Try.prog 50 #[gV N ad es.length cap] w fun e w' => ∃ v, e = .returned v ∧ OwnN w.heap.size L v w' ∧ Below w.heap.size w w' := by
  obtain ⟨i1, ji, jz0, jz1, jz2⟩ := info_parts infoI
  have HOK := Lib.hid hok
  have HS := Lib.hid hs
  have HL := Lib.hid hL
  obtain ⟨w0, hw0⟩ : ∃ w0, w.alloc (.cells #[.int .i64 (N : Int), .slice ad es.length cap] 52) = w0 := ⟨_, rfl⟩
  have s0 : w0.heap.size = w.heap.size + 1 := by rw [← hw0]; simp
  have b0 : Below w.heap.size w w0 := by rw [← hw0]; exact (Below.refl _ w).alloc (Nat.le_refl _) _
  have g0 : w0.heap[w.heap.size]? = some (.cells #[.int .i64 (N : Int), .slice ad es.length cap] 52 (0, 0)) := by rw [← hw0]; exact World.alloc_heap_new w _
  obtain ⟨gc0, gc1⟩ := box2_cell g0
  have HE := Lib.hid hE
  have HD := Lib.hid (eachDist_any n₀ N ad cap es w0 hl hcap hok hs hN (hE.below (b0.mono hn₀)) (by omega))
  have HG0 := Lib.hid g0
  have B0 := Lib.hid b0
  clear hok hs hL hE b0 g0
  refine (callsIn_wide (n := 9)).1 ?_
  refine callsIn_of_wp_marks Try.func50 rfl trivial ?_ rfl
  simp only [Try.ntmps50, List.size_toArray, List.length_cons, List.length_nil, Nat.reduceAdd, Nat.reduceSub, Array.replicate_succ, Array.replicate_zero, List.push_toArray, List.append_toArray, List.nil_append, List.cons_append]
  gi_wp2_with fail
  refine ⟨trivial, ?_⟩
  refine (callsIn_wide.2 HD.out).mono ?_
  rintro e w1 ⟨v1, rfl, hr1, b1⟩
  obtain ⟨aa, ca, rfl⟩ := hr1.slice
  have b1' : Below w.heap.size w w1 := B0.out.trans (b1.mono B0.out.size)
  obtain ⟨W1, hW1⟩ : ∃ W1, w1.alloc (.cells #[.slice aa N ca] 31) = W1 := ⟨_, rfl⟩
  obtain ⟨W2, hW2⟩ : ∃ W2, W1.alloc (.cells #[.int .i64 0] 3) = W2 := ⟨_, rfl⟩
  have t1 : W1.heap.size = w1.heap.size + 1 := by rw [← hW1]; simp
  have t2 : W2.heap.size = w1.heap.size + 1 + 1 := by rw [← hW2]; simp [t1]
  have h12 : Below W1.heap.size W1 W2 := by rw [← hW2]; exact (Below.refl _ _).alloc (Nat.le_refl _) _
  have h01 : Below w1.heap.size w1 W1 := by rw [← hW1]; exact (Below.refl _ _).alloc (Nat.le_refl _) _
  have hlt0 : w.heap.size < w1.heap.size := by have := b1.size; omega
  have HI0 : Hid (CycI N w1.heap.size (w1.heap.size + 1) ad es.length cap w w1 (.slice aa N ca) (bst (gN es) 0).2 W2) := Lib.hid {
    gbox := (h12.block _ (by omega)).trans ((h01.block _ hlt0).trans ((b1.block _ (by omega)).trans HG0.out))
    box3 := (h12.block _ (by omega)).trans (by rw [← hW1]; exact World.alloc_heap_new w1 _)
    box5 := by rw [← hW2, ← t1]; exact World.alloc_heap_new W1 _
    below := h01.trans (h12.mono (by omega)) }
  have HR1 := Lib.hid hr1
  have BW1 := Lib.hid b1'
  obtain ⟨q0, q1⟩ := box2_cell HI0.out.gbox
  rw [← hW2] at q0 q1
  have HW2 := Lib.hid hW2
  clear hr1 b1 b1' h12 h01 HG0 B0 HD hW2
  gi_wp2_with fail
  rw [HW2.out]
  obtain ⟨B3, hB3⟩ : ∃ B3, w1.heap.size = B3 := ⟨_, rfl⟩
  have HB3 := Lib.hid hB3
  rw [hB3] at HI0 hlt0 t1 t2 ⊢
  clear gc0 gc1 q0 q1 hW1 HW2 hw0 t1 t2 hB3
  gi_loopw [4, 19] (fun ln i wr => ∃ k : Nat, k ≤ N ∧ i = .int .i64 k ∧ ln = .int .i64 ((bst (gN es) k).1 : Int) ∧ Hid (CycI N B3 (B3 + 1) ad es.length cap w w1 (.slice aa N ca) (bst (gN es) k).2 wr)) (fun _ i _ => N - (intOf i).toNat)
  case atStart => exact ⟨0, Nat.zero_le _, rfl, rfl, HI0⟩
  case round =>
    obtain ⟨k, hk, rfl, rfl, HI⟩ := hrel
    obtain ⟨la, hla⟩ : ∃ la, bst (gN es) k = la := ⟨_, rfl⟩
    rw [hla] at HI ⊢
    obtain ⟨a, st⟩ := la
    simp only [] at HI ⊢
    have HLA := Lib.hid hla
    clear hla
    by_cases hlt : k < N
    · have c3 := box_cell HI.out.box3
      have c5 := box_cell HI.out.box5
      have f5 : wr.frozen? ⟨B3 + 1, 0, none⟩ = false := Lib.frozen_of_heap HI.out.box5 0
      obtain ⟨gr, cr, Gk, e1, h1, m1⟩ := RowsAt.at (f := dstN (gN es)) HR1.out HI.out.below hlt
      have c4 := m1 k hlt
      injection e1 with e1 _ e3
      subst e1
      subst e3
      have k1 : (k : Int) < (N : Int) := by omega
      obtain ⟨d, hd⟩ : ∃ d, dstN (gN es) k k = d := ⟨_, rfl⟩
      rw [hd] at c4
      have HB := Lib.hid (bst_succ (gN es) k)
      have hD := Lib.hid hd
      have hb3 := HB3.out
      have hst : ∀ z : Nat, CycI N B3 (B3 + 1) ad es.length cap w w1 (.slice (some ⟨gr, 0, none⟩) N ca) z (wr.setCell ⟨B3 + 1, 0, none⟩ (.int .i64 (z : Int))) := fun z => {
        gbox := (Below.heap_setCell _ _ _ _ (by simp; omega)).trans HI.out.gbox
        box3 := (Below.heap_setCell _ _ _ _ (by simp)).trans HI.out.box3
        box5 := Boxed.set _ HI.out.box5
        below := HI.out.below.setCell (by simp; omega) _ }
      have HST := Lib.hid (hst k)
      clear m1 hd hst hb3
      by_cases h1' : 0 < d
      · have d1 : decide ((0 : Int) < (d : Int)) = true := by simp; omega
        have d1' : decide (0 < d) = true := by simpa using h1'
        by_cases h2 : a = 0
        · have d2 : ((a : Int) == 0) = true := by rw [h2]; rfl
          have HN : Hid (bst (gN es) (k + 1) = (d, k)) := Lib.hid (by rw [HB.out, HLA.out]; unfold bst1; rw [hD.out, if_pos ⟨h1', .inl h2⟩])
          clear h1' h2
          gi_wp2
          go_roundw
          case rel => exact ⟨k + 1, by omega, by go_num, by rw [HN.out], by rw [HN.out]; exact HST⟩
          case measure => simp [intOf]; omega
        · have d2 : ((a : Int) == 0) = false := by rw [beq_eq_false_iff_ne]; omega
          by_cases h3 : d < a
          · have d3 : decide ((d : Int) < (a : Int)) = true := by simp; omega
            have d3' : decide (d < a) = true := by simpa using h3
            have HN : Hid (bst (gN es) (k + 1) = (d, k)) := Lib.hid (by rw [HB.out, HLA.out]; unfold bst1; rw [hD.out, if_pos ⟨h1', .inr h3⟩])
            clear h1' h2 h3
            gi_wp2
            go_roundw
            case rel => exact ⟨k + 1, by omega, by go_num, by rw [HN.out], by rw [HN.out]; exact HST⟩
            case measure => simp [intOf]; omega
          · have d3 : decide ((d : Int) < (a : Int)) = false := by simp; omega
            have d3' : decide (d < a) = false := by simpa using h3
            have HN : Hid (bst (gN es) (k + 1) = (a, st)) := Lib.hid (by rw [HB.out, HLA.out]; unfold bst1; rw [hD.out, if_neg (fun h => h.2.elim h2 h3)])
            clear h1' h2 h3
            gi_wp2
            go_roundw
            case rel => exact ⟨k + 1, by omega, by go_num, by rw [HN.out], by rw [HN.out]; exact HI⟩
            case measure => simp [intOf]; omega
      · have d1 : decide ((0 : Int) < (d : Int)) = false := by simp; omega
        have d1' : decide (0 < d) = false := by simpa using h1'
        have HN : Hid (bst (gN es) (k + 1) = (a, st)) := Lib.hid (by rw [HB.out, HLA.out]; unfold bst1; rw [hD.out, if_neg (fun h => h1' h.1)])
        clear h1'
        gi_wp2
        go_roundw
        case rel => exact ⟨k + 1, by omega, by go_num, by rw [HN.out], by rw [HN.out]; exact HI⟩
        case measure => simp [intOf]; omega
    · obtain rfl : k = N := by omega
      have c5 := box_cell HI.out.box5
      by_cases ha : a = 0
      · have HL0 : Hid (L = []) := Lib.hid (by rw [← HL.out]; unfold cycD; rw [HLA.out]; exact if_pos ha)
        have d1 : ((a : Int) == 0) = true := by rw [ha]; rfl
        clear ha
        gi_wp2
        refine ⟨_, results_tmp rfl _ _ _, _, rfl, ?_, ?_⟩
        · rw [HL0.out]
          exact OwnN.nil _ _
        · exact BW1.out.trans (HI.out.below.mono BW1.out.size)
      · have HL0 : Hid (L = st :: walkC (gN es) st (a - 1) st) := Lib.hid (by rw [← HL.out]; unfold cycD; rw [HLA.out]; exact if_neg ha)
        have d1 : ((a : Int) == 0) = false := by rw [beq_eq_false_iff_ne]; omega
        have hl5 : B3 + 1 < wr.heap.size := (Array.getElem?_eq_some_iff.1 HI.out.box5).1
        have ha1 : ∀ o, (wr.alloc o).cell? ⟨B3 + 1, 0, none⟩ = some (.int .i64 (st : Int)) := fun o => box_cell ((Below.heap_alloc _ _ _ hl5).trans HI.out.box5)
        have ha2 : ∀ o o', ((wr.alloc o).alloc o').cell? ⟨B3 + 1, 0, none⟩ = some (.int .i64 (st : Int)) := fun o o' => box_cell ((Below.heap_alloc _ _ _ (by simp; omega)).trans ((Below.heap_alloc _ _ _ hl5).trans HI.out.box5))
        gi_wp2_with fail
        gi_region
        all_goals
          have hle := dstN_le (N := k) (g := gN es) (fun e he => by
            obtain ⟨y, hy, rfl⟩ := List.mem_map.1 he
            have := HOK.out y hy
            simp only []
            omega) st st
          have hdl : dstN (gN es) st st = a ∧ st < k := by
            have := bst_spec (gN es) k
            rw [HLA.out] at this
            rcases this with ⟨h, _⟩ | ⟨h1, _, h2, _⟩
            · exact absurd h ha
            · exact ⟨h2, h1⟩
          rw [hdl.1] at hle
          have hst := hdl.2
          clear hdl
          have ea : ((a : Int) - 1) = ((a - 1 : Nat) : Int) := by omega
          obtain ⟨W3, hW3⟩ : ∃ W3, (((wr.alloc (.cells #[.int .i64 (st : Int)] 3)).alloc (.cells #[.int .i64 (st : Int)] 3)).alloc (.cells #[.int .i64 ((a : Int) - 1)] 3)).drew = W3 := ⟨_, rfl⟩
          have f0 : W3.heap[wr.heap.size]? = some (.cells #[.int .i64 (st : Int)] 3 (0, 0)) := by
            rw [← hW3]
            show (((wr.alloc _).alloc _).alloc _).heap[wr.heap.size]? = _
            rw [Below.heap_alloc _ _ _ (by simp; omega), Below.heap_alloc _ _ _ (by simp)]
            exact World.alloc_heap_new wr _
          have f1 : W3.heap[wr.heap.size + 1]? = some (.cells #[.int .i64 (st : Int)] 3 (0, 0)) := by
            rw [← hW3]
            show (((wr.alloc _).alloc _).alloc _).heap[wr.heap.size + 1]? = _
            rw [Below.heap_alloc _ _ _ (by simp)]
            have := World.alloc_heap_new (wr.alloc (.cells #[.int .i64 (st : Int)] 3)) (.cells #[.int .i64 (st : Int)] 3)
            rwa [World.size_alloc] at this
          have f2 : W3.heap[wr.heap.size + 1 + 1]? = some (.cells #[.int .i64 ((a - 1 : Nat) : Int)] 3 (0, 0)) := by
            rw [← hW3]
            show (((wr.alloc _).alloc _).alloc _).heap[wr.heap.size + 1 + 1]? = _
            have := World.alloc_heap_new ((wr.alloc (.cells #[.int .i64 (st : Int)] 3)).alloc (.cells #[.int .i64 (st : Int)] 3)) (.cells #[.int .i64 ((a : Int) - 1)] 3)
            rw [World.size_alloc, World.size_alloc, ea] at this
            rw [ea]
            exact this
          have fb : Below wr.heap.size wr W3 := by
            rw [← hW3]
            exact ((((Below.refl _ wr).alloc (Nat.le_refl _) _).alloc (by simp) _).alloc (by simp; omega) _).drew
          have hB3' := HB3.out
          have hrow : ∀ r, wr.heap.size ≤ r → W3.heap[r]? = some (.cells #[.int .i64 (st : Int)] 3 (0, 0)) → OwnN B3 [st] (.slice (some ⟨r, 0, none⟩) 1 1) W3 := fun r hr hc => ⟨rfl, .inr ⟨r, 1, _, rfl, by omega, hc, by simp, by decide, rfl, rfl⟩⟩
          have hcb : CycI k B3 (B3 + 1) ad es.length cap w w1 (.slice aa k ca) st W3 := {
            gbox := (fb.block _ (Array.getElem?_eq_some_iff.1 HI.out.gbox).1).trans HI.out.gbox
            box3 := (fb.block _ (Array.getElem?_eq_some_iff.1 HI.out.box3).1).trans HI.out.box3
            box5 := (fb.block _ hl5).trans HI.out.box5
            below := HI.out.below.trans (fb.mono HI.out.below.size) }
          have hwh : [st] ++ walkC (gN es) st (a - 1) st = L := HL0.out.symm
          have HA : Hid (CycJ k B3 wr.heap.size (wr.heap.size + 1 + 1) ad es.length cap (gN es) w w1 (.slice aa k ca) st L (a - 1) st [st] (.slice (some ⟨wr.heap.size + 1, 0, none⟩) 1 1) [] W3) := Lib.hid {
            base := hcb, box8 := f0, box10 := f2, whole := hwh, own := hrow _ (by omega) f1, ne5 := by simp [Value.ownBlock]; omega, ne8 := by simp [Value.ownBlock], ne10 := by simp [Value.ownBlock], hB8 := hl5, hB10 := by omega, h10 := by omega, defs := DefsOk.nil _ _, lt := hst, pos := by simp, few := by simp; omega }
          have HA2 : Hid (CycJ k B3 (wr.heap.size + 1) (wr.heap.size + 1 + 1) ad es.length cap (gN es) w w1 (.slice aa k ca) st L (a - 1) st [st] (.slice (some ⟨wr.heap.size, 0, none⟩) 1 1) [] W3) := Lib.hid {
            base := hcb, box8 := f1, box10 := f2, whole := hwh, own := hrow _ (by omega) f0, ne5 := by simp [Value.ownBlock]; omega, ne8 := by simp [Value.ownBlock], ne10 := by simp [Value.ownBlock]; omega, hB8 := by omega, hB10 := by omega, h10 := by omega, defs := DefsOk.nil _ _, lt := hst, pos := by simp, few := by simp; omega }
          have HW3 := Lib.hid hW3
          clear f0 f1 f2 fb hrow hcb hwh hW3 hB3' ea
          gi_wp2_with fail
          rw [HW3.out]
          refine wpIn_loop_ghost (fun m a' W => ∃ (x : Nat) (c : List Nat) (B8 B10 : Nat) (v9 : Value) (ds : List Deferred) (x11 x47 x48 x49 x50 x51 x52 x53 x54 x55 x56 x57 x58 x59 x60 x61 x62 x63 x64 x65 x66 x67 x68 x69 x70 x71 x72 : Value), a' = { tmps := #[gV k ad es.length cap, .pointer (some ⟨w.heap.size, 0, none⟩), .slice none 0 0, .pointer (some ⟨B3, 0, none⟩), .int .i64 (a : Int), .pointer (some ⟨B3 + 1, 0, none⟩), u6, u7, .pointer (some ⟨B8, 0, none⟩), v9, .pointer (some ⟨B10, 0, none⟩), x11, .pointer (some ⟨w.heap.size, 0, none⟩), .int .i64 (k : Int), gV k ad es.length cap, .func (.func 62) #[gV k ad es.length cap] #[], .slice aa k ca, .pointer (some ⟨w.heap.size, 0, none⟩), .int .i64 (k : Int), .int .i64 (k : Int), .bool false, u21, u22, u23, u24, u25, u26, u27, u28, u29, u30, u31, u32, u33, u34, u35, u36, u37, u38, u39, u40, u41, u42, .int .i64 (a : Int), .bool false, .int .i64 (st : Int), .int .i64 (st : Int), x47, x48, x49, x50, x51, x52, x53, x54, x55, x56, x57, x58, x59, x60, x61, x62, x63, x64, x65, x66, x67, x68, x69, x70, x71, x72, undef], defers := ds } ∧ CycJ k B3 B8 B10 ad es.length cap (gN es) w w1 (.slice aa k ca) st L m x c v9 ds W) (a - 1) ?start ?round
          case start =>
            first
              | exact ⟨st, [st], _, _, _, _, _, _, _, _, _, _, _, _, _, _, _, _, _, _, _, _, _, _, _, _, _, _, _, _, _, _, _, rfl, HA.out⟩
              | exact ⟨st, [st], _, _, _, _, _, _, _, _, _, _, _, _, _, _, _, _, _, _, _, _, _, _, _, _, _, _, _, _, _, _, _, rfl, HA2.out⟩
          case round =>
            rintro m a' W ⟨x, c, B8, B10, v9, ds, x11, x47, x48, x49, x50, x51, x52, x53, x54, x55, x56, x57, x58, x59, x60, x61, x62, x63, x64, x65, x66, x67, x68, x69, x70, x71, x72, rfl, hI⟩ K hK
            dsimp only
            have HJ := Lib.hid hI
            have HK := Lib.hid hK
            clear hI hK
            have c10 := box_cell HJ.out.box10
            cases m with
            | zero =>
              have HN : Hid (c = L) := Lib.hid (by have := HJ.out.whole; rw [walkC, List.append_nil] at this; exact this)
              gi_wp2
              refine HJ.out.defs.leaves (fun w' hs => ?_)
              refine ⟨_, results_tmp rfl _ _ _, _, rfl, ?_, BW1.out.trans ((HJ.out.base.below.mono BW1.out.size).trans hs.below)⟩
              rw [← HN.out]
              exact ownsRow_base (by have := HB3.out; have := BW1.out.size; omega) (hs.own HJ.out.own)
            | succ m =>
              have c8 := box_cell HJ.out.box8
              obtain ⟨g1, g2⟩ := box2_cell HJ.out.base.gbox
              gi_wp2_with (refine ⟨trivial, ?_⟩; gi_at_call 52; refine (callsIn_wide.2 (successors_any k x ad es.length cap _)).mono ?_; rintro e w' ⟨rfl, rfl⟩)
              have c10' : W.cell? ⟨B10, 0, none⟩ = some (.int .i64 ((m : Int) + 1)) := c10
              have hbww : w.heap.size ≤ W.heap.size := Nat.le_trans BW1.out.size HJ.out.base.below.size
              have hbw : Below w.heap.size w W := BW1.out.trans (HJ.out.base.below.mono BW1.out.size)
              have lt8 : B8 < W.heap.size := (Array.getElem?_eq_some_iff.1 HJ.out.box8).1
              have lt10 : B10 < W.heap.size := (Array.getElem?_eq_some_iff.1 HJ.out.box10).1
              obtain ⟨w5, hw5, s5, gb, xb, gr⟩ := succ_boxes k x ad es.length cap W
              rw [← hw5]
              clear hw5
              have hb5 : Below W.heap.size W w5 := (Below.refl _ _).grown gr (Nat.le_refl _) (fun r e => by cases e)
              refine wpIn_rangeFunc_ownF (w0 := w5) rfl (by omega) (gf := 65) (lb := #[.pointer (some ⟨W.heap.size, 0, none⟩), .pointer (some ⟨W.heap.size + 1, 0, none⟩)]) rfl trivial (enters_of Try.func65 (by kernel_rfl) rfl)
                (succ_stops (9 - 1) (by omega) n₀ W.heap.size (W.heap.size + 1) k x ad cap es hl hcap HOK.out HS.out w5 gb xb ((HE.out.below (hbw.mono hn₀)).below (hb5.mono (by omega))) (by omega))
                (fun h k => ⟨h.1.trans k.1, k.2.trans h.2⟩) (fun W' l o o' hl h h1 h2 => ⟨belowK_b (w := w5) (by omega) W' l o o' hl h h1 h2, World.putObj_heap_other (by omega)⟩) (Below.refl _ _) (fun _ => rfl)
                (fun pre W6 => (∀ z, z ∈ valsS pre → dstN (gN es) z st ≠ m + 1) ∧ w5.grownBy W6 none)
                (fun c pre W6 => c = Code.exit 4 ∧ ∃ (y : Nat) (pre' : List Nat), valsS pre = pre' ++ [y] ∧ (∀ z, z ∈ pre' → dstN (gN es) z st ≠ m + 1) ∧ dstN (gN es) y st = m + 1 ∧ y < k ∧ W6.heap[B8]? = some (.cells #[.int .i64 (y : Int)] 3 (0, 0)) ∧ w5.grownBy W6 (some B8))
                (fun s A A' row hs hg hr => ⟨hs.1, grown_far hs.2 hg hr⟩)
                (fun c s A A' row hs hg hr => by
                  obtain ⟨h0, y, pre', h1, h2, h3, h4, h5, h6⟩ := hs
                  exact ⟨h0, y, pre', h1, h2, h3, h4, cells_far h5 hg hr, grown_far h6 hg hr⟩)
                ⟨fun z hz => by simp [valsS] at hz, grownOf (Below.refl _ _)⟩
                (fun y => { tmps := #[gV k ad es.length cap, .pointer (some ⟨w.heap.size, 0, none⟩), .slice none 0 0, .pointer (some ⟨B3, 0, none⟩), .int .i64 (a : Int), .pointer (some ⟨B3 + 1, 0, none⟩), u6, u7, .pointer (some ⟨B8, 0, none⟩), v9, .pointer (some ⟨B10, 0, none⟩), .int .i64 (y.1 : Int), .pointer (some ⟨w.heap.size, 0, none⟩), .int .i64 (k : Int), gV k ad es.length cap, .func (.func 62) #[gV k ad es.length cap] #[], .slice aa k ca, .pointer (some ⟨w.heap.size, 0, none⟩), .int .i64 (k : Int), .int .i64 (k : Int), .bool false, u21, u22, u23, u24, u25, u26, u27, u28, u29, u30, u31, u32, u33, u34, u35, u36, u37, u38, u39, u40, u41, u42, .int .i64 (a : Int), .bool false, .int .i64 (st : Int), .int .i64 (st : Int), x47, x48, x49, .int .i64 ((m : Int) + 1), .bool true, x52, x53, gV k ad es.length cap, .int .i64 (x : Int), .func (.func 65) #[] #[.pointer (some ⟨W.heap.size, 0, none⟩), .pointer (some ⟨W.heap.size + 1, 0, none⟩)], .int .i64 (y.1 : Int), x58, x59, x60, x61, x62, x63, x64, x65, x66, x67, x68, x69, x70, x71, x72, undef], defers := [] }) ?assign ?body ?done ?stop
              case assign =>
                intro l x W K hK
                gi_wp2
                exact hK
              case body =>
                rintro lp pre ys W6 ⟨hno, hg⟩ hlen
                obtain ⟨y, hy, hmem⟩ := ys
                have hmx : Try.prog.follows .mixedOrders = true := by kernel_rfl
                have hne : ∀ q, q < W.heap.size → W6.heap[q]? = W.heap[q]? := fun q hq => (hg.block q (by omega) (by simp)).trans (hb5.block q hq)
                have hbl6 : Below w1.heap.size w1 W6 := HJ.out.base.below.trans ((hb5.mono HJ.out.base.below.size).trans ((Below.refl _ w5).grown hg (Nat.le_trans HJ.out.base.below.size hb5.size) (fun r e => by cases e)))
                obtain ⟨gr', cr', Gy, e1, q1, m1⟩ := RowsAt.at (f := dstN (gN es)) HR1.out hbl6 hy
                have q4 := m1 st hst
                have hb3x : W6.heap[B3]? = some (.cells #[.slice aa k ca] 31 (0, 0)) := (hne _ (Array.getElem?_eq_some_iff.1 HJ.out.base.box3).1).trans HJ.out.base.box3
                have q3 := box_cell hb3x
                injection e1 with e1 _ e3
                subst e1
                subst e3
                have q5 := box_cell ((hne _ (Array.getElem?_eq_some_iff.1 HJ.out.base.box5).1).trans HJ.out.base.box5)
                have q10 : W6.cell? ⟨B10, 0, none⟩ = some (.int .i64 ((m : Int) + 1)) := box_cell ((hne _ lt10).trans HJ.out.box10)
                have q8 : W6.heap[B8]? = some (.cells #[.int .i64 (x : Int)] 3 (0, 0)) := (hne _ lt8).trans HJ.out.box8
                have q8c := box_cell q8
                have q8f : W6.frozen? ⟨B8, 0, none⟩ = false := Lib.frozen_of_heap q8 0
                have y1 : (y : Int) < (k : Int) := by omega
                have st1 : (st : Int) < (k : Int) := by omega
                have hm4 : (m : Int) ≤ 400 := by have := HJ.out.few; omega
                obtain ⟨d, hd⟩ : ∃ d, dstN (gN es) y st = d := ⟨_, rfl⟩
                rw [hd] at q4
                obtain ⟨b, hb⟩ : ∃ b, ((d : Int) == (m : Int) + 1) = b := ⟨_, rfl⟩
                have HNO := Lib.hid hno
                have HG5 := Lib.hid hg
                have HD := Lib.hid hd
                have HB := Lib.hid hb
                have H8 := Lib.hid q8
                clear hne hbl6 m1 hb3x hno hg hd q8 c8 c10 c10' g1 g2
                gi_wp2
                refine wpIn_region_still_tail (open_round _ _ _) 8 hmx (by kernel_rfl) (by kernel_rfl) ?_
                obtain ⟨W7, hW7⟩ : ∃ W7, W6.drew = W7 := ⟨_, rfl⟩
                rw [show W6.cell? = W7.cell? by rw [← hW7]; rfl] at q1 q4 q3 q5 q10 q8c
                rw [show W6.frozen? = W7.frozen? by rw [← hW7]; rfl] at q8f
                rw [hW7]
                simp only [List.take_succ_cons, List.take_zero, List.drop_succ_cons, List.drop_zero]
                repeat still_step
                refine wpStill_nil ?_
                have HW7 := Lib.hid hW7
                clear hW7 q1 q4 q3 q5 q10
                cases b
                · gi_wp2
                  have e7 := HW7.out
                  subst e7
                  refine ⟨(KeepsOthers.drew W6), ⟨(Below.refl _ W6).drew, rfl⟩, fun z hz => ?_, ?_⟩
                  · rw [valsS_snoc] at hz
                    rcases List.mem_append.1 hz with hz | hz
                    · exact HNO.out z hz
                    · simp at hz
                      subst hz
                      rw [HD.out]
                      have := HB.out
                      rw [beq_eq_false_iff_ne] at this
                      omega
                  · exact ⟨HG5.out.os, HG5.out.tape, HG5.out.output, HG5.out.size, HG5.out.block⟩
                · gi_wp2
                  have e7 := HW7.out
                  subst e7
                  have g7 : W6.grownBy (W6.drew.setCell ⟨B8, 0, none⟩ (.int .i64 (y : Int))) (some B8) := ⟨rfl, rfl, rfl, ((Below.refl 0 W6.drew).setCell (p := ⟨B8, 0, none⟩) (Nat.zero_le _) (.int .i64 (y : Int))).size, fun q _ hq => Below.heap_setCell W6.drew _ _ _ (fun e => hq (by rw [e]))⟩
                  refine ⟨⟨g7.size, Keeps.row g7 (fun r e => by cases e; exact ⟨_, _, _, H8.out⟩)⟩, rfl, y, valsS pre, valsS_snoc _ _, HNO.out, ?_, hy, ?_, grown_trans (grown_weak HG5.out _) g7⟩
                  · rw [HD.out]
                    have := HB.out
                    rw [beq_iff_eq] at this
                    omega
                  · exact Boxed.set (W := W6.drew) _ H8.out
              case done =>
                rintro D xs W6 hD hx ⟨hno, hg0⟩ hK6
                have hg := grown_weak hg0 (some B8)
                obtain ⟨Y, hY⟩ : ∃ Y, x = Y := ⟨_, rfl⟩
                have hy8 : W6.heap[B8]? = some (.cells #[.int .i64 (Y : Int)] 3 (0, 0)) := by rw [← hY]; exact (hg0.block _ (by omega) (by simp)).trans ((hb5.block _ lt8).trans HJ.out.box8)
                have hy' : stepC (gN es) st (m + 1) x = Y := by rw [← hY]; exact stepC_miss (fun z hz => hno z (by rw [hx]; exact hz))
                have hyk : Y < k := by rw [← hY]; exact HJ.out.lt
                clear hno hx hg0 hY
                have hkW : Keeps W W6 := (Keeps.grown gr).trans (Keeps.row hg (fun r e => by cases e; exact ⟨_, _, _, (hb5.block _ lt8).trans HJ.out.box8⟩))
                have hne : ∀ q, q < W.heap.size → q ≠ B8 → W6.heap[q]? = W.heap[q]? := fun q hq hqn => (hg.block q (by omega) (by simpa using hqn)).trans (hb5.block q hq)
                have hs6 : W.heap.size ≤ W6.heap.size := Nat.le_trans hb5.size hg.size
                have ho6 : W6.ownsRow B3 TI 1 v9 c.length (natV c) := World.ownsRow.kept (own_far (B0 := 0) HJ.out.own gr (fun r e => by cases e)) hg (.inr HJ.out.ne8)
                have hb10 : W6.heap[B10]? = some (.cells #[.int .i64 ((m : Int) + 1)] 3 (0, 0)) := (hne _ lt10 (Ne.symm HJ.out.hB10)).trans HJ.out.box10
                have hb3x : W6.heap[B3]? = some (.cells #[.slice aa k ca] 31 (0, 0)) := (hne _ (Array.getElem?_eq_some_iff.1 HJ.out.base.box3).1 (by have := HJ.out.hB8; omega)).trans HJ.out.base.box3
                have hb5x : W6.heap[B3 + 1]? = some (.cells #[.int .i64 (st : Int)] 3 (0, 0)) := (hne _ (Array.getElem?_eq_some_iff.1 HJ.out.base.box5).1 (by have := HJ.out.hB8; omega)).trans HJ.out.base.box5
                have hgx : W6.heap[w.heap.size]? = some (.cells #[.int .i64 (k : Int), .slice ad es.length cap] 52 (0, 0)) := (hne _ (Array.getElem?_eq_some_iff.1 HJ.out.base.gbox).1 (by have := HJ.out.hB8; omega)).trans HJ.out.base.gbox
                have hbl6 : Below w1.heap.size W W6 := (hb5.mono HJ.out.base.below.size).trans ((Below.refl _ w5).grown hg (Nat.le_trans HJ.out.base.below.size hb5.size) (fun r e => by cases e; have := HJ.out.hB8; have := HB3.out; omega))
                have HO6 := Lib.hid ho6
                have HB10 := Lib.hid hb10
                have HGX := Lib.hid (And.intro hgx (And.intro hb3x hb5x))
                have HBL := Lib.hid hbl6
                have HKW := Lib.hid hkW
                have H8 := Lib.hid hy8
                have HK6 := Lib.hid hK6
                have HST' := Lib.hid hy'
                have c8' := box_cell hy8
                have hcl : c.length ≤ 400 := by have := HJ.out.few; omega
                have hB3s : B3 ≤ W6.heap.size := by have := HJ.out.base.below.size; have := HB3.out; omega
                clear hkW hne ho6 hb10 hgx hb3x hb5x hbl6 hy8 hK6 hy' hg c8 c10 g1 g2
                gi_wp2_with (gi_at_builtin; refine wpListIn_append_own _ rfl _ _ 28 rfl B3 TI i1 (.int .i64 0) 1 8 Try.underlying28 ji jz0 jz1 jz2 rfl (by decide) _ _ _ rfl (HO6.out.alloc _) ⟨W6.heap.size, 0, none⟩ 1 1 [.int .i64 (Y : Int)] rfl rfl (newCell W6 _ TI) (one_one _) (by unfold maxLen; omega) (by omega) (by simp; omega) ?_)
                intro v' W7 hown' hgrow hnil
                have hrt : RowTy TI (W6.alloc (.cells #[.int .i64 (Y : Int)] 3)) v9.ownBlock := (rowTy_of HO6.out).alloc _
                have hblk : ∀ q, q < W6.heap.size → v9.ownBlock ≠ some q → W7.heap[q]? = W6.heap[q]? := fun q hq hqn => (hgrow.block q (by simp; omega) (fun e => hqn e.symm)).trans (Below.heap_alloc _ _ _ hq)
                have s7 : W6.heap.size + 1 ≤ W7.heap.size := by have := hgrow.size; simpa using this
                have hz10 : W7.heap[B10]? = some (.cells #[.int .i64 ((m : Int) + 1)] 3 (0, 0)) := (hblk _ (Array.getElem?_eq_some_iff.1 HB10.out).1 HJ.out.ne10).trans HB10.out
                have hz8 : W7.heap[B8]? = some (.cells #[.int .i64 (Y : Int)] 3 (0, 0)) := (hblk _ (Array.getElem?_eq_some_iff.1 H8.out).1 HJ.out.ne8).trans H8.out
                have hz5 : W7.heap[B3 + 1]? = some (.cells #[.int .i64 (st : Int)] 3 (0, 0)) := (hblk _ (Array.getElem?_eq_some_iff.1 HGX.out.2.2).1 HJ.out.ne5).trans HGX.out.2.2
                have hz3 : W7.heap[B3]? = some (.cells #[.slice aa k ca] 31 (0, 0)) := cells_other ((Below.heap_alloc _ _ _ (Array.getElem?_eq_some_iff.1 HGX.out.2.1).1).trans HGX.out.2.1) hgrow hrt (by decide)
                have hzg : W7.heap[w.heap.size]? = some (.cells #[.int .i64 (k : Int), .slice ad es.length cap] 52 (0, 0)) := cells_other ((Below.heap_alloc _ _ _ (Array.getElem?_eq_some_iff.1 HGX.out.1).1).trans HGX.out.1) hgrow hrt (by decide)
                have hbl7 : Below w1.heap.size w1 W7 := HJ.out.base.below.trans (HBL.out.trans (((Below.refl _ W6).alloc (by have := HJ.out.base.below.size; omega) _).grown hgrow (by have := HJ.out.base.below.size; simp; omega) (fun r e => by have := (HO6.out.lt r e).1; have := HB3.out; omega)))
                have ho7 : OwnN B3 (c ++ [Y]) v' W7 := by unfold OwnN; simpa [natV] using hown'
                have hln : 2 ≤ (c ++ [Y]).length := by have := HJ.out.pos; simp; omega
                have HN : Hid (CycJ k B3 B8 W7.heap.size ad es.length cap (gN es) w w1 (.slice aa k ca) st L m Y (c ++ [Y]) v' ({ target := .collected D, args := #[] } :: ds) (W7.alloc (.cells #[.int .i64 (m : Int)] 3))) := Lib.hid {
                  base := {
                    gbox := (Below.heap_alloc _ _ _ (Array.getElem?_eq_some_iff.1 hzg).1).trans hzg
                    box3 := (Below.heap_alloc _ _ _ (Array.getElem?_eq_some_iff.1 hz3).1).trans hz3
                    box5 := (Below.heap_alloc _ _ _ (Array.getElem?_eq_some_iff.1 hz5).1).trans hz5
                    below := hbl7.alloc hbl7.size _ }
                  box8 := (Below.heap_alloc _ _ _ (Array.getElem?_eq_some_iff.1 hz8).1).trans hz8
                  box10 := World.alloc_heap_new W7 _
                  whole := by rw [← HJ.out.whole, walkC, HST'.out, List.append_assoc]; rfl
                  own := World.ownsRow.alloc ho7 _
                  ne5 := box_ne ho7 hln hz5
                  ne8 := box_ne ho7 hln hz8
                  ne10 := by
                    intro e
                    have := (World.ownsRow.lt ho7 _ e).2
                    omega
                  hB8 := HJ.out.hB8
                  hB10 := by have := (Array.getElem?_eq_some_iff.1 hz8).1; omega
                  h10 := by have := (Array.getElem?_eq_some_iff.1 hz5).1; omega
                  defs := (HJ.out.defs.cons HKW.out (by have := hb5.size; omega) (by have := hbww; have := hb5.size; omega) HK6.out).keep (((Keeps.grown (World.grownBy_alloc W6 _ none)).trans (Keeps.row hgrow (fun r e => by obtain ⟨cc, hc⟩ := hrt r e; exact ⟨cc, _, _, hc⟩))).trans (Keeps.grown (World.grownBy_alloc W7 _ none)))
                  lt := hyk
                  pos := by simp
                  few := by have := HJ.out.few; simp; omega }
                have d10 := box_cell hz10
                have hm4 : (m : Int) ≤ 400 := by have := HJ.out.few; omega
                have hm0 : (0 : Int) ≤ (m : Int) := by omega
                clear hown' hgrow hnil hrt hblk hz8 hz5 hz3 hzg hbl7 ho7 hln c8'
                gi_wp2
                exact HK.out m _ _ (by omega) ⟨_, _, _, _, _, _, _, _, _, _, _, _, _, _, _, _, _, _, _, _, _, _, _, _, _, _, _, _, _, _, _, _, _, rfl, HN.out⟩
              case stop =>
                rintro D cc pre W6 hD hSp ⟨rfl, Y, pre', hp, hno, hyd, hyk, hy8, hg⟩ hK6
                have hy' : stepC (gN es) st (m + 1) x = Y := stepC_hit (by rw [← hp]; exact hSp) hno hyd
                clear hno hp hSp hyd
                have hkW : Keeps W W6 := (Keeps.grown gr).trans (Keeps.row hg (fun r e => by cases e; exact ⟨_, _, _, (hb5.block _ lt8).trans HJ.out.box8⟩))
                have hne : ∀ q, q < W.heap.size → q ≠ B8 → W6.heap[q]? = W.heap[q]? := fun q hq hqn => (hg.block q (by omega) (by simpa using hqn)).trans (hb5.block q hq)
                have hs6 : W.heap.size ≤ W6.heap.size := Nat.le_trans hb5.size hg.size
                have ho6 : W6.ownsRow B3 TI 1 v9 c.length (natV c) := World.ownsRow.kept (own_far (B0 := 0) HJ.out.own gr (fun r e => by cases e)) hg (.inr HJ.out.ne8)
                have hb10 : W6.heap[B10]? = some (.cells #[.int .i64 ((m : Int) + 1)] 3 (0, 0)) := (hne _ lt10 (Ne.symm HJ.out.hB10)).trans HJ.out.box10
                have hb3x : W6.heap[B3]? = some (.cells #[.slice aa k ca] 31 (0, 0)) := (hne _ (Array.getElem?_eq_some_iff.1 HJ.out.base.box3).1 (by have := HJ.out.hB8; omega)).trans HJ.out.base.box3
                have hb5x : W6.heap[B3 + 1]? = some (.cells #[.int .i64 (st : Int)] 3 (0, 0)) := (hne _ (Array.getElem?_eq_some_iff.1 HJ.out.base.box5).1 (by have := HJ.out.hB8; omega)).trans HJ.out.base.box5
                have hgx : W6.heap[w.heap.size]? = some (.cells #[.int .i64 (k : Int), .slice ad es.length cap] 52 (0, 0)) := (hne _ (Array.getElem?_eq_some_iff.1 HJ.out.base.gbox).1 (by have := HJ.out.hB8; omega)).trans HJ.out.base.gbox
                have hbl6 : Below w1.heap.size W W6 := (hb5.mono HJ.out.base.below.size).trans ((Below.refl _ w5).grown hg (Nat.le_trans HJ.out.base.below.size hb5.size) (fun r e => by cases e; have := HJ.out.hB8; have := HB3.out; omega))
                have HO6 := Lib.hid ho6
                have HB10 := Lib.hid hb10
                have HGX := Lib.hid (And.intro hgx (And.intro hb3x hb5x))
                have HBL := Lib.hid hbl6
                have HKW := Lib.hid hkW
                have H8 := Lib.hid hy8
                have HK6 := Lib.hid hK6
                have HST' := Lib.hid hy'
                have c8' := box_cell hy8
                have hcl : c.length ≤ 400 := by have := HJ.out.few; omega
                have hB3s : B3 ≤ W6.heap.size := by have := HJ.out.base.below.size; have := HB3.out; omega
                clear hkW hne ho6 hb10 hgx hb3x hb5x hbl6 hy8 hK6 hy' hg c8 c10 g1 g2
                gi_wp2_with (gi_at_builtin; refine wpListIn_append_own _ rfl _ _ 28 rfl B3 TI i1 (.int .i64 0) 1 8 Try.underlying28 ji jz0 jz1 jz2 rfl (by decide) _ _ _ rfl (HO6.out.alloc _) ⟨W6.heap.size, 0, none⟩ 1 1 [.int .i64 (Y : Int)] rfl rfl (newCell W6 _ TI) (one_one _) (by unfold maxLen; omega) (by omega) (by simp; omega) ?_)
                intro v' W7 hown' hgrow hnil
                have hrt : RowTy TI (W6.alloc (.cells #[.int .i64 (Y : Int)] 3)) v9.ownBlock := (rowTy_of HO6.out).alloc _
                have hblk : ∀ q, q < W6.heap.size → v9.ownBlock ≠ some q → W7.heap[q]? = W6.heap[q]? := fun q hq hqn => (hgrow.block q (by simp; omega) (fun e => hqn e.symm)).trans (Below.heap_alloc _ _ _ hq)
                have s7 : W6.heap.size + 1 ≤ W7.heap.size := by have := hgrow.size; simpa using this
                have hz10 : W7.heap[B10]? = some (.cells #[.int .i64 ((m : Int) + 1)] 3 (0, 0)) := (hblk _ (Array.getElem?_eq_some_iff.1 HB10.out).1 HJ.out.ne10).trans HB10.out
                have hz8 : W7.heap[B8]? = some (.cells #[.int .i64 (Y : Int)] 3 (0, 0)) := (hblk _ (Array.getElem?_eq_some_iff.1 H8.out).1 HJ.out.ne8).trans H8.out
                have hz5 : W7.heap[B3 + 1]? = some (.cells #[.int .i64 (st : Int)] 3 (0, 0)) := (hblk _ (Array.getElem?_eq_some_iff.1 HGX.out.2.2).1 HJ.out.ne5).trans HGX.out.2.2
                have hz3 : W7.heap[B3]? = some (.cells #[.slice aa k ca] 31 (0, 0)) := cells_other ((Below.heap_alloc _ _ _ (Array.getElem?_eq_some_iff.1 HGX.out.2.1).1).trans HGX.out.2.1) hgrow hrt (by decide)
                have hzg : W7.heap[w.heap.size]? = some (.cells #[.int .i64 (k : Int), .slice ad es.length cap] 52 (0, 0)) := cells_other ((Below.heap_alloc _ _ _ (Array.getElem?_eq_some_iff.1 HGX.out.1).1).trans HGX.out.1) hgrow hrt (by decide)
                have hbl7 : Below w1.heap.size w1 W7 := HJ.out.base.below.trans (HBL.out.trans (((Below.refl _ W6).alloc (by have := HJ.out.base.below.size; omega) _).grown hgrow (by have := HJ.out.base.below.size; simp; omega) (fun r e => by have := (HO6.out.lt r e).1; have := HB3.out; omega)))
                have ho7 : OwnN B3 (c ++ [Y]) v' W7 := by unfold OwnN; simpa [natV] using hown'
                have hln : 2 ≤ (c ++ [Y]).length := by have := HJ.out.pos; simp; omega
                have HN : Hid (CycJ k B3 B8 W7.heap.size ad es.length cap (gN es) w w1 (.slice aa k ca) st L m Y (c ++ [Y]) v' ({ target := .collected D, args := #[] } :: ds) (W7.alloc (.cells #[.int .i64 (m : Int)] 3))) := Lib.hid {
                  base := {
                    gbox := (Below.heap_alloc _ _ _ (Array.getElem?_eq_some_iff.1 hzg).1).trans hzg
                    box3 := (Below.heap_alloc _ _ _ (Array.getElem?_eq_some_iff.1 hz3).1).trans hz3
                    box5 := (Below.heap_alloc _ _ _ (Array.getElem?_eq_some_iff.1 hz5).1).trans hz5
                    below := hbl7.alloc hbl7.size _ }
                  box8 := (Below.heap_alloc _ _ _ (Array.getElem?_eq_some_iff.1 hz8).1).trans hz8
                  box10 := World.alloc_heap_new W7 _
                  whole := by rw [← HJ.out.whole, walkC, HST'.out, List.append_assoc]; rfl
                  own := World.ownsRow.alloc ho7 _
                  ne5 := box_ne ho7 hln hz5
                  ne8 := box_ne ho7 hln hz8
                  ne10 := by
                    intro e
                    have := (World.ownsRow.lt ho7 _ e).2
                    omega
                  hB8 := HJ.out.hB8
                  hB10 := by have := (Array.getElem?_eq_some_iff.1 hz8).1; omega
                  h10 := by have := (Array.getElem?_eq_some_iff.1 hz5).1; omega
                  defs := (HJ.out.defs.cons HKW.out (by have := hb5.size; omega) (by have := hbww; have := hb5.size; omega) HK6.out).keep (((Keeps.grown (World.grownBy_alloc W6 _ none)).trans (Keeps.row hgrow (fun r e => by obtain ⟨cc, hc⟩ := hrt r e; exact ⟨cc, _, _, hc⟩))).trans (Keeps.grown (World.grownBy_alloc W7 _ none)))
                  lt := hyk
                  pos := by simp
                  few := by have := HJ.out.few; simp; omega }
                have d10 := box_cell hz10
                have hm4 : (m : Int) ≤ 400 := by have := HJ.out.few; omega
                have hm0 : (0 : Int) ≤ (m : Int) := by omega
                clear hown' hgrow hnil hrt hblk hz8 hz5 hz3 hzg hbl7 ho7 hln c8'
                gi_wp2
                exact HK.out m _ _ (by omega) ⟨_, _, _, _, _, _, _, _, _, _, _, _, _, _, _, _, _, _, _, _, _, _, _, _, _, _, _, _, _, _, _, _, _, rfl, HN.out⟩

/-- What the program's Cycle returns. -/
noncomputable def cycDL (n : Int) (es : List (Int × Int)) : List Nat := if chkE n es = 0 then cycD n.toNat (gN es) else []
noncomputable def cycDE (n : Int) (es : List (Int × Int)) : Int := if chkE n es = 0 then (if (cycD n.toNat (gN es)).length = 0 then 7 else 0) else 1
set_option maxRecDepth 100000 in
set_option maxHeartbeats 4000000 in
theorem devCycle_any (n : Int) (ad : Option Addr) (cap : Nat) (es : List (Int × Int)) (w : World) (hE : EdgesA w.heap.size w ad es) (hl : es.length ≤ 9223372036854775807) (hcap : es.length ≤ cap) :
    Calls Try.prog 23 #[.int .i64 n, .slice ad es.length cap] w (GivN (cycDL n es) (cycDE n es) w) := by
  have hck := devCheck_any n ad cap es w hE hl
  by_cases hc : chkE n es = 0
  · obtain ⟨N, rfl, hN, hl2, hok⟩ := chk_ok hc
    rw [hc] at hck
    have HCK := Lib.hid hck
    have HE := Lib.hid hE
    have HOK := Lib.hid hok
    have HS := Lib.hid (chk_srt hc)
    have e1 : cycDL (N : Int) es = cycD N (gN es) := by unfold cycDL; rw [if_pos hc, Int.toNat_natCast]
    have e2 : cycDE (N : Int) es = if (cycD N (gN es)).length = 0 then 7 else 0 := by unfold cycDE; rw [if_pos hc, Int.toNat_natCast]
    rw [e1, e2]
    obtain ⟨L, hL⟩ : ∃ L, cycD N (gN es) = L := ⟨_, rfl⟩
    rw [hL]
    have HL := Lib.hid hL
    obtain ⟨r, hr⟩ : ∃ r : Int, (if L.length = 0 then 7 else 0) = r := ⟨_, rfl⟩
    rw [hr]
    have HR := Lib.hid hr
    clear hE hc hck hok e1 e2 hL hr
    go_enter Try.func23, Try.ntmps23
    go_wp2_with fail
    refine HCK.out.mono ?_
    rintro e w1 ⟨rfl, b1⟩
    have HW := Lib.hid (devShort_walk w.heap.size N ad cap es w1 hl2 hcap HOK.out HS.out hN (HE.out.below b1) b1.size L HL.out)
    have B1 := Lib.hid b1
    clear b1
    go_wp2_with fail
    refine HW.out.mono ?_
    rintro e w2 ⟨v, rfl, ho, b2⟩
    have B2 := Lib.hid (B1.out.trans (b2.mono B1.out.size))
    have HO := Lib.hid (ownsRow_base B1.out.size ho)
    obtain ⟨a, c, rfl, _, _⟩ := own_slice ho
    clear ho b2
    by_cases h0 : L.length = 0
    · have hr := HR.out
      rw [if_pos h0] at hr
      subst hr
      have d1 : ((L.length : Int) == 0) = true := by rw [h0]; rfl
      have d2 : (L.length == 0) = true := by rw [h0]; rfl
      have hLn : Hid (L = []) := Lib.hid (List.eq_nil_of_length_eq_zero h0)
      clear h0
      go_wp2
      go_ret2
      refine ⟨_, rfl, ?_, B2.out⟩
      rw [hLn.out]
      exact OwnN.nil _ _
    · have hr := HR.out
      rw [if_neg h0] at hr
      subst hr
      have d1 : ((L.length : Int) == 0) = false := by rw [beq_eq_false_iff_ne]; omega
      have d2 : (L.length == 0) = false := by rw [beq_eq_false_iff_ne]; exact h0
      clear h0
      go_wp2
      go_ret2
      exact ⟨_, rfl, HO.out, B2.out⟩
  · have hcb : (chkE n es != 0) = true := by simpa using hc
    have e1 : cycDL n es = [] := by unfold cycDL; rw [if_neg hc]
    have e2 : cycDE n es = 1 := by unfold cycDE; rw [if_neg hc]
    rw [e1, e2]
    obtain ⟨c, hce⟩ : ∃ c, chkE n es = c := ⟨_, rfl⟩
    rw [hce] at hck hcb
    have HCK := Lib.hid hck
    clear hE hc hck e1 e2 hce
    go_enter Try.func23, Try.ntmps23
    go_wp2_with fail
    refine HCK.out.mono ?_
    rintro e w1 ⟨rfl, b1⟩
    have B1 := Lib.hid b1
    clear b1
    go_wp2
    go_ret2
    exact ⟨_, rfl, OwnN.nil _ _, B1.out⟩

end Go.Proofs.Ytcggmonnajggcaa
