/-
  The statement DigraphClosure: the plain mathematics of a closure taken twice, slices.Contains over edges, the loop's predicate, what the rounds gather; then the walk, by the contracts of digraph's functions.
-/
import Derived.Test.YtcggmonnajggcaaDigMine
import Derived.Test.YtcggmonnajggcaaDigReachable
namespace Go.Proofs.Ytcggmonnajggcaa

theorem gN_edgesOf (l : List (Nat × Nat)) : gN (edgesOf l) = l := by
  unfold gN edgesOf
  rw [List.map_map]
  conv => rhs; rw [← List.map_id l]
  exact List.map_congr_left (fun e _ => Prod.ext (Int.toNat_natCast _) (Int.toNat_natCast _))
theorem chkL_good {n : Int} {p : Option (Int × Int)} {es : List (Int × Int)} (hb : ∀ e, e ∈ es → ¬ badE n e) (hp : ∀ q, p = some q → ∀ e, e ∈ es → ltI q e) (hs : es.Pairwise ltI) : chkL n p es = 0 := by
  induction es generalizing p with
  | nil => rfl
  | cons e es ih =>
    have hlo : ¬ lowO p e := by
      intro h
      cases p with
      | none => exact h
      | some q =>
        have h1 := hp q rfl e (List.mem_cons_self ..)
        have h2 : lowE q e := h
        unfold ltI at h1
        unfold lowE at h2
        omega
    rw [chkL, if_neg (hb e (List.mem_cons_self ..)), if_neg hlo]
    obtain ⟨h1, h2⟩ := List.pairwise_cons.1 hs
    exact ih (fun x hx => hb x (List.mem_cons_of_mem _ hx)) (fun q hq x hx => by cases hq; exact h1 x hx) h2
theorem clRow_srt (g : List (Nat × Nat)) (i q : Nat) : SrtN (clRow g i q) := by
  unfold SrtN clRow
  rw [List.pairwise_map]
  refine List.Pairwise.imp ?_ (List.Pairwise.filter _ List.pairwise_lt_range)
  intro a b h
  exact .inr ⟨rfl, h⟩
theorem closK_srt (N : Nat) (g : List (Nat × Nat)) (i : Nat) : SrtN (closK N g i) ∧ ∀ e, e ∈ closK N g i → e.1 < i := by
  induction i with
  | zero => exact ⟨List.Pairwise.nil, fun e h => by simp [closK] at h⟩
  | succ i ih =>
    have hrow : ∀ e, e ∈ clRow g i N → e.1 = i := fun e h => by
      unfold clRow at h
      obtain ⟨x, _, rfl⟩ := List.mem_map.1 h
      rfl
    rw [closK_succ]
    refine ⟨List.pairwise_append.2 ⟨ih.1, clRow_srt g i N, fun a ha b hb => ?_⟩, fun e he => ?_⟩
    · left
      rw [hrow b hb]
      exact ih.2 a ha
    · rcases List.mem_append.1 he with h | h
      · have := ih.2 e h; omega
      · rw [hrow e h]; omega
/-- A closure of at most 2000 edges can be closed again. -/
theorem chk_closK {N : Nat} {g : List (Nat × Nat)} (hN : N ≤ 200) (hl : (closK N g N).length ≤ 2000) : chkE (N : Int) (edgesOf (closK N g N)) = 0 := by
  unfold chkE
  rw [if_neg (by omega), if_neg (by rw [edgesOf_length]; omega)]
  refine chkL_good (fun e he => ?_) (fun q hq => by cases hq) ?_
  · unfold edgesOf at he
    obtain ⟨⟨a, b⟩, hx, rfl⟩ := List.mem_map.1 he
    obtain ⟨h1, h2, _⟩ := mem_closK.1 hx
    unfold badE
    dsimp only
    omega
  · unfold edgesOf
    rw [List.pairwise_map]
    refine List.Pairwise.imp ?_ (closK_srt N g N).1
    intro a b h
    unfold ltI
    have h : a.1 < b.1 ∨ (a.1 = b.1 ∧ a.2 < b.2) := h
    dsimp only
    omega
theorem clos_rch {N : Nat} {g : List (Nat × Nat)} (hg : ∀ e, e ∈ g → e.1 < N ∧ e.2 < N) {a b : Nat} (ha : a < N) : Rch1 (closK N g N) a b ↔ Rch1 g a b := by
  have edge : ∀ u v, (u, v) ∈ closK N g N → Rch1 g u v := fun u v h => (mem_closK.1 h).2.2
  have rch : ∀ u v, Rch (closK N g N) u v → Rch g u v := by
    intro u v h
    induction h with
    | refl => exact .refl
    | step _ he ih => exact ih.trans (edge _ _ he).rch
  constructor
  · rintro ⟨⟨u, v⟩, he, rfl, h⟩
    obtain ⟨f, hf, hf1, hf2⟩ := edge _ _ he
    exact ⟨f, hf, hf1, hf2.trans (rch _ _ h)⟩
  · intro h
    refine Rch1.of_edge (mem_closK.2 ⟨ha, ?_, h⟩)
    obtain ⟨f, hf, _, h2⟩ := h
    cases h2 with
    | refl => exact (hg f hf).2
    | step _ he => exact (hg _ he).2
theorem closK_twice {N : Nat} {g : List (Nat × Nat)} (hg : ∀ e, e ∈ g → e.1 < N ∧ e.2 < N) : closK N (closK N g N) N = closK N g N := by
  have row : ∀ j, j < N → clRow (closK N g N) j N = clRow g j N := fun j hj => by
    unfold clRow
    congr 1
    refine List.filter_congr (fun x _ => ?_)
    rw [Bool.eq_iff_iff, clB_iff, clB_iff]
    exact clos_rch hg hj
  have key : ∀ i, i ≤ N → closK N (closK N g N) i = closK N g i := by
    intro i
    induction i with
    | zero => intro _; rfl
    | succ i ih =>
      intro hi
      rw [closK_succ, closK_succ, ih (by omega), row i (by omega)]
  exact key N (Nat.le_refl _)

end Go.Proofs.Ytcggmonnajggcaa
namespace Go.Proofs.Ytcggmonnajggcaa
open Go.RowKit Go.Shelf

set_option maxRecDepth 100000 in
theorem noIndexE_any (ad : Option Addr) (c : Nat) (x : Int × Int) (w : World) :
    Calls Try.prog 57 #[.slice ad 0 c, .agg (encE x).toArray] w fun e w' => e = .returned (.int .i64 (-1)) ∧ Below w.heap.size w w' := by
  obtain ⟨u, v⟩ := x
  have HB : Hid (Below w.heap.size w (w.alloc (.cells #[.int .i64 u, .int .i64 v] 40))) := Lib.hid ((Below.refl _ w).alloc (Nat.le_refl _) _)
  unfold encE
  go_enter Try.func57, Try.ntmps57
  go_wp2
  go_loopw [8] (fun i wr => i = .int .i64 0 ∧ Hid (Below w.heap.size w wr)) (fun _ _ => 0)
  case atStart => exact ⟨rfl, HB⟩
  case round =>
    obtain ⟨rfl, hb⟩ := hrel
    go_wp2
    go_ret
    exact ⟨rfl, hb.out⟩
set_option maxRecDepth 100000 in
theorem hasEdge_any (n₀ : Nat) (ad : Option Addr) (cap : Nat) (es : List (Int × Int)) (x : Int × Int) (w : World) (hE : EdgesA n₀ w ad es) (hl : es.length ≤ 9223372036854775807) :
    Calls Try.prog 37 #[.slice ad es.length cap, .agg (encE x).toArray] w fun e w' => e = .returned (.bool (es.contains x)) ∧ Below w.heap.size w w' := by
  by_cases h1 : es.length = 0
  · have e1 : es = [] := List.eq_nil_of_length_eq_zero h1
    subst e1
    clear hE h1 hl
    obtain ⟨u, v⟩ := x
    have HB : Hid (Below w.heap.size w (w.alloc (.cells #[.int .i64 u, .int .i64 v] 40))) := Lib.hid ((Below.refl _ w).alloc (Nat.le_refl _) _)
    have H := noIndexE_any ad cap (u, v) (w.alloc (.cells #[.int .i64 u, .int .i64 v] 40))
    unfold encE at H ⊢
    have H := Lib.hid H
    go_enter Try.func37, Try.ntmps37
    go_wp2_with fail
    refine H.out.mono ?_
    rintro e w1 ⟨rfl, b1⟩
    have B1 := HB.out.trans (b1.mono HB.out.size)
    go_wp2
    go_ret
    exact ⟨rfl, B1⟩
  · obtain ⟨b1, o1, rfl, hbb, c1⟩ := hE.some_ (by omega)
    have h := AnyQ.slices_Contains Try.hasEdge 2 Try.isAgg40 Try.sizeOf40 encE (fun _ => rfl) sameB eqE b1 o1 es.length cap es x w (Nat.le_refl _) hl (enc_cells c1)
    rw [List.take_length] at h
    have e2 : (es.any fun y => sameB x y) = es.contains x := by
      rw [Bool.eq_iff_iff, List.any_eq_true, List.contains_iff_mem]
      constructor
      · rintro ⟨y, hy, hs⟩
        rw [sameB_eq, decide_eq_true_iff] at hs
        exact hs ▸ hy
      · intro hx
        exact ⟨x, hx, by rw [sameB_eq]; simp⟩
    rw [e2] at h
    exact h
theorem contains_edgesOf (l : List (Nat × Nat)) (a b : Nat) : (edgesOf l).contains ((a : Int), (b : Int)) = l.contains (a, b) := by
  rw [Bool.eq_iff_iff, List.contains_iff_mem, List.contains_iff_mem]
  unfold edgesOf
  rw [List.mem_map]
  constructor
  · rintro ⟨⟨u, v⟩, hm, e⟩
    rw [Prod.mk.injEq] at e
    obtain ⟨e1, e2⟩ := e
    dsimp only at e1 e2
    rw [show a = u by omega, show b = v by omega]
    exact hm
  · exact fun h => ⟨(a, b), h, rfl⟩

/-- An edge from a node to itself. -/
def selfE (z : Int × Int) : Bool := z.1 == z.2
set_option maxRecDepth 100000 in
theorem selfE_any (z : Int × Int) (w : World) :
    Calls Try.prog 38 #[.agg (encE z).toArray] w fun e w' => e = .returned (.bool (selfE z)) ∧ Below w.heap.size w w' := by
  obtain ⟨u, v⟩ := z
  have HB : Hid (Below w.heap.size w (w.alloc (.cells #[.int .i64 u, .int .i64 v] 40))) := Lib.hid ((Below.refl _ w).alloc (Nat.le_refl _) _)
  unfold encE selfE
  go_enter Try.func38, Try.ntmps38
  go_wp2
  go_ret
  exact ⟨rfl, HB.out⟩

/-- What the first q edges' rounds gather for node i. -/
noncomputable def gathK (N : Nat) (g : List (Nat × Nat)) (i q : Nat) : List Nat := (g.take q).flatMap fun e => if e.1 = i then selN N (reachP g e.2) else []
theorem gathK_succ {N : Nat} {g : List (Nat × Nat)} {q u v : Nat} (i : Nat) (h : g[q]? = some (u, v)) : gathK N g i (q + 1) = gathK N g i q ++ if u = i then selN N (reachP g v) else [] := by
  unfold gathK
  rw [List.take_add_one, h]
  simp
theorem gathK_len {N : Nat} {g : List (Nat × Nat)} (i q : Nat) (hq : q ≤ g.length) : (gathK N g i q).length ≤ q * N := by
  induction q with
  | zero => simp [gathK]
  | succ q ih =>
    obtain ⟨⟨u, v⟩, he⟩ : ∃ e, g[q]? = some e := ⟨_, List.getElem?_eq_getElem (by omega)⟩
    rw [gathK_succ i he, List.length_append, Nat.add_mul, Nat.one_mul]
    have := ih (by omega)
    have h2 := selN_length N (reachP g v)
    split
    · omega
    · simp; omega
theorem mem_gath {N : Nat} {g : List (Nat × Nat)} {i k : Nat} (hi : i < N) (hk : k < N) : (gathK N g i g.length).contains k = (closK N g N).contains (i, k) := by
  rw [Bool.eq_iff_iff, List.contains_iff_mem, List.contains_iff_mem, mem_closK]
  unfold gathK
  rw [List.take_length, List.mem_flatMap]
  constructor
  · rintro ⟨e, he, hm⟩
    split at hm
    · rename_i h1
      exact ⟨hi, hk, e, he, h1, reachP_iff.1 (mem_selN.1 hm).2⟩
    · cases hm
  · rintro ⟨_, _, e, he, h1, h2⟩
    exact ⟨e, he, by rw [if_pos h1]; exact mem_selN.2 ⟨hk, reachP_iff.2 h2⟩⟩
theorem dst_self {g : List (Nat × Nat)} {i : Nat} : 0 < dstN g i i ↔ Rch1 g i i := by
  constructor
  · intro h
    obtain ⟨h1, _⟩ := dstN_pos h
    obtain ⟨d, hd⟩ : ∃ d, dstN g i i = d + 1 := ⟨dstN g i i - 1, by omega⟩
    rw [hd] at h1
    obtain ⟨x, hx, hw⟩ := h1.first
    exact ⟨(i, x), hx, rfl, hw.rch⟩
  · rintro ⟨⟨a, x⟩, he, rfl, hr⟩
    obtain ⟨d, hd⟩ := hr.wlk
    exact (dstN_spec (hd.cons he)).1
theorem self_cyc {N : Nat} {g : List (Nat × Nat)} : (edgesOf (closK N g N)).any selfE = !decide ((bst g N).1 = 0) := by
  rw [Bool.eq_iff_iff, List.any_eq_true]
  constructor
  · rintro ⟨z, hz, hs⟩
    obtain ⟨⟨a, b⟩, he, rfl⟩ := List.mem_map.1 hz
    have hab : a = b := by
      unfold selfE at hs
      rw [beq_iff_eq] at hs
      dsimp only at hs
      omega
    subst hab
    obtain ⟨ha, _, hr⟩ := mem_closK.1 he
    have hd := dst_self.2 hr
    rcases bst_spec g N with ⟨_, h2⟩ | ⟨_, h2, _⟩
    · have := h2 a ha; omega
    · simp; omega
  · intro h
    rcases bst_spec g N with ⟨h1, _⟩ | ⟨h1, h2, h3, _⟩
    · rw [h1] at h; cases h
    · have hr := dst_self.1 (by rw [h3]; exact h2 : 0 < dstN g (bst g N).2 (bst g N).2)
      refine ⟨(((bst g N).2 : Int), ((bst g N).2 : Int)), List.mem_map.2 ⟨_, mem_closK.2 ⟨h1, h1, hr⟩, rfl⟩, ?_⟩
      unfold selfE
      simp

end Go.Proofs.Ytcggmonnajggcaa
namespace Go.Proofs.Ytcggmonnajggcaa
open Go.RowKit

set_option maxRecDepth 100000 in
set_option maxHeartbeats 8000000 in
theorem digraphClosure_walk (haw : ∀ w, Calls Try.prog 12 #[] w fun e w' => e = .returned (.bool true) ∧ Below w.heap.size w w') (n : Int) (ad : Option Addr) (cap : Nat) (es : List (Int × Int)) (w : World) (hE : EdgesA w.heap.size w ad es) (hl : es.length ≤ 9223372036854775807) (hcap : es.length ≤ cap) :
    Calls Try.prog 10 #[.int .i64 n, .slice ad es.length cap] w fun e w' => e = .returned (.bool true) ∧ Below w.heap.size w w' := by
  obtain ⟨i1, ji, jz0, jz1, jz2⟩ := info_parts infoI
  have HAW := Lib.hid haw
  have HE := Lib.hid hE
  have hgr := (great_any n ad cap es w).mono (fun e w' h => (⟨h.1, h.2.symm⟩ : e = .returned (.bool (greatE n es)) ∧ w = w'))
  obtain ⟨gr, hgr2⟩ : ∃ gr, greatE n es = gr := ⟨_, rfl⟩
  rw [hgr2] at hgr
  have HGR := Lib.hid hgr
  clear haw hE hgr
  have HN : Hid (gr = false → ∀ N : Nat, n = (N : Int) → N ≤ 200 → N ≤ 12 ∧ es.length ≤ 40) := Lib.hid (fun h N hn h2 => by
    rw [← hgr2] at h
    unfold greatE at h
    subst hn
    simp at h
    omega)
  clear hgr2
  cases gr
  · have h1 := check_calm w.heap.size n ad cap es w HE.out hl
    by_cases hc : chkE n es = 0
    · rw [hc] at h1
      have H1 := Lib.hid h1
      have hcy := myCycle n ad cap es
      have hre := myReach n
      have hcl := myClosureC n
      obtain ⟨N, rfl, hN, hl2, hok⟩ := chk_ok hc
      have hg := gN_lt hok
      have HG := Lib.hid hg
      have HOK := Lib.hid hok
      have hN12 : N ≤ 12 ∧ es.length ≤ 40 := HN.out rfl N rfl hN
      obtain ⟨L, hL⟩ : ∃ L, closK N (gN es) N = L := ⟨_, rfl⟩
      have hLl : L.length ≤ 144 := by
        have := closK_length_le N (gN es) N
        rw [hL] at this
        exact Nat.le_trans this (Nat.mul_le_mul hN12.1 hN12.1)
      have c1 : cloE (N : Int) es = 0 := by unfold cloE; rw [if_pos hc, Int.toNat_natCast, hL, if_neg (by omega)]
      have c2 : cloL (N : Int) es = L := by unfold cloL; rw [if_pos c1, Int.toNat_natCast, hL]
      have hck : chkE (N : Int) (edgesOf L) = 0 := by rw [← hL]; exact chk_closK hN (by rw [hL]; omega)
      have htw : closK N (gN (edgesOf L)) N = L := by rw [gN_edgesOf, ← hL]; exact closK_twice hg
      have c3 : cloE (N : Int) (edgesOf L) = 0 := by unfold cloE; rw [if_pos hck, Int.toNat_natCast, htw, if_neg (by omega)]
      have c4 : cloL (N : Int) (edgesOf L) = L := by unfold cloL; rw [if_pos c3, Int.toNat_natCast, htw]
      have hcl1 := hcl ad cap es
      rw [c1, c2] at hcl1
      have hcl2 : ∀ (a : Option Addr) (c : Nat) (W : World), EdgesA W.heap.size W a (edgesOf L) → (edgesOf L).length ≤ c → Calls Try.prog 27 #[.int .i64 (N : Int), .slice a (edgesOf L).length c] W (RetEC L 0 W) := fun a c W h1 h2 => by
        have h := hcl a c (edgesOf L) W h1 (by rw [edgesOf_length]; omega) h2
        rw [c3, c4] at h
        exact h
      have e2 : ∀ u : Nat, u < N → reachL (N : Int) es (u : Int) = selN N (reachP (gN es) u) := fun u hu => by
        unfold reachL
        rw [if_pos ⟨hc, by omega, by omega⟩, Int.toNat_natCast, Int.toNat_natCast, reach_sel]
      have hRE : ∀ (u : Nat) (W : World), u < N → EdgesA W.heap.size W ad es → Calls Try.prog 16 #[.int .i64 (N : Int), .slice ad es.length cap, .int .i64 (u : Int)] W (RetI (selN N (reachP (gN es) u)) W) := fun u W hu hEW => by
        rw [← e2 u hu]
        exact hre (u : Int) ad cap es W hEW hl hcap
      obtain ⟨z, hz⟩ : ∃ z, cycE (N : Int) es = z := ⟨_, rfl⟩
      have hzz : ((edgesOf L).any selfE == (z == 0)) = true := by
        rw [← hL, self_cyc, ← hz, ← (cycDL_eq (N : Int) es).2]
        unfold cycDE cycD
        rw [if_pos hc, Int.toNat_natCast]
        by_cases h0 : (bst (gN es) N).1 = 0
        · rw [if_pos h0]; simp [h0]
        · rw [if_neg h0]; simp [h0]
      rw [hz] at hcy
      have hme : ∀ i k, i < N → k < N → (gathK N (gN es) i (gN es).length).contains k = L.contains (i, k) := fun i k hi hk => by rw [← hL]; exact mem_gath hi hk
      have HCL := Lib.hid hcl1
      have HCL2 := Lib.hid hcl2
      have HCY := Lib.hid hcy
      have HRE := Lib.hid hRE
      have HZZ := Lib.hid hzz
      have HME := Lib.hid hme
      have HLL := Lib.hid hLl
      clear h1 hc hcy hre hcl hg hok c1 c2 hck htw c3 c4 hcl1 hcl2 e2 hRE hzz hme hz hL hLl
      go_enter Try.func10, Try.ntmps10
      go_wp2_with fail
      refine HGR.out.mono ?_
      rintro e w0 ⟨rfl, rfl⟩
      go_wp2_with fail
      refine H1.out.mono ?_
      rintro e w1 ⟨rfl, b1, hcs⟩
      clear hcs
      have B1 := Lib.hid b1
      have H2 := Lib.hid (HCL.out w1 ((HE.out.below b1).mono b1.size) hl hcap)
      clear b1
      go_wp2_with fail
      refine H2.out.mono ?_
      rintro e w2 ⟨v2, rfl, ⟨a2, c2, rfl, i2, l2, k2⟩, b2⟩
      have B2 := Lib.hid (B1.out.trans (b2.mono B1.out.size))
      have I2 := Lib.hid i2
      have H3 := Lib.hid (HCL2.out a2 c2 w2 i2 k2)
      clear b2 i2
      go_wp2_with fail
      refine H3.out.mono ?_
      rintro e w3 ⟨v3, rfl, ⟨a3, c3, rfl, i3, l3, k3⟩, b3⟩
      have b3' := B2.out.trans (b3.mono B2.out.size)
      have B3 := Lib.hid b3'
      have I2 := Lib.hid ((I2.out.below b3).mono b3.size)
      have I3 := Lib.hid i3
      have H4 := Lib.hid (HCY.out w3 ((HE.out.below b3').mono b3'.size) hl hcap)
      clear b3 b3' i3
      go_wp2_with fail
      refine H4.out.mono ?_
      rintro e w4 ⟨v4, rfl, _, b4⟩
      have B4 := Lib.hid (B3.out.trans (b4.mono B3.out.size))
      have I2 := Lib.hid ((I2.out.below b4).mono b4.size)
      have I3 := Lib.hid ((I3.out.below b4).mono b4.size)
      have H5 := eqEdges_any _ _ a2 a3 c2 c3 _ _ w4 I2.out I3.out l2 l3
      rw [decide_eq_true rfl] at H5
      have H5 := Lib.hid H5
      clear b4
      go_wp2_with fail
      refine H5.out.mono ?_
      rintro e w5 ⟨rfl, q5, hw5⟩
      have b5 : Below w4.heap.size w4 w5 := by rw [hw5]; exact below_drewN' (Below.refl _ _)
      have B5 := Lib.hid (B4.out.trans (b5.mono B4.out.size))
      have I5 := Lib.hid ((I2.out.below b5).mono b5.size)
      have H6 := Lib.hid (someEdge_any w5.heap.size a2 c2 38 (edgesOf L) #[] selfE w5 I5.out (Nat.le_refl _) l2 (enters_of Try.func38 (by kernel_rfl) rfl) (fun W x hb => (selfE_any x W).mono fun e w' h => ⟨h.1, hb.trans (h.2.mono hb.size)⟩))
      clear b5 hw5 H5
      go_wp2_with fail
      refine H6.out.mono ?_
      rintro e w6 ⟨rfl, b6⟩
      have B6 := Lib.hid (B5.out.trans (b6.mono B5.out.size))
      have I6 := Lib.hid ((I5.out.below b6).mono b6.size)
      have E6 := Lib.hid ((HE.out.below B6.out).mono B6.out.size)
      obtain ⟨ls, hls⟩ : ∃ ls, (edgesOf L).any selfE = ls := ⟨_, rfl⟩
      rw [hls] at HZZ ⊢
      clear b6 H6 hls
      go_wp2_with fail
      go_loopw [60] (fun i wr => ∃ k : Nat, k ≤ N ∧ i = .int .i64 k ∧ Hid (Below w6.heap.size w6 wr)) (fun i _ => N - (intOf i).toNat)
      case atStart => exact ⟨0, Nat.zero_le _, rfl, Lib.hid (Below.refl _ _)⟩
      case round =>
        obtain ⟨i, hi, rfl, hb⟩ := hrel
        by_cases hlt : i < N
        · have G0 : Hid (OwnN w6.heap.size (gathK N (gN es) i 0) (.slice none 0 0) wr) := Lib.hid (by simpa [gathK] using OwnN.nil w6.heap.size wr)
          go_wp2_with fail
          go_loopw [13, 65] (fun v j wx => ∃ q : Nat, q ≤ es.length ∧ j = .int .i64 q ∧ Hid (OwnN w6.heap.size (gathK N (gN es) i q) v wx) ∧ Hid (Below w6.heap.size w6 wx)) (fun _ j _ => es.length - (intOf j).toNat)
          case atStart => exact ⟨0, Nat.zero_le _, rfl, G0, hb⟩
          case round =>
            obtain ⟨q, hq, rfl, HO, hbx⟩ := hrel
            by_cases hlq : q < es.length
            · obtain ⟨bl, off, rfl, hbb, hcc⟩ := E6.out.some_ (by omega)
              obtain ⟨d1, d2⟩ := hcc q hlq
              obtain ⟨a, b, hev, haN, hbN, hge⟩ := HOK.out.at_ hlq
              rw [hev] at d1 d2
              have p1 := (hbx.out.cell (p := ⟨bl, off + q * 2, none⟩) hbb).trans d1
              have p2 := (hbx.out.cell (p := ⟨bl, off + q * 2 + 1, none⟩) hbb).trans d2
              simp only [] at p1 p2
              have hbs := hbx.out.size
              have hbb2 : bl < wr.heap.size := by omega
              have b0 : Below wr.heap.size wr (wr.alloc (.cells #[.int .i64 (a : Int), .int .i64 (b : Int)] 40)) := (Below.refl _ wr).alloc (Nat.le_refl _) _
              have HOb0 : (wr.alloc (.cells #[.int .i64 (a : Int), .int .i64 (b : Int)] 40)).ownsRow w6.heap.size TI 1 u13 (gathK N (gN es) i q).length (natV (gathK N (gN es) i q)) := World.ownsRow.alloc HO.out _
              obtain ⟨wb, hwb⟩ : ∃ wb, wr.alloc (.cells #[.int .i64 (a : Int), .int .i64 (b : Int)] 40) = wb := ⟨_, rfl⟩
              have c0 : wb.cell? ⟨wr.heap.size, 0, none⟩ = some (.int .i64 (a : Int)) := by rw [← hwb]; simp
              have c1 : wb.cell? ⟨wr.heap.size, 1, none⟩ = some (.int .i64 (b : Int)) := by rw [← hwb]; simp
              rw [hwb] at b0 HOb0
              have BB := Lib.hid (hbx.out.trans (b0.mono hbs))
              have hgs := gathK_succ (N := N) i hge
              have hgl := gathK_len (N := N) (g := gN es) i q (by rw [gN_length]; omega)
              have hgl2 : (gathK N (gN es) i q).length ≤ 480 := Nat.le_trans hgl (Nat.mul_le_mul (by omega : q ≤ 40) hN12.1)
              by_cases hai : a = i
              · have t1 : ((a : Int) == (i : Int)) = true := by rw [hai]; simp
                rw [if_pos hai] at hgs
                have HGS := Lib.hid hgs
                have hbb3 := B6.out.trans (BB.out.mono B6.out.size)
                have H8 := Lib.hid (HRE.out b wb hbN ((HE.out.below hbb3).mono hbb3.size))
                have HOb := Lib.hid HOb0
                clear hgs hgl hcc d1 d2 hev hge hai b0 HOb0 hbb3
                go_wp2_with fail
                refine H8.out.mono ?_
                rintro e w8 ⟨v8, rfl, ⟨a8, c8, rfl, i8, l8⟩, b8⟩
                have hbR : b ∈ selN N (reachP (gN es) b) := mem_selN.2 ⟨hbN, reachP_iff.2 .refl⟩
                have hRl := selN_length N (reachP (gN es) b)
                obtain ⟨R, hR⟩ : ∃ R, selN N (reachP (gN es) b) = R := ⟨_, rfl⟩
                rw [hR] at hbR hRl i8 HGS ⊢
                obtain ⟨b8', o8, rfl, _, hc8⟩ := i8.some_ (by have := List.length_pos_of_mem hbR; rw [intsOf_length]; omega)
                have HN8 : Hid (∀ (j : Nat) (u : Value), (natV R)[j]? = some u → w8.cell? ((⟨b8', o8, none⟩ : Addr).add j) = some u) := Lib.hid (fun j u hu => by
                  have hj : j < R.length := by
                    have := (List.getElem?_eq_some_iff.1 hu).1
                    simpa [natV] using this
                  have h := hc8 j (by rw [intsOf_length]; exact hj)
                  have e : (natV R)[j]? = some (.int .i64 ((intsOf R)[j]?.getD 0)) := by simp [natV, intsOf, hj]
                  rw [e] at hu
                  cases hu
                  rw [Go.WideShapes.add_plain]
                  exact h)
                have HO8 := Lib.hid (own_far (B0 := 0) HOb.out (grownOf b8) (fun r e => by cases e))
                have B8 := Lib.hid (BB.out.trans (b8.mono BB.out.size))
                have hs8 := B8.out.size
                have hone : ∀ u ∈ natV R, u.oneCell' = true := by
                  intro u hu
                  unfold natV at hu
                  obtain ⟨y, _, rfl⟩ := List.mem_map.1 hu
                  rfl
                have HONE := Lib.hid hone
                have hRi := intsOf_length R
                rw [hRi]
                clear i8 hc8 b8 hone hR l8 hRi
                go_wp2_with (at_builtin; refine wpList_append_own _ rfl _ _ 28 rfl w6.heap.size TI i1 (.int .i64 0) 1 8 Try.underlying28 ji jz0 jz1 jz2 rfl (by decide) _ _ _ rfl HO8.out ⟨b8', o8, none⟩ R.length c8 (natV R) rfl (by simp [natV]) HN8.out HONE.out (by unfold maxLen; omega) (by omega) hs8 ?_)
                intro v' w10 hown' hgrow hnil
                have HO3 : Hid (OwnN w6.heap.size (gathK N (gN es) i (q + 1)) v' w10) := Lib.hid (by rw [HGS.out]; unfold OwnN; simpa [natV] using hown')
                have HB3 : Hid (Below w6.heap.size w6 w10) := Lib.hid (B8.out.grown hgrow hs8 (fun i hi => (HO8.out.lt i hi).1))
                clear hown' hgrow hnil
                go_wp2
                refine ⟨⟨q + 1, by omega, by go_num, HO3, HB3⟩, ?_⟩
                simp only [intOf]
                omega
              · have t1 : ((a : Int) == (i : Int)) = false := by rw [beq_eq_false_iff_ne]; omega
                rw [if_neg hai, List.append_nil] at hgs
                have HO2 : Hid (OwnN w6.heap.size (gathK N (gN es) i (q + 1)) u13 wb) := Lib.hid (by rw [hgs]; exact HOb0)
                clear hgs hgl hcc d1 d2 hev hge hai b0 HOb0
                go_wp2
                refine ⟨⟨q + 1, by omega, by go_num, HO2, BB⟩, ?_⟩
                simp only [intOf]
                omega
            · obtain rfl : q = es.length := by omega
              go_wp2_with fail
              go_loopw [82] (fun j wx => ∃ k : Nat, k ≤ N ∧ j = .int .i64 k ∧ Hid (Ints wx u13 (gathK N (gN es) i es.length)) ∧ Hid (Below w6.heap.size w6 wx)) (fun j _ => N - (intOf j).toNat)
              case atStart => exact ⟨0, Nat.zero_le _, rfl, Lib.hid HO.out.known, hbx⟩
              case round =>
                obtain ⟨k, hk, rfl, HI, hby⟩ := hrel
                by_cases hkN : k < N
                · have hme := HME.out i k hlt hkN
                  rw [gN_length] at hme
                  have I7 := (I6.out.below hby.out).mono hby.out.size
                  have H9 := hasEdge_any wr.heap.size a2 c2 (edgesOf L) ((i : Int), (k : Int)) wr I7 l2
                  rw [contains_edgesOf] at H9
                  obtain ⟨r, hr⟩ : ∃ r, L.contains (i, k) = r := ⟨_, rfl⟩
                  rw [hr] at hme H9
                  unfold encE at H9
                  have H9 := Lib.hid H9
                  have HMEr := Lib.hid hme
                  clear hme hr I7
                  go_wp2_with fail
                  refine H9.out.mono ?_
                  rintro e w11 ⟨rfl, b11⟩
                  have HI2 := Lib.hid (HI.out.below b11)
                  have B11 := Lib.hid (hby.out.trans (b11.mono hby.out.size))
                  obtain ⟨a5, c5, e5, i5, l5⟩ := HI2.out
                  have H10 := hasInt_any w11.heap.size a5 c5 _ (k : Int) w11 i5 l5
                  rw [← e5, contains_intsOf, HMEr.out] at H10
                  have H10 := Lib.hid H10
                  clear e5 i5 l5 b11
                  go_wp2_with fail
                  refine H10.out.mono ?_
                  rintro e w12 ⟨rfl, hw12⟩
                  rw [hw12]
                  cases r
                  · go_wp2
                    refine ⟨⟨k + 1, by omega, by go_num, HI2, B11⟩, ?_⟩
                    simp only [intOf]
                    omega
                  · go_wp2
                    refine ⟨⟨k + 1, by omega, by go_num, HI2, B11⟩, ?_⟩
                    simp only [intOf]
                    omega
                · go_wp2
                  refine ⟨⟨i + 1, by omega, by go_num, hby⟩, ?_⟩
                  simp only [intOf]
                  omega
        · have hz2 := HZZ.out
          go_wp2_with fail
          refine (HAW.out _).mono ?_
          rintro e w9 ⟨rfl, b9⟩
          have B9 := (B6.out.trans (hb.out.mono B6.out.size)).trans (b9.mono (by have := B6.out.size; have := hb.out.size; omega))
          go_wp2
          go_ret
          exact ⟨rfl, B9⟩
    · obtain ⟨c, hc2⟩ : ∃ c, chkE n es = c := ⟨_, rfl⟩
      rw [hc2] at h1 hc
      have q1 : (c != 0) = true := by rw [bne_iff_ne]; exact hc
      have H1 := Lib.hid h1
      clear h1 hc hc2
      go_enter Try.func10, Try.ntmps10
      go_wp2_with fail
      refine HGR.out.mono ?_
      rintro e w0 ⟨rfl, rfl⟩
      go_wp2_with fail
      refine H1.out.mono ?_
      rintro e w1 ⟨rfl, b1, _⟩
      go_wp2_with fail
      refine (HAW.out _).mono ?_
      rintro e w9 ⟨rfl, b9⟩
      go_wp2
      go_ret
      exact ⟨rfl, b1.trans (b9.mono b1.size)⟩
  · go_enter Try.func10, Try.ntmps10
    go_wp2_with fail
    refine HGR.out.mono ?_
    rintro e w0 ⟨rfl, rfl⟩
    go_wp2_with fail
    refine (HAW.out _).mono ?_
    rintro e w9 ⟨rfl, b9⟩
    go_wp2
    go_ret
    exact ⟨rfl, b9⟩

end Go.Proofs.Ytcggmonnajggcaa
