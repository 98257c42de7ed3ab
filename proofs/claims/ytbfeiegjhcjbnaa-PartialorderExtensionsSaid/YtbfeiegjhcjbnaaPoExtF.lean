/-
  What the program's Extensions and Least of partialorder return.
-/
import Derived.Test.YtbfeiegjhcjbnaaPoExts
namespace Go.Proofs.Ytbfeiegjhcjbnaa
open Go.RowKit Go.Shelf
attribute [local go_sem] Oper.semAt_some

/-- What Extensions returns. -/
def exsE (n : Int) (es : List (Int × Int)) (most : Int) : Int := if poE n es = 0 then (if most < 0 ∨ 5000 < most then 2 else 0) else poE n es
def exsL (n : Int) (es : List (Int × Int)) (most : Int) : List (List Nat) := if exsE n es most = 0 then (extN n.toNat (relG (gN es)) n.toNat []).take most.toNat else []
/-- A call that returns lists and an error. -/
def GivL (ll : List (List Nat)) (x : Int) (w : World) (e : Ending) (w' : World) : Prop := ∃ v vs, e = .returned (.tuple #[v, .int .i64 x]) ∧ LisR w.heap.size ll v vs w' ∧ Below w.heap.size w w'
theorem LisR.nil (B : Nat) (W : World) : LisR B [] (.slice none 0 0) [] W := ⟨World.ownsRow_nil _ _ _ _, rfl, fun i x u h => by simp at h⟩

set_option maxRecDepth 100000 in
set_option maxHeartbeats 8000000 in
theorem extensions_ok (N most : Nat) (ad : Option Addr) (cap len : Nat) (f : Nat → Nat → Bool) (w : World) (hN : N ≤ 200) (hmost : most ≤ 5000) (hL : Low2 N f)
    (HS : Calls Try.prog 39 #[.int .i64 (N : Int), .slice ad len cap] (w.alloc (.cells #[.int .i64 (most : Int)] 3)) fun e w' => ∃ A g, e = .returned (.tuple #[matV A N, .int .i64 0]) ∧ Below (w.heap.size + 1) (w.alloc (.cells #[.int .i64 (most : Int)] 3)) w' ∧ MatK 0 A N N g f w') :
    Calls Try.prog 28 #[.int .i64 (N : Int), .slice ad len cap, .int .i64 (most : Int)] w (GivL ((extN N f N []).take most) 0 w) := by
  obtain ⟨w1, hw1⟩ : ∃ x, w.alloc (.cells #[.int .i64 (most : Int)] 3) = x := ⟨_, rfl⟩
  have a1 := World.alloc_heap_new w (.cells #[.int .i64 (most : Int)] 3)
  have s1 : w1.heap.size = w.heap.size + 1 := by rw [← hw1]; simp
  have g1 : w.grownBy w1 none := by rw [← hw1]; exact World.grownBy_alloc w _ none
  rw [hw1] at a1 HS
  have HS := Lib.hid HS
  have A1 := Lib.hid a1
  have G1 := Lib.hid g1
  have m1 : decide ((5000 : Int) < (most : Int)) = false := by rw [decide_eq_false_iff_not]; omega
  have m2 : decide ((most : Int) < 0) = false := by rw [decide_eq_false_iff_not]; omega
  clear a1 g1
  refine (callsIn_wide (n := 9)).1 ?_
  refine callsIn_of_wp_marks Try.func28 rfl trivial ?_ rfl
  simp only [Try.ntmps28, List.size_toArray, List.length_cons, List.length_nil, Nat.reduceAdd, Nat.reduceSub, Array.replicate_succ, Array.replicate_zero, List.push_toArray, List.append_toArray, List.nil_append, List.cons_append]
  gi_wp2_with fail
  refine ⟨trivial, ?_⟩
  refine (callsIn_wide.2 HS.out).mono ?_
  rintro e w2 ⟨A, g, rfl, b2, hm2⟩
  have t2 := (b2.block w.heap.size (by omega)).trans A1.out
  have c2 := box_cell t2
  have hs2 := b2.size
  obtain ⟨w3, hw3⟩ : ∃ x, w2.alloc (.cells #[.slice none 0 0] 36) = x := ⟨_, rfl⟩
  have a3 := World.alloc_heap_new w2 (.cells #[.slice none 0 0] 36)
  have s3 : w3.heap.size = w2.heap.size + 1 := by rw [← hw3]; simp
  have g3 : w2.grownBy w3 none := by rw [← hw3]; exact World.grownBy_alloc w2 _ none
  rw [hw3] at a3
  have HM2 := Lib.hid hm2
  have B2 := Lib.hid b2
  have T2 := Lib.hid t2
  have A3 := Lib.hid a3
  have G3 := Lib.hid g3
  have HX := Lib.hid (extensions_any A N w3)
  clear hm2 b2 t2 a3 g3
  gi_wp2_with fail
  refine ⟨trivial, ?_⟩
  refine (callsIn_wide.2 HX.out).mono ?_
  rintro e w4 ⟨rfl, hw4⟩
  have s4 : w4.heap.size = w3.heap.size + 1 := by rw [hw4]; simp
  have r4 : w4.heap[w3.heap.size]? = some (.cells #[matV A N] 53 (0, 0)) := by rw [hw4]; exact World.alloc_heap_new w3 _
  have g4 : w3.grownBy w4 none := by rw [hw4]; exact World.grownBy_alloc w3 _ none
  clear hw4
  have hT4 : w4.heap[w.heap.size]? = some (.cells #[.int .i64 (most : Int)] 3 (0, 0)) := (g4.block _ (by omega) (by simp)).trans ((G3.out.block _ (by omega) (by simp)).trans T2.out)
  have hE4 : w4.heap[w2.heap.size]? = some (.cells #[.slice none 0 0] 36 (0, 0)) := (g4.block _ (by omega) (by simp)).trans A3.out
  have hB4 : Below w.heap.size w w4 := by
    have k1 : Below w.heap.size w w1 := ⟨G1.out.os, G1.out.tape, G1.out.output, G1.out.size, fun b hb => G1.out.block b hb (by simp)⟩
    have k2 : Below w.heap.size w1 w2 := B2.out.mono (by omega)
    have k3 : Below w.heap.size w2 w3 := ⟨G3.out.os, G3.out.tape, G3.out.output, G3.out.size, fun b hb => G3.out.block b (by omega) (by simp)⟩
    have k4 : Below w.heap.size w3 w4 := ⟨g4.os, g4.tape, g4.output, g4.size, fun b hb => g4.block b (by omega) (by simp)⟩
    exact ((k1.trans k2).trans k3).trans k4
  have hm4 : MatK 0 A N N g f w4 := (HM2.out.grown G3.out).grown g4
  have hmA : A < w2.heap.size := HM2.out.lt.2
  have hmG : ∀ i, i < N → g i < w2.heap.size := fun i hi => (HM2.out.lt_row hi).2
  have hc0 : ColI w w.heap.size w2.heap.size most (phiC w2.heap.size (.slice none 0 0) []) [] (.slice none 0 0) [] w4 := {
    below := hB4
    hT := Nat.le_refl _
    hE := by omega
    t := hT4
    e := hE4
    l := LisR.nil _ _
    phi := fun b h => h
    phi' := fun b h => h }
  have hphi0 : ∀ b, phiC w2.heap.size (.slice none 0 0) [] b → b = w2.heap.size := fun b h => by
    rcases h with h | h | ⟨u, hu, _⟩
    · exact h
    · simp [Value.ownBlock] at h
    · simp at hu
  rw [s3] at r4
  have HC0 := Lib.hid hc0
  have HP0 := Lib.hid hphi0
  have HM4 := Lib.hid hm4
  have HR4 := Lib.hid r4
  have HMG := Lib.hid hmG
  have hs42 : w4.heap.size = w2.heap.size + 2 := by omega
  clear hT4 hE4 hB4 hm4 hc0 hphi0 r4 g4 hmG hw1 hw3 c2
  gi_wp2_with fail
  refine wpIn_range_coll (gf := 68) (lb := #[ptrV (w2.heap.size + 1)]) (X := extN N f N []) rfl (enters_of Try.func68 (by kernel_rfl) rfl)
    (phiC w2.heap.size (.slice none 0 0) []) (fun Φ pre W => pre.length ≤ most ∧ ∃ v vs, ColI w w.heap.size w2.heap.size most Φ pre v vs W) (fun c Φ pre W => c = .exit 0 ∧ ∃ ll x v vs, pre = ll ++ [x] ∧ ll.length = most ∧ ColI w w.heap.size w2.heap.size most Φ ll v vs W)
    ?own ?ownx ?turn ?turnx ?cells ?cellsx ⟨Nat.zero_le _, _, _, HC0.out⟩ ?hit
    (fun v => { tmps := #[.int .i64 (N : Int), .slice ad len cap, .int .i64 (most : Int), undef, undef, ptrV w.heap.size, .slice none 0 0, .int .i64 0, matV A N, .int .i64 0, ptrV w2.heap.size, v, .tuple #[matV A N, .int .i64 0], .int .i64 (N : Int), .slice ad len cap, .tuple #[matV A N, .int .i64 0], matV A N, .int .i64 0, .int .i64 0, .bool false, undef, .int .i64 (most : Int), .bool false, .bool false, .int .i64 (most : Int), .bool false, .bool false, matV A N, .func (.func 68) #[] #[ptrV (w2.heap.size + 1)], v, undef, undef, undef, undef, undef, undef, undef, undef, undef], defers := [] })
    ?assign ?body ?done ?stop
  case own =>
    rintro Φ pre A' B ⟨h1, v, vs, h⟩ k
    exact ⟨h1, v, vs, h.own (by omega) k (by omega)⟩
  case ownx =>
    rintro c Φ pre A' B ⟨h0, ll, x, v, vs, h1, h2, h⟩ k
    exact ⟨h0, ll, x, v, vs, h1, h2, h.own (by omega) k (by omega)⟩
  case turn =>
    rintro Φ pre A' B r o ⟨h1, v, vs, h⟩ hg ho hc hr
    exact ⟨h1, v, vs, h.turn hg ho hc (by omega)⟩
  case turnx =>
    rintro c Φ pre A' B r o ⟨h0, ll, x, v, vs, h1, h2, h⟩ hg ho hc hr
    exact ⟨h0, ll, x, v, vs, h1, h2, h.turn hg ho hc (by omega)⟩
  case cells =>
    rintro Φ pre A' ⟨h1, v, vs, h⟩
    exact h.cells
  case cellsx =>
    rintro c Φ pre A' ⟨h0, ll, x, v, vs, h1, h2, h⟩
    exact h.cells
  case hit =>
    intro J Jx W1 hC hg hsz hJ
    exact (callsIn_wide (n := 9)).1 (iter_any hC hN hL _ W1 ((hg.block _ (lt_of_heap HR4.out) (by simp)).trans HR4.out) (HM4.out.grown hg) (fun h => by have := HP0.out _ h; omega) (fun h => by have := HP0.out _ h; omega) (fun i hi h => by have := HP0.out _ h; have := HMG.out i hi; omega) hJ (by omega))
  case assign =>
    intro lp v W K hK
    gi_wp2
    exact hK
  case body =>
    rintro lp Φ pre x vx M W ⟨hlen, v, vs, hI⟩ hcl hM hx
    obtain ⟨a0, c0, rfl, _, _⟩ := own_sliceS hI.l.1
    have t5 := box_cell hI.t
    have t10 := box_cell hI.e
    have z10 := Lib.frozen_of_heap hI.e 0
    obtain ⟨ax, nx, cx, hvx⟩ : ∃ a n c, vx = .slice a n c := by
      rcases hcl with ⟨rfl, _⟩ | ⟨G, c, rfl, _⟩
      · exact ⟨_, _, _, rfl⟩
      · exact ⟨_, _, _, rfl⟩
    by_cases hfull : pre.length = most
    · have m3 : ((pre.length : Int) == (most : Int)) = true := by rw [beq_iff_eq]; omega
      have m4 : (pre.length == most) = true := by rw [beq_iff_eq]; omega
      have HI := Lib.hid hI
      clear hI hcl
      gi_wp2
      exact ⟨KeepsOthers.refl _, Φ, Fr.refl _ _ _ _ _, rfl, pre, x, _, vs, rfl, hfull, HI.out⟩
    · have m3 : ((pre.length : Int) == (most : Int)) = false := by rw [beq_eq_false_iff_ne]; omega
      have m4 : (pre.length == most) = false := by rw [beq_eq_false_iff_ne]; omega
      obtain ⟨Wa, hWa⟩ : ∃ y, W.alloc (.cells #[vx] 23) = y := ⟨_, rfl⟩
      have aa := World.alloc_heap_new W (.cells #[vx] 23)
      have sa : Wa.heap.size = W.heap.size + 1 := by rw [← hWa]; simp
      have ga : W.grownBy Wa none := by rw [← hWa]; exact World.grownBy_alloc W _ none
      rw [hWa] at aa
      have hwW := hI.below.size
      have hla : Wa.ownsRow w.heap.size TL 1 (.slice a0 pre.length c0) pre.length vs := own_nilkeep hI.l.1 (fun b hb => by
        obtain ⟨_, c', hc⟩ := own_nilType hI.l.1 b hb
        exact ga.block b (lt_of_heap hc) (by simp))
      obtain ⟨v', Wb, gn, hrun, ho', hv', hcase⟩ := appendL hla (by omega) (u := vx) (by rw [hvx]; rfl) ⟨W.heap.size, 0, none⟩ (box_cell aa) (by omega)
      have gb : Wa.grownBy Wb (some gn) := by
        rcases hcase with ⟨_, h⟩ | ⟨_, h⟩
        · exact h
        · exact grown_weak h _
      have hgnc : (Value.slice a0 pre.length c0).ownBlock = some gn ∨ W.heap.size ≤ gn := hcase.imp (fun h => h.1) (fun h => by omega)
      obtain ⟨hgB, cg, hcg⟩ := own_nilType ho' gn hv'
      obtain ⟨av, cv, hav, _, _⟩ := own_sliceS ho'
      have hEa : Wa.heap[w2.heap.size]? = some (.cells #[.slice a0 pre.length c0] 36 (0, 0)) := (ga.block _ (lt_of_heap hI.e) (by simp)).trans hI.e
      have hgE : gn ≠ w2.heap.size := fun e => by
        subst e
        rcases hgnc with h | h
        · obtain ⟨_, c', hc⟩ := own_nilType hI.l.1 _ h
          rw [hI.e] at hc
          injection hc with hc
          injection hc with _ hc _
          exact absurd hc (by decide)
        · have := lt_of_heap hI.e
          omega
      have hEb : Wb.heap[w2.heap.size]? = some (.cells #[.slice a0 pre.length c0] 36 (0, 0)) := (gb.block _ (lt_of_heap hEa) (by simpa using Ne.symm hgE)).trans hEa
      obtain ⟨Wc, hWc⟩ : ∃ y, Wb.setCell ⟨w2.heap.size, 0, none⟩ v' = y := ⟨_, rfl⟩
      have gc : Wb.grownBy Wc (some w2.heap.size) := by rw [← hWc]; exact grownBy_setCell' Wb _ _
      have hEc : Wc.heap[w2.heap.size]? = some (.cells #[v'] 36 (0, 0)) := by
        rw [← hWc, heap_setCell_same Wb _ 0 _ _ _ hEb]
        rfl
      have zb := Lib.frozen_of_heap hEb 0
      have cb := box_cell hEb
      -- what none of the steps has turned
      have kk : ∀ b, b < W.heap.size → b ≠ gn → b ≠ w2.heap.size → Wc.heap[b]? = W.heap[b]? := fun b hb h1 h2 => by
        rw [gc.block b (by have := gb.size; omega) (by simpa using h2), gb.block b (by omega) (by simpa using h1), ga.block b hb (by simp)]
      have hsz : W.heap.size ≤ Wc.heap.size := by have := gb.size; have := gc.size; omega
      have hgnPhi : gn < W.heap.size → Φ gn := fun h => by
        rcases hgnc with h1 | h1
        · exact hI.phi' gn (.inr (.inl h1))
        · omega
      have hEPhi : Φ w2.heap.size := hI.phi' _ (.inl rfl)
      have hTgn : w.heap.size ≠ gn := fun e => by
        rcases hgnc with h1 | h1
        · obtain ⟨_, c', hc⟩ := own_nilType hI.l.1 _ h1
          rw [← e, hI.t] at hc
          injection hc with hc
          injection hc with _ hc _
          exact absurd hc (by decide)
        · have := lt_of_heap hI.t
          omega
      have helT : ∀ (y : List Nat) (u : Value), ElR w.heap.size y u W → ElR w.heap.size y u Wc := fun y u h => h.keep (fun b hb => by
        obtain ⟨c', hc⟩ := h.type b hb
        refine kk b (lt_of_heap hc) (fun e => ?_) (fun e => ?_)
        · subst e
          rcases hgnc with h1 | h1
          · obtain ⟨_, c2, hc2⟩ := own_nilType hI.l.1 _ h1
            rw [hc] at hc2
            injection hc2 with hc2
            injection hc2 with _ hc2 _
            exact absurd hc2 (by decide)
          · have := lt_of_heap hc
            omega
        · subst e
          rw [hI.e] at hc
          injection hc with hc
          injection hc with _ hc _
          exact absurd hc (by decide))
      have hxel : ElR w.heap.size x vx W := by
        rcases hcl with h | ⟨G, c, e, ho, h1, h2⟩
        · exact .inl h
        · exact .inr ⟨G, c, e, ownsRow_base (by omega) ho⟩
      have hI2 : ColI w w.heap.size w2.heap.size most (phiC w2.heap.size v' (vs ++ [vx])) (pre ++ [x]) v' (vs ++ [vx]) Wc := {
        below := hI.below.trans ⟨gc.os.trans (gb.os.trans ga.os), gc.tape.trans (gb.tape.trans ga.tape), gc.output.trans (gb.output.trans ga.output), hsz, fun b hb => kk b (by omega) (by omega) (by omega)⟩
        hT := hI.hT
        hE := hI.hE
        t := (kk _ (lt_of_heap hI.t) hTgn (by omega)).trans hI.t
        e := hEc
        l := by
          refine ⟨?_, by simp [hI.l.2.1], fun i y u hy hu => ?_⟩
          · rw [List.length_append]
            exact own_nilkeep ho' (fun b hb => by
              rw [hv'] at hb
              cases hb
              exact gc.block gn (lt_of_heap hcg) (by simpa using hgE))
          · have hl := hI.l.2.1
            by_cases hi : i < pre.length
            · rw [List.getElem?_append_left hi] at hy
              rw [List.getElem?_append_left (by omega)] at hu
              exact helT y u (hI.l.2.2 i y u hy hu)
            · have hi2 := (List.getElem?_eq_some_iff.1 hy).1
              simp at hi2
              have e : i = pre.length := by omega
              subst e
              rw [List.getElem?_append_right (Nat.le_refl _), Nat.sub_self] at hy
              rw [List.getElem?_append_right (by omega), hl, Nat.sub_self] at hu
              simp at hy hu
              subst hy
              subst hu
              exact helT _ _ hxel
        phi := fun b h => h
        phi' := fun b h => h }
      have hFr : Fr (w4.heap.size + 2) M Φ (phiC w2.heap.size v' (vs ++ [vx])) none W Wc := ⟨gc.os.trans (gb.os.trans ga.os), gc.tape.trans (gb.tape.trans ga.tape), gc.output.trans (gb.output.trans ga.output), hsz, fun b o hbM hb hn _ _ => (kk b (lt_of_heap hb) (fun e => by
        subst e
        exact hn (hgnPhi (lt_of_heap hb))) (fun e => by
        subst e
        exact hn hEPhi)).trans hb, fun b hb => by
        rcases hb with rfl | hb | ⟨u, hu, hb⟩
        · exact .inl hEPhi
        · rw [hv'] at hb
          cases hb
          by_cases hlt : gn < W.heap.size
          · exact .inl (hgnPhi hlt)
          · exact .inr (by omega)
        · rcases List.mem_append.1 hu with hu | hu
          · exact .inl (hI.phi' b (.inr (.inr ⟨u, hu, hb⟩)))
          · simp at hu
            subst hu
            rcases hcl with ⟨rfl, _⟩ | ⟨G, c, rfl, ho, h1, h2⟩
            · simp [Value.ownBlock] at hb
            · simp [Value.ownBlock] at hb
              exact .inr (by omega)⟩
      have hKO : KeepsOthers W Wc := ⟨hsz, fun k o hk ho => (kk k (lt_of_heap hk) (fun e => by
        subst e
        obtain ⟨c', t', z', hc⟩ := hI.cells _ (hgnPhi (lt_of_heap hk))
        rw [hk] at hc
        cases hc
        simp [Obj.isCells] at ho) (fun e => by
        subst e
        rw [hI.e] at hk
        cases hk
        simp [Obj.isCells] at ho)).trans hk⟩
      have HI2 := Lib.hid hI2
      have HFr := Lib.hid hFr
      have HKO := Lib.hid hKO
      have HRUN := Lib.hid hrun
      have hlen2 : (pre ++ [x]).length ≤ most := by simp; omega
      clear hI hcl hI2 hFr hKO hxel helT hTgn hEPhi hgnPhi kk hEc gc hEb hgE hEa hcg hgnc gb hcase ho' hla ga aa hrun
      subst hvx
      subst hav
      gi_wp2_with (gi_at_builtin; refine wpListIn_append_run _ rfl _ _ 36 rfl _ _ _ _ rfl rfl HRUN.out ?_)
      gi_wp2
      exact ⟨HKO.out, _, HFr.out, hlen2, _, _, HI2.out⟩
  case done =>
    rintro D Φ W hD ⟨hlen, v, vs, hI⟩ hK
    have t10 := box_cell hI.e
    have gD := grownBy_putObj' W D (.deferred none)
    have HI2 := Lib.hid (hI.turn gD hK rfl (by omega))
    have HTK : Hid ((extN N f N []).take most = extN N f N []) := Lib.hid (List.take_of_length_le hlen)
    have HK := Lib.hid hK
    clear hI gD hK
    gi_wp2
    refine ⟨by simp, .inl ⟨_, _, rfl, run_takeDeferred HK.out, ?_⟩⟩
    exact ⟨_, results_tmp2 rfl _ _ _, _, _, rfl, by rw [HTK.out]; exact HI2.out.l, HI2.out.below⟩
  case stop =>
    rintro D c Φ q W hD hq ⟨rfl, ll, x, v, vs, rfl, hll, hI⟩ hK
    have t10 := box_cell hI.e
    have gD := grownBy_putObj' W D (.deferred none)
    have HI2 := Lib.hid (hI.turn gD hK rfl (by omega))
    have HTK : Hid ((extN N f N []).take most = ll) := Lib.hid (by
      obtain ⟨t, ht⟩ := hq
      rw [← ht, List.append_assoc, List.take_append_of_le_length (by omega), List.take_of_length_le (by omega)])
    have HK := Lib.hid hK
    clear hI gD hK hq
    gi_wp2
    refine ⟨by simp, .inl ⟨_, _, rfl, run_takeDeferred HK.out, ?_⟩⟩
    exact ⟨_, results_tmp2 rfl _ _ _, _, _, rfl, by rw [HTK.out]; exact HI2.out.l, HI2.out.below⟩

set_option maxRecDepth 100000 in
set_option maxHeartbeats 8000000 in
theorem extensionsF_any (n most : Int) (ad : Option Addr) (cap : Nat) (es : List (Int × Int)) (w : World) (hE : EdgesA w.heap.size w ad es) (hl : es.length ≤ 9223372036854775807) :
    Calls Try.prog 28 #[.int .i64 n, .slice ad es.length cap, .int .i64 most] w (GivL (exsL n es most) (exsE n es most) w) := by
  have b1 : Below w.heap.size w (w.alloc (.cells #[.int .i64 most] 3)) := (Below.refl _ w).alloc (Nat.le_refl _) _
  have s1 : (w.alloc (.cells #[.int .i64 most] 3)).heap.size = w.heap.size + 1 := by simp
  have HSO := strictOrder_any n ad cap es (w.alloc (.cells #[.int .i64 most] 3)) ((hE.below b1).mono b1.size) hl
  have a1 := World.alloc_heap_new w (.cells #[.int .i64 most] 3)
  by_cases hp : poE n es = 0
  · by_cases hm : most < 0 ∨ 5000 < most
    · have h1 : exsE n es most = 2 := by unfold exsE; rw [if_pos hp, if_pos hm]
      have h2 : exsL n es most = [] := by unfold exsL; rw [if_neg (by rw [h1]; decide)]
      have HS : Hid (Calls Try.prog 39 #[.int .i64 n, .slice ad es.length cap] (w.alloc (.cells #[.int .i64 most] 3)) fun e w' => ∃ v, e = .returned (.tuple #[v, .int .i64 0]) ∧ Below (w.alloc (.cells #[.int .i64 most] 3)).heap.size (w.alloc (.cells #[.int .i64 most] 3)) w') := Lib.hid (HSO.mono (by
        rintro e w' ⟨v, rfl, hb, _⟩
        exact ⟨v, by rw [hp], hb⟩))
      rw [h1, h2]
      obtain ⟨w1, hw1⟩ : ∃ x, w.alloc (.cells #[.int .i64 most] 3) = x := ⟨_, rfl⟩
      rw [hw1] at HS a1 b1 s1
      have A1 := Lib.hid a1
      have B1 := Lib.hid b1
      have hd : (decide (most < 0) = true) ∨ (decide (most < 0) = false ∧ decide (5000 < most) = true) := by
        rcases hm with h | h
        · exact .inl (by rw [decide_eq_true_iff]; exact h)
        · by_cases h0 : most < 0
          · exact .inl (by rw [decide_eq_true_iff]; exact h0)
          · exact .inr ⟨by rw [decide_eq_false_iff_not]; exact h0, by rw [decide_eq_true_iff]; exact h⟩
      clear HSO hE a1 b1 hp hm h1 h2
      refine (callsIn_wide (n := 9)).1 ?_
      refine callsIn_of_wp_marks Try.func28 rfl trivial ?_ rfl
      simp only [Try.ntmps28, List.size_toArray, List.length_cons, List.length_nil, Nat.reduceAdd, Nat.reduceSub, Array.replicate_succ, Array.replicate_zero, List.push_toArray, List.append_toArray, List.nil_append, List.cons_append]
      gi_wp2_with fail
      refine ⟨trivial, ?_⟩
      refine (callsIn_wide.2 HS.out).mono ?_
      rintro e w2 ⟨v, rfl, b2⟩
      have c2 := box_cell ((b2.block w.heap.size (by omega)).trans A1.out)
      have HB := Lib.hid (B1.out.trans (b2.mono (by omega)))
      clear b2
      rcases hd with m1 | ⟨m1, m2⟩
      · gi_wp2
        exact ⟨_, results_tmp2 rfl _ _ _, _, [], rfl, LisR.nil _ _, HB.out⟩
      · gi_wp2
        exact ⟨_, results_tmp2 rfl _ _ _, _, [], rfl, LisR.nil _ _, HB.out⟩
    · obtain ⟨m, rfl⟩ : ∃ m : Nat, most = (m : Int) := ⟨most.toNat, by omega⟩
      obtain ⟨hc, _, _⟩ := poE_ok hp
      obtain ⟨N, rfl, hN, hl2, hok⟩ := chk_ok hc
      have h1 : exsE (N : Int) es (m : Int) = 0 := by unfold exsE; rw [if_pos hp, if_neg hm]
      have h2 : exsL (N : Int) es (m : Int) = (extN N (relG (gN es)) N []).take m := by unfold exsL; rw [if_pos h1, Int.toNat_natCast, Int.toNat_natCast]
      rw [h1, h2]
      refine extensions_ok N m ad cap es.length (relG (gN es)) w hN (by omega) (relG_low (gN_lt hok)) (HSO.mono ?_)
      rintro e w' ⟨v, rfl, hb, h | ⟨N', A, g, e1, h2, h3, rfl, h5⟩⟩
      · exact absurd hp h.1
      · have : N = N' := by omega
        subst this
        exact ⟨A, g, by rw [hp], by rw [s1] at hb; exact hb, h5.base (Nat.zero_le _)⟩
  · have h1 : exsE n es most = poE n es := by unfold exsE; rw [if_neg hp]
    have h2 : exsL n es most = [] := by unfold exsL; rw [if_neg (by rw [h1]; exact hp)]
    obtain ⟨z, hz⟩ : ∃ z, poE n es = z := ⟨_, rfl⟩
    rw [h1, h2, hz]
    have HS : Hid (Calls Try.prog 39 #[.int .i64 n, .slice ad es.length cap] (w.alloc (.cells #[.int .i64 most] 3)) fun e w' => ∃ v, e = .returned (.tuple #[v, .int .i64 z]) ∧ Below (w.alloc (.cells #[.int .i64 most] 3)).heap.size (w.alloc (.cells #[.int .i64 most] 3)) w') := Lib.hid (HSO.mono (by
      rintro e w' ⟨v, rfl, hb, _⟩
      exact ⟨v, by rw [hz], hb⟩))
    rw [hz] at hp
    have hzb : (z != 0) = true := by rw [bne_iff_ne]; exact hp
    obtain ⟨w1, hw1⟩ : ∃ x, w.alloc (.cells #[.int .i64 most] 3) = x := ⟨_, rfl⟩
    rw [hw1] at HS b1 s1
    have B1 := Lib.hid b1
    clear HSO hE a1 b1 hp h1 h2 hz
    refine (callsIn_wide (n := 9)).1 ?_
    refine callsIn_of_wp_marks Try.func28 rfl trivial ?_ rfl
    simp only [Try.ntmps28, List.size_toArray, List.length_cons, List.length_nil, Nat.reduceAdd, Nat.reduceSub, Array.replicate_succ, Array.replicate_zero, List.push_toArray, List.append_toArray, List.nil_append, List.cons_append]
    gi_wp2_with fail
    refine ⟨trivial, ?_⟩
    refine (callsIn_wide.2 HS.out).mono ?_
    rintro e w2 ⟨v, rfl, b2⟩
    have HB := Lib.hid (B1.out.trans (b2.mono (by omega)))
    clear b2
    gi_wp2
    exact ⟨_, results_tmp2 rfl _ _ _, _, [], rfl, LisR.nil _ _, HB.out⟩

end Go.Proofs.Ytbfeiegjhcjbnaa
