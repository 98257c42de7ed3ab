/-
  The program's read.
-/
import Derived.Test.YtdgphhdkeikbaaaDoorLxRead
namespace Go.Proofs.YtdgphhdkeikbaaaDoor
set_option linter.unusedSimpArgs false
set_option linter.unusedVariables false
open Go.RowKit

set_option maxRecDepth 100000 in
theorem catch_idle (g : Nat) (w : World) : CallsD Tryd.prog 47 #[.pointer (some ⟨g, 0, none⟩), .pointer (some ⟨g + 1, 0, none⟩), .pointer (some ⟨g + 2, 0, none⟩)] .returning w fun e u' w' => e = .returned (.tuple #[]) ∧ u' = .returning ∧ w' = w := by
  refine callsD_of_wpS Tryd.func47 rfl fun c₀ cs hu => ?_
  apply wpS_seq
  apply wpS_region
  simp [wpOpsS, go_sem, recoverD, hu, Tryd.ntmps47, Exit.thenS]
  apply wpS_seq
  apply wpS_region
  simp [wpOpsS, go_sem, recoverD, hu, Tryd.ntmps47, Exit.thenS]
  refine wpS_cond (t := false) (by simp [Act.eval, Array.replicate]) ?_
  simp only [Bool.false_eq_true, if_false]
  refine wpS_of_wp (wp_skip ?_)
  cases c₀
  simp_all [bodyPostS, results, Tryd.results47]
/-- What read returns. -/
def rdF (r : Rs) : Ex × Nat × Int := match r with
  | .ok e n => (e, n, 0)
  | .bad n => (zeroX, n, 3)
  | .out => (zeroX, 0, 0)
theorem ret_3 {fn : Func} (hf : fn.results = #[.cell 2 TX, .cell 3 3, .cell 4 27]) (V : World) (g : Nat) (e : Ex) (sl : Value) (n m : Int) (tmps : Array Value)
    (v0 : V.heap[g]? = some (.cells #[.int .i64 e.k, .int .i64 e.o, .string e.s, .int .i64 e.v, sl] TX (0, 0))) (v1 : V.heap[g + 1]? = some (.cells #[.int .i64 n] 3 (0, 0))) (v2 : V.heap[g + 2]? = some (.cells #[.int .i64 m] 27 (0, 0)))
    (p2 : tmps.getD 2 undef = .pointer (some ⟨g, 0, none⟩)) (p3 : tmps.getD 3 undef = .pointer (some ⟨g + 1, 0, none⟩)) (p4 : tmps.getD 4 undef = .pointer (some ⟨g + 2, 0, none⟩)) :
    (results fn tmps).run Tryd.prog V = .ok (.tuple #[exV e sl, .int .i64 n, .int .i64 m]) V := by
  have l0 := run_loadVar_row (P := Tryd.prog) V g TX TX _ (0, 0) _ v0 Tryd.underlying26 rfl (by kernel_rfl)
  have d1 : V.cell? ⟨g + 1, 0, none⟩ = some (.int .i64 n) := by rw [Lib.cell_of_heap v1]; rfl
  have d2 : V.cell? ⟨g + 2, 0, none⟩ = some (.int .i64 m) := by rw [Lib.cell_of_heap v2]; rfl
  have l1 : (loadVar 3 ⟨g + 1, 0, none⟩).run Tryd.prog V = .ok (.int .i64 n) V := by
    have a := Tryd.isAgg3
    have z := Tryd.sizeOf3
    go_simp
  have l2 : (loadVar 27 ⟨g + 2, 0, none⟩).run Tryd.prog V = .ok (.int .i64 m) V := by
    have a := Tryd.isAgg27
    have z := Tryd.sizeOf27
    go_simp
  have p2' : tmps[2]?.getD undef = .pointer (some ⟨g, 0, none⟩) := by simpa using p2
  have p3' : tmps[3]?.getD undef = .pointer (some ⟨g + 1, 0, none⟩) := by simpa using p3
  have p4' : tmps[4]?.getD undef = .pointer (some ⟨g + 2, 0, none⟩) := by simpa using p4
  simp only [results, hf]
  simp [Sem.run_bind, asAddr, p2', p3', p4', l0, l1, l2, Result.andThen, exV]
theorem fin7 {W : World} {g : Nat} {k o : Int} {s : ByteArray} {v : Int} {sl : Value} {n : Int} (h0 : W.heap[g]? = some (.cells #[.int .i64 k, .int .i64 o, .string s, .int .i64 v, sl] TX (0, 0))) (h1 : W.heap[g + 1]? = some (.cells #[.int .i64 0] 3 (0, 0))) (h2 : W.heap[g + 2]? = some (.cells #[.int .i64 0] 27 (0, 0))) :
    ∃ V, (((((((W.setCell ⟨g, 0, none⟩ (.int .i64 k)).setCell ⟨g, 1, none⟩ (.int .i64 o)).setCell ⟨g, 2, none⟩ (.string s)).setCell ⟨g, 3, none⟩ (.int .i64 v)).setCell ⟨g, 4, none⟩ sl).setCell ⟨g + 1, 0, none⟩ (.int .i64 n)).setCell ⟨g + 1 + 1, 0, none⟩ (.int .i64 0)).drew = V ∧
      V.heap[g]? = some (.cells #[.int .i64 k, .int .i64 o, .string s, .int .i64 v, sl] TX (0, 0)) ∧ V.heap[g + 1]? = some (.cells #[.int .i64 n] 3 (0, 0)) ∧ V.heap[g + 2]? = some (.cells #[.int .i64 0] 27 (0, 0)) ∧ Below g W V ∧ W.heap.size = V.heap.size ∧ ∀ k, g + 3 ≤ k → V.heap[k]? = W.heap[k]? := by
  obtain ⟨W1, e1⟩ : ∃ V, W.setCell ⟨g, 0, none⟩ (.int .i64 k) = V := ⟨_, rfl⟩
  have a1 : W1.heap[g]? = some (.cells #[.int .i64 k, .int .i64 o, .string s, .int .i64 v, sl] TX (0, 0)) := by rw [← e1]; simpa using heap_setCell_same W g 0 _ _ (.int .i64 k) h0
  have b1 : W1.heap[g + 1]? = some (.cells #[.int .i64 0] 3 (0, 0)) := by rw [← e1, Below.heap_setCell _ _ _ _ (by simp)]; exact h1
  have c1 : W1.heap[g + 2]? = some (.cells #[.int .i64 0] 27 (0, 0)) := by rw [← e1, Below.heap_setCell _ _ _ _ (by simp)]; exact h2
  obtain ⟨W2, e2⟩ : ∃ V, W1.setCell ⟨g, 1, none⟩ (.int .i64 o) = V := ⟨_, rfl⟩
  have a2 : W2.heap[g]? = some (.cells #[.int .i64 k, .int .i64 o, .string s, .int .i64 v, sl] TX (0, 0)) := by rw [← e2]; simpa using heap_setCell_same W1 g 1 _ _ (.int .i64 o) a1
  have b2 : W2.heap[g + 1]? = some (.cells #[.int .i64 0] 3 (0, 0)) := by rw [← e2, Below.heap_setCell _ _ _ _ (by simp)]; exact b1
  have c2 : W2.heap[g + 2]? = some (.cells #[.int .i64 0] 27 (0, 0)) := by rw [← e2, Below.heap_setCell _ _ _ _ (by simp)]; exact c1
  obtain ⟨W3, e3⟩ : ∃ V, W2.setCell ⟨g, 2, none⟩ (.string s) = V := ⟨_, rfl⟩
  have a3 : W3.heap[g]? = some (.cells #[.int .i64 k, .int .i64 o, .string s, .int .i64 v, sl] TX (0, 0)) := by rw [← e3]; simpa using heap_setCell_same W2 g 2 _ _ (.string s) a2
  have b3 : W3.heap[g + 1]? = some (.cells #[.int .i64 0] 3 (0, 0)) := by rw [← e3, Below.heap_setCell _ _ _ _ (by simp)]; exact b2
  have c3 : W3.heap[g + 2]? = some (.cells #[.int .i64 0] 27 (0, 0)) := by rw [← e3, Below.heap_setCell _ _ _ _ (by simp)]; exact c2
  obtain ⟨W4, e4⟩ : ∃ V, W3.setCell ⟨g, 3, none⟩ (.int .i64 v) = V := ⟨_, rfl⟩
  have a4 : W4.heap[g]? = some (.cells #[.int .i64 k, .int .i64 o, .string s, .int .i64 v, sl] TX (0, 0)) := by rw [← e4]; simpa using heap_setCell_same W3 g 3 _ _ (.int .i64 v) a3
  have b4 : W4.heap[g + 1]? = some (.cells #[.int .i64 0] 3 (0, 0)) := by rw [← e4, Below.heap_setCell _ _ _ _ (by simp)]; exact b3
  have c4 : W4.heap[g + 2]? = some (.cells #[.int .i64 0] 27 (0, 0)) := by rw [← e4, Below.heap_setCell _ _ _ _ (by simp)]; exact c3
  obtain ⟨W5, e5⟩ : ∃ V, W4.setCell ⟨g, 4, none⟩ (sl) = V := ⟨_, rfl⟩
  have a5 : W5.heap[g]? = some (.cells #[.int .i64 k, .int .i64 o, .string s, .int .i64 v, sl] TX (0, 0)) := by rw [← e5]; simpa using heap_setCell_same W4 g 4 _ _ (sl) a4
  have b5 : W5.heap[g + 1]? = some (.cells #[.int .i64 0] 3 (0, 0)) := by rw [← e5, Below.heap_setCell _ _ _ _ (by simp)]; exact b4
  have c5 : W5.heap[g + 2]? = some (.cells #[.int .i64 0] 27 (0, 0)) := by rw [← e5, Below.heap_setCell _ _ _ _ (by simp)]; exact c4
  obtain ⟨W6, e6⟩ : ∃ V, W5.setCell ⟨g + 1, 0, none⟩ (.int .i64 n) = V := ⟨_, rfl⟩
  have a6 : W6.heap[g]? = some (.cells #[.int .i64 k, .int .i64 o, .string s, .int .i64 v, sl] TX (0, 0)) := by rw [← e6, Below.heap_setCell _ _ _ _ (by simp)]; exact a5
  have b6 : W6.heap[g + 1]? = some (.cells #[.int .i64 n] 3 (0, 0)) := by rw [← e6]; simpa using heap_setCell_same W5 (g + 1) 0 _ _ (.int .i64 n) b5
  have c6 : W6.heap[g + 2]? = some (.cells #[.int .i64 0] 27 (0, 0)) := by rw [← e6, Below.heap_setCell _ _ _ _ (by simp)]; exact c5
  obtain ⟨W7, e7⟩ : ∃ V, W6.setCell ⟨g + 1 + 1, 0, none⟩ (.int .i64 0) = V := ⟨_, rfl⟩
  have a7 : W7.heap[g]? = some (.cells #[.int .i64 k, .int .i64 o, .string s, .int .i64 v, sl] TX (0, 0)) := by rw [← e7, Below.heap_setCell _ _ _ _ (show g ≠ g + 1 + 1 by omega)]; exact a6
  have b7 : W7.heap[g + 1]? = some (.cells #[.int .i64 n] 3 (0, 0)) := by rw [← e7, Below.heap_setCell _ _ _ _ (by simp)]; exact b6
  have c7 : W7.heap[g + 2]? = some (.cells #[.int .i64 0] 27 (0, 0)) := by rw [← e7]; simpa using heap_setCell_same W6 (g + 1 + 1) 0 _ _ (.int .i64 0) c6
  refine ⟨_, rfl, ?_, ?_, ?_, ?_, ?_, ?_⟩
  · rw [e1, e2, e3, e4, e5, e6, e7]; exact a7
  · rw [e1, e2, e3, e4, e5, e6, e7]; exact b7
  · rw [e1, e2, e3, e4, e5, e6, e7]; exact c7
  · exact (((((((((Below.refl g W).setCell (Nat.le_refl _) _).setCell (Nat.le_refl _) _).setCell (Nat.le_refl _) _).setCell (Nat.le_refl _) _).setCell (Nat.le_refl _) _).setCell (Nat.le_succ g) _).setCell (show g ≤ g + 1 + 1 by omega) _)).drew
  · simp [World.setCell, World.drew]
  · intro k hk
    have f0 : ¬ g = k := by omega
    have f1 : ¬ g + 1 = k := by omega
    have f2 : ¬ g + 1 + 1 = k := by omega
    simp [World.setCell, World.drew, Array.getElem?_modify, f0, f1, f2]
theorem TabJ.lt {w : World} (h : TabJ w) : 4 < w.heap.size := by
  unfold TabJ Lib.TabIs World.var? at h
  rw [pow10G] at h
  simp only [Option.bind_some] at h
  rcases Nat.lt_or_ge 4 w.heap.size with h' | h'
  · exact h'
  · rw [Array.getElem?_eq_none h'] at h; cases h
set_option maxRecDepth 100000 in
set_option maxHeartbeats 8000000 in
theorem read_any (a : Option Addr) (c : Nat) (ts : List Tk) (w : World) (hk : TkA anyB w a ts) (hln : ts.length ≤ 4001) (hlc : ts.length ≤ c) (hok : TokOk ts) (hT : TabJ w) :
    Calls Tryd.prog 33 #[.slice a ts.length c] w fun x w' => ∃ sa sn sc, x = .returned (.tuple #[exV (rdF (pE ts)).1 (.slice sa sn sc), .int .i64 ((rdF (pE ts)).2.1 : Nat), .int .i64 (rdF (pE ts)).2.2]) ∧ KA (fun k => w.heap.size ≤ k) w' (rdF (pE ts)).1.es (.slice sa sn sc) ∧ Below w.heap.size w w' := by
  have hmf : ∀ (fn : Fn) (first cap : Array Value) (w : World), (Instr.makeFunc fn first cap).run Tryd.prog w = .ok (.func fn first cap) w := fun _ _ _ _ => rfl
  obtain ⟨W, hW⟩ : ∃ W, ((w.alloc (.cells #[.int .i64 0, .int .i64 0, .string ⟨#[]⟩, .int .i64 0, nilX] TX)).alloc (.cells #[.int .i64 0] 3)).alloc (.cells #[.int .i64 0] 27) = W := ⟨_, rfl⟩
  have hb : Below w.heap.size w W := by rw [← hW]; exact (((Below.refl _ w).alloc (Nat.le_refl _) _).alloc (by simp) _).alloc (by simp; omega) _
  have hs : W.heap.size = w.heap.size + 3 := by rw [← hW]; simp
  have hg0 : W.heap[w.heap.size]? = some (.cells #[.int .i64 0, .int .i64 0, .string ⟨#[]⟩, .int .i64 0, nilX] TX (0, 0)) := by
    rw [← hW, Below.heap_alloc _ _ _ (by simp; omega), Below.heap_alloc _ _ _ (by simp)]; exact heapNew w _
  have hg1 : W.heap[w.heap.size + 1]? = some (.cells #[.int .i64 0] 3 (0, 0)) := by
    rw [← hW, Below.heap_alloc _ _ _ (by simp)]
    have := heapNew (w.alloc (.cells #[.int .i64 0, .int .i64 0, .string ⟨#[]⟩, .int .i64 0, nilX] TX)) (.cells #[.int .i64 0] 3)
    rwa [World.size_alloc] at this
  have hg2 : W.heap[w.heap.size + 2]? = some (.cells #[.int .i64 0] 27 (0, 0)) := by
    rw [← hW]
    have := heapNew ((w.alloc (.cells #[.int .i64 0, .int .i64 0, .string ⟨#[]⟩, .int .i64 0, nilX] TX)).alloc (.cells #[.int .i64 0] 3)) (.cells #[.int .i64 0] 27)
    simpa using this
  have HB := Lib.hid hb
  have HS := Lib.hid hs
  have H0 := Lib.hid hg0
  have H1 := Lib.hid hg1
  have H2 := Lib.hid hg2
  have HOP := Lib.hid (lexOps_any W)
  have hne := pE_ne ts
  obtain ⟨r, hr⟩ : ∃ r, pE ts = r := ⟨_, rfl⟩
  rw [hr] at hne ⊢
  have HRP := Lib.hid hr
  have HNE := Lib.hid hne
  clear hr hne
  have HK := Lib.hid (hk.below (hb.mono (Nat.le_refl _)))
  have HT := Lib.hid (hT.below hb)
  have hkl : ∀ j, j < ts.length → True := fun _ _ => trivial
  clear hb hs hg0 hg1 hg2 hk hT hkl
  go_enter_defers Tryd.func33, Tryd.ntmps33
  go_wp2_with fail
  try rw [hW]
  clear hW
  refine HOP.out.mono ?_
  rintro x w2 ⟨rfl, hm, b2⟩
  obtain ⟨W3, hW3⟩ : ∃ V, w2.alloc (.cells #[.slice a ts.length c, .int .i64 0, .map (some W.heap.size)] TRd) = V := ⟨_, rfl⟩
  have b3 : Below w2.heap.size w2 W3 := by rw [← hW3]; exact (Below.refl _ _).alloc (Nat.le_refl _) _
  have hrd : RdA W3 w2.heap.size (.slice a ts.length c) 0 W.heap.size := by rw [← hW3]; exact heapNew _ _
  have hml := ltH hm
  have hRI : RdI W3 w2.heap.size W.heap.size a c ts 0 := by
    refine ⟨hrd, ?_, (b3.block _ hml).trans hm, by omega, (HT.out.below b2).below b3, ?_, Nat.zero_le _, hln, hlc, hok⟩
    · exact ((HK.out.keep b2.size (fun k h1 _ => ⟨h1, b2.block k h1⟩) : TkA (fun k => k < W.heap.size) w2 a ts)).keep b3.size (fun k h1 h2 => ⟨by omega, b3.block k h1⟩)
    · have := TabJ.lt HT.out; have := b2.size; omega
  have HE := Lib.hid (expr_run W3 w2.heap.size W.heap.size a c ts hRI)
  rw [HRP.out] at HE
  have H03 := Lib.hid ((b3.block _ (by have := b2.size; have := HS.out; omega)).trans ((b2.block _ (ltH H0.out)).trans H0.out))
  have H13 := Lib.hid ((b3.block _ (by have := b2.size; have := HS.out; omega)).trans ((b2.block _ (ltH H1.out)).trans H1.out))
  have H23 := Lib.hid ((b3.block _ (by have := b2.size; have := HS.out; omega)).trans ((b2.block _ (ltH H2.out)).trans H2.out))
  have HB3 := Lib.hid (HB.out.trans ((b2.mono HB.out.size).trans (b3.mono (Nat.le_trans HB.out.size b2.size))))
  have HBB := Lib.hid (show w.heap.size + 3 ≤ w2.heap.size by have := b2.size; have := HS.out; omega)
  have HSS := Lib.hid b3.size
  have HW3 := Lib.hid hW3
  clear hm b2 b3 hrd hml hRI hW3
  go_wp2_with fail
  try rw [HW3.out]
  refine HE.out.mono ?_
  rintro x w5 ⟨hb5, hp5⟩
  have M0 := Lib.hid (hb5.heap (k := w.heap.size) (by have := HBB.out; omega) H03.out)
  have M1 := Lib.hid (hb5.heap (k := w.heap.size + 1) (by have := HBB.out; omega) H13.out)
  have M2 := Lib.hid (hb5.heap (k := w.heap.size + 2) (by have := HBB.out; omega) H23.out)
  have MB : Hid (Below w.heap.size w w5) := Lib.hid (HB3.out.trans ⟨hb5.os, hb5.tape, hb5.output, hb5.size, fun k hk => hb5.block k (by have := HB3.out.size; omega) (by have := HBB.out; omega)⟩)
  have MS := Lib.hid hb5.size
  clear hb5
  cases r with
  | out => exact hp5.elim
  | bad n =>
    subst hp5
    rw [Nat.zero_add]
    go_wp2
    refine leaves_cons (f := 47) (args := #[.pointer (some ⟨w.heap.size, 0, none⟩), .pointer (some ⟨w.heap.size + 1, 0, none⟩), .pointer (some ⟨w.heap.size + 2, 0, none⟩)]) (by simp) (by simp [go_sem]) ?_
    refine (catch_up w.heap.size (n : Int) w5 #[] #[] #[] M0.out M1.out M2.out).mono ?_
    rintro x' u' w'' ⟨rfl, rfl, v0, v1, v2, vb⟩
    refine ⟨_, ret_3 Tryd.results33 _ w.heap.size zeroX nilX (n : Int) 3 _ v0 v1 v2 rfl rfl rfl, ?_⟩
    exact ⟨none, 0, 0, rfl, KA.nil _ _ none 0 (by decide), MB.out.trans vb⟩
  | ok e n =>
    obtain ⟨sa, sn, sc, rfl, hke, hre⟩ := hp5
    rw [Nat.zero_add] at hre
    simp only [exV]
    obtain ⟨W6, hW6⟩ : ∃ V, w5.setRow w.heap.size #[.int .i64 e.k, .int .i64 e.o, .string e.s, .int .i64 e.v, .slice sa sn sc] = V := ⟨_, rfl⟩
    have hot : ∀ k, k ≠ w.heap.size → W6.heap[k]? = w5.heap[k]? := fun k hk => by
      rw [← hW6]
      simp only [World.setRow, Array.getElem?_modify]
      rw [if_neg (fun e => hk e.symm)]
    have N0 : Hid (W6.heap[w.heap.size]? = some (.cells #[.int .i64 e.k, .int .i64 e.o, .string e.s, .int .i64 e.v, .slice sa sn sc] TX (0, 0))) := Lib.hid (by rw [← hW6]; exact setRow_heap _ _ _ _ _ _ M0.out)
    have N1 := Lib.hid ((hot _ (by omega)).trans M1.out)
    have N2 := Lib.hid ((hot _ (by omega)).trans M2.out)
    have NB : Hid (Below w.heap.size w W6) := Lib.hid (by rw [← hW6]; exact below_setRow MB.out (Nat.le_refl _) _)
    have NC : Hid (W6.cell? ⟨w2.heap.size, 1, none⟩ = some (.int .i64 (n : Int))) := Lib.hid (by
      rw [World.cell?_of_block (w := w5) (hot w2.heap.size (by have := HBB.out; omega))]
      exact hre.rd.c1)
    have NK : Hid (KA (fun k => w.heap.size + 3 ≤ k) W6 e.es (.slice sa sn sc)) := Lib.hid (by
      rw [← hW6]
      exact kaRow (kaMono hke (show w.heap.size + 3 ≤ W3.heap.size by have := HBB.out; have := HSS.out; omega)) (by omega) _)
    have HW6 := Lib.hid hW6
    clear hot hke hre hW6
    go_wp2_with (refine wpList_store_row rfl TX (.tmp 2) (.tmp 12) rfl w.heap.size #[.int .i64 e.k, .int .i64 e.o, .string e.s, .int .i64 e.v, .slice sa sn sc] rfl rfl _ _ M0.out (by kernel_rfl) rfl (by simp [Value.oneCell']) ?_)
    try rw [HW6.out]
    obtain ⟨d0, d1, d2, d3, d4⟩ := cells5 N0.out
    have dn := NC.out
    have e1 : W6.cell? ⟨w.heap.size + 1, 0, none⟩ = some (.int .i64 0) := by rw [Lib.cell_of_heap N1.out]; rfl
    have e2 : W6.cell? ⟨w.heap.size + 2, 0, none⟩ = some (.int .i64 0) := by rw [Lib.cell_of_heap N2.out]; rfl
    have e2' : W6.cell? ⟨w.heap.size + 1 + 1, 0, none⟩ = some (.int .i64 0) := e2
    have z0 : ∀ o, W6.frozen? ⟨w.heap.size, o, none⟩ = false := fun o => by simp [World.frozen?, N0.out]
    have z1 : W6.frozen? ⟨w.heap.size + 1, 0, none⟩ = false := by simp [World.frozen?, N1.out]
    have z2 : W6.frozen? ⟨w.heap.size + 1 + 1, 0, none⟩ = false := by have := N2.out; simp [World.frozen?, this]
    have y0 : ¬ w2.heap.size = w.heap.size := by have := HBB.out; omega
    have y0' : ¬ w.heap.size = w2.heap.size := by have := HBB.out; omega
    have y1 : ¬ w2.heap.size = w.heap.size + 1 := by have := HBB.out; omega
    have y1' : ¬ w.heap.size + 1 = w2.heap.size := by have := HBB.out; omega
    have y2 : ¬ w2.heap.size = w.heap.size + 1 + 1 := by have := HBB.out; omega
    have y2' : ¬ w.heap.size + 1 + 1 = w2.heap.size := by have := HBB.out; omega
    refine wp_mono ?_ calmQ.imp
    go_region
    all_goals simp only [calmQ, Exit.then]
    all_goals obtain ⟨V, hV, v0, v1, v2, vb, vs, vo⟩ := fin7 (n := (n : Int)) N0.out N1.out N2.out
    all_goals rw [hV]
    all_goals have VB := NB.out.trans vb
    all_goals have VK := NK.out.keep (φ := fun k => w.heap.size + 3 ≤ k) (ψ := fun k => w.heap.size ≤ k) (Nat.le_of_eq vs) (fun k _ h2 => ⟨by omega, vo k h2⟩)
    all_goals clear hV vb vs vo d0 d1 d2 d3 d4 e1 e2 e2' z0 z1 z2 y0 y0' y1 y1' y2 y2' dn
    all_goals go_wp2
    all_goals
      refine leaves_cons (f := 47) (args := #[.pointer (some ⟨w.heap.size, 0, none⟩), .pointer (some ⟨w.heap.size + 1, 0, none⟩), .pointer (some ⟨w.heap.size + 2, 0, none⟩)]) (by simp) (by simp [go_sem]) ?_
      refine (catch_idle w.heap.size V).mono ?_
      rintro x' u' w'' ⟨rfl, rfl, rfl⟩
      refine ⟨_, ret_3 Tryd.results33 _ w.heap.size e _ (n : Int) 0 _ v0 v1 v2 rfl rfl rfl, ?_⟩
      exact ⟨sa, sn, sc, rfl, VK, VB⟩
end Go.Proofs.YtdgphhdkeikbaaaDoor
