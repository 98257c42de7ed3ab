/-
  The program's Expr and Parse.
-/
import Derived.Test.YtdgphhdkeikbaaaDoorLxParM
import Derived.Test.YtdgphhdkeikbaaaDoorLxPos
namespace Go.Proofs.YtdgphhdkeikbaaaDoor
set_option linter.unusedSimpArgs false
set_option linter.unusedVariables false
open Go.RowKit

theorem ka_zero (φ : Nat → Prop) (w : World) : KA φ w zeroX.es nilX := by
  exact .mk [] none 0 (fun _ => nilX) (Nat.le_refl _) (by decide) (fun j hj => absurd hj (by simp)) (fun j hj => absurd hj (by simp))
def exG : Rs → Ex × Nat × Int
  | .ok e n => if ckE e = 0 then (e, n, 0) else (zeroX, 0, ckE e)
  | .bad n => (zeroX, n, 3)
  | .out => (zeroX, 0, 0)
/-- What Expr and Parse return. -/
def RetE (w : World) (x : Ending) (w' : World) (r : Ex × Nat × Int) : Prop := ∃ sa sn sc, x = .returned (.tuple #[exV r.1 (.slice sa sn sc), .int .i64 (r.2.1 : Nat), .int .i64 r.2.2]) ∧ KA (fun k => w.heap.size < k) w' r.1.es (.slice sa sn sc) ∧ Below w.heap.size w w'
theorem ret_ex {fn : Func} {p u v : Tmp} (hf : fn.results = #[.cell p TX, .tmp u, .tmp v]) (W : World) (g : Nat) (e : Ex) (sl x y : Value) (tmps : Array Value) (hg : W.heap[g]? = some (.cells #[.int .i64 e.k, .int .i64 e.o, .string e.s, .int .i64 e.v, sl] TX (0, 0)))
    (hp : tmps.getD p undef = .pointer (some ⟨g, 0, none⟩)) (hu : tmps.getD u undef = x) (hv : tmps.getD v undef = y) : (results fn tmps).run Tryd.prog W = .ok (.tuple #[exV e sl, x, y]) W := by
  have hl := run_loadVar_row (P := Tryd.prog) W g TX TX _ (0, 0) _ hg Tryd.underlying26 rfl (by kernel_rfl)
  have hp' : tmps[p]?.getD undef = .pointer (some ⟨g, 0, none⟩) := by simpa using hp
  have hu' : tmps[u]?.getD undef = x := by simpa using hu
  have hv' : tmps[v]?.getD undef = y := by simpa using hv
  simp only [results, hf]
  simp [Sem.run_bind, asAddr, hp', hu', hv', hl, Result.andThen, exV]
set_option maxRecDepth 100000 in
set_option maxHeartbeats 8000000 in
theorem Expr_any (a : Option Addr) (c : Nat) (ts : List Tk) (w : World) (hk : TkA anyB w a ts) (hlc : ts.length ≤ c) (hn : ts.length ≤ 9223372036854775807) (hok : TokOk ts) (hT : TabJ w) :
    Calls Tryd.prog 12 #[.slice a ts.length c] w fun x w' => RetE w x w' (exF ts) := by
  by_cases h : 4001 < ts.length
  · have hL : exF ts = (zeroX, 0, 4) := by unfold exF; rw [if_pos h]
    have h1 : (4001 : Int) < (ts.length : Int) := by omega
    rw [hL]
    go_enter Tryd.func12, Tryd.ntmps12
    go_wp2
    exact bodyPost_ret (ret_ex Tryd.results12 _ w.heap.size zeroX nilX _ _ _ (heapNew w _) rfl rfl rfl) rfl ⟨none, 0, 0, rfl, ka_zero _ _, (Below.refl _ w).alloc (Nat.le_refl _) _⟩
  · have hL : exF ts = exG (pE ts) := by unfold exF; rw [if_neg h]; rfl
    have h1 : ¬ (4001 : Int) < (ts.length : Int) := by omega
    have hsh := pE_sh ts
    have hne := pE_ne ts
    have hbw : Below w.heap.size w (w.alloc (.cells #[.int .i64 0, .int .i64 0, .string ⟨#[]⟩, .int .i64 0, nilX] TX)) := (Below.refl _ w).alloc (Nat.le_refl _) _
    have HG := Lib.hid (heapNew w (.cells #[.int .i64 0, .int .i64 0, .string ⟨#[]⟩, .int .i64 0, nilX] TX))
    have HR := Lib.hid (read_any a c ts _ (hk.below (hbw.mono (Nat.le_refl _))) (by omega) hlc hok (hT.below hbw))
    have HBW := Lib.hid hbw
    rw [hL]
    clear hL hbw
    obtain ⟨r, hr⟩ : ∃ r, pE ts = r := ⟨_, rfl⟩
    rw [hr] at hne hsh HR ⊢
    clear hr h hk hok hT
    go_enter Tryd.func12, Tryd.ntmps12
    go_wp2_with fail
    refine HR.out.mono ?_
    rintro x w1 ⟨sa, sn, sc, rfl, hX, hb⟩
    cases r with
    | out => exact absurd rfl hne
    | bad n =>
      have hg1 := (hb.block _ (ltH HG.out)).trans HG.out
      have H2 : Hid ((w1.alloc (.cells #[.int .i64 zeroX.k, .int .i64 zeroX.o, .string zeroX.s, .int .i64 zeroX.v, .slice sa sn sc] TX (0, 0))).heap[w.heap.size]? = _) := Lib.hid ((Below.heap_alloc _ _ _ (ltH hg1)).trans hg1)
      have HB2 : Hid (Below w.heap.size w (w1.alloc (.cells #[.int .i64 zeroX.k, .int .i64 zeroX.o, .string zeroX.s, .int .i64 zeroX.v, .slice sa sn sc] TX (0, 0)))) := Lib.hid ((HBW.out.trans (hb.mono (by simp))).alloc (by have := hb.size; simp at this; omega) _)
      clear hb hX hsh hne hg1
      simp only [rdF, exV] at *
      go_wp2_with (refine wpList_store_row rfl TX (.tmp 2) (.tmp 21) rfl w.heap.size #[.int .i64 0, .int .i64 0, .string ⟨#[]⟩, .int .i64 0, .slice none 0 0] rfl rfl _ _ H2.out (by kernel_rfl) rfl (by simp [Value.oneCell']) ?_)
      try simp only [Exit.inBlock, Exit.then]
      exact bodyPost_ret (ret_ex Tryd.results12 _ w.heap.size zeroX nilX _ _ _ (setRow_heap _ _ _ _ _ _ H2.out) rfl rfl rfl) rfl ⟨none, 0, 0, rfl, ka_zero _ _, below_setRow HB2.out (Nat.le_refl _) _⟩
    | ok e n =>
      have hg1 := (hb.block _ (ltH HG.out)).trans HG.out
      obtain ⟨W2, hW2⟩ : ∃ W, w1.alloc (.cells #[.int .i64 e.k, .int .i64 e.o, .string e.s, .int .i64 e.v, .slice sa sn sc] TX (0, 0)) = W := ⟨_, rfl⟩
      have h20 : W2.heap[w.heap.size]? = some (.cells #[.int .i64 0, .int .i64 0, .string ⟨#[]⟩, .int .i64 0, nilX] TX (0, 0)) := by rw [← hW2]; exact (Below.heap_alloc _ _ _ (ltH hg1)).trans hg1
      have h21 : W2.heap[w1.heap.size]? = some (.cells #[.int .i64 e.k, .int .i64 e.o, .string e.s, .int .i64 e.v, .slice sa sn sc] TX (0, 0)) := by rw [← hW2]; exact heapNew _ _
      have hb2 : Below w.heap.size w W2 := by rw [← hW2]; exact (HBW.out.trans (hb.mono (by simp))).alloc (by have := hb.size; simp at this; omega) _
      have hb12 : Below w1.heap.size w1 W2 := by rw [← hW2]; exact (Below.refl _ _).alloc (Nat.le_refl _) _
      have HX := Lib.hid (hX.carry hb12)
      have hXA : KX W2 e (.slice sa sn sc) := HX.out.mono (fun _ _ _ => trivial)
      have HC := Lib.hid (check_any e _ W2 hXA hsh.2.fit)
      have H20 := Lib.hid h20
      have H21 := Lib.hid h21
      have HB2 := Lib.hid hb2
      clear hb hX hsh hne hg1 h20 h21 hb2 hb12 hXA
      simp only [rdF, exV] at HC ⊢
      go_wp2_with (refine wpList_load_row rfl TX (.tmp 5) rfl w1.heap.size rfl TX _ (0, 0) _ H21.out Tryd.underlying26 rfl (by kernel_rfl) ?_)
      refine HC.out.mono ?_
      rintro x w3 ⟨rfl, hb3⟩
      have H30 := Lib.hid ((hb3.block _ (ltH H20.out)).trans H20.out)
      have H31 := Lib.hid ((hb3.block _ (ltH H21.out)).trans H21.out)
      have HX3 := Lib.hid (HX.out.carry hb3)
      have HB3 := Lib.hid (HB2.out.trans (hb3.mono HB2.out.size))
      clear hb3
      by_cases hc : ckE e = 0
      · have hg : exG (.ok e n) = (e, n, 0) := by simp only [exG, if_pos hc]
        go_wp2_with (first
          | refine wpList_load_row rfl TX (.tmp 5) rfl w1.heap.size rfl TX _ (0, 0) _ H31.out Tryd.underlying26 rfl (by kernel_rfl) ?_
          | refine wpList_store_row rfl TX (.tmp 2) (.tmp 30) rfl w.heap.size #[.int .i64 e.k, .int .i64 e.o, .string e.s, .int .i64 e.v, .slice sa sn sc] rfl rfl _ _ H30.out (by kernel_rfl) rfl (by simp [Value.oneCell']) ?_)
        try simp only [Exit.inBlock, Exit.then]
        refine bodyPost_ret (ret_ex Tryd.results12 _ w.heap.size e (.slice sa sn sc) _ _ _ (setRow_heap _ _ _ _ _ _ H30.out) rfl rfl rfl) rfl ?_
        · show RetE w _ _ (exG (.ok e n))
          rw [hg]
          exact ⟨sa, sn, sc, rfl, (kaRow (kaMono HX3.out (Nat.le_of_eq (World.size_alloc _ _).symm)) (Nat.lt_succ_self _) _).mono (fun _ _ h => h), below_setRow HB3.out (Nat.le_refl _) _⟩
      · have hg : exG (.ok e n) = (zeroX, 0, ckE e) := by simp only [exG, if_neg hc]
        go_wp2_with (refine wpList_store_row rfl TX (.tmp 2) (.tmp 28) rfl w.heap.size #[.int .i64 0, .int .i64 0, .string ⟨#[]⟩, .int .i64 0, .slice none 0 0] rfl rfl _ _ H30.out (by kernel_rfl) rfl (by simp [Value.oneCell']) ?_)
        try simp only [Exit.inBlock, Exit.then]
        refine bodyPost_ret (ret_ex Tryd.results12 _ w.heap.size zeroX nilX _ _ _ (setRow_heap _ _ _ _ _ _ H30.out) rfl rfl rfl) rfl ?_
        · show RetE w _ _ (exG (.ok e n))
          rw [hg]
          exact ⟨none, 0, 0, rfl, ka_zero _ _, below_setRow HB3.out (Nat.le_refl _) _⟩
end Go.Proofs.YtdgphhdkeikbaaaDoor
