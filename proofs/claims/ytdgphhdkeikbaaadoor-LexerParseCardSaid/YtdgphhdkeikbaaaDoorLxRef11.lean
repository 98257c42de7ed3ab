/-
  The reference's Expr and Parse.
-/
import Derived.Test.YtdgphhdkeikbaaaDoorLxRef8
import Derived.Test.YtdgphhdkeikbaaaDoorLxRef4
import Derived.Test.YtdgphhdkeikbaaaDoorLxAwake
import Derived.Test.YtdgphhdkeikbaaaDoorLxZero
namespace Go.Proofs.YtdgphhdkeikbaaaDoor
set_option linter.unusedSimpArgs false
set_option linter.unusedVariables false
open Go.RowKit

theorem rboth_any (f : Nat) : ∀ g, g ≤ f → ROpd g ∧ RExp g := by
  induction f with
  | zero =>
    intro g hg
    obtain rfl : g = 0 := by omega
    exact ⟨fun _ _ _ _ _ _ h => absurd rfl h, fun _ _ _ _ _ _ _ _ _ h => absurd rfl h⟩
  | succ f ih =>
    intro g hg
    rcases Nat.lt_or_ge g (f + 1) with h | h
    · exact ih g (by omega)
    · obtain rfl : g = f + 1 := by omega
      exact ⟨roperand_any f (ih f (Nat.le_refl _)).1 (ih f (Nat.le_refl _)).2, rexpression_any f ih⟩
def rdB (r : Rs) : Ex × Nat × Bool := match r with
  | .ok e n => (e, n, true)
  | .bad n => (zeroX, n, false)
  | .out => (zeroX, 0, false)
theorem rread_any (a : Option Addr) (c : Nat) (ts : List Tk) (w : World) (hk : TkA anyB w a ts) (hln : ts.length ≤ 4001) (hok : TokOk ts) :
    Calls Tryd.prog 35 #[.slice a ts.length c, .int .i64 0, .int .i64 1] w fun x w' => ∃ sa sn sc, x = .returned (.tuple #[exV (rdB (pE ts)).1 (.slice sa sn sc), .int .i64 ((rdB (pE ts)).2.1 : Nat), .bool (rdB (pE ts)).2.2]) ∧ KA (fun k => w.heap.size ≤ k) w' (rdB (pE ts)).1.es (.slice sa sn sc) ∧ Below w.heap.size w w' := by
  have h := (rboth_any _ _ (Nat.le_refl (8 * ts.length + 8))).2 1 w a c ts 0 (by omega) (by omega) ⟨hk, hok, hln, Nat.zero_le _⟩ (pE_ne ts)
  have e : ps (8 * ts.length + 8) (.exp 1) (ts.drop 0) = pE ts := rfl
  rw [e] at h
  have hne := pE_ne ts
  obtain ⟨r, hr⟩ : ∃ r, pE ts = r := ⟨_, rfl⟩
  rw [hr] at h hne ⊢
  refine Calls.mono h ?_
  rintro x w' ⟨hb, hp⟩
  cases r with
  | out => exact absurd rfl hne
  | bad n =>
    refine ⟨none, 0, 0, ?_, ka_zero _ _, hb⟩
    rw [hp, Nat.zero_add]; rfl
  | ok e n =>
    obtain ⟨sa, sn, sc, rfl, hk2⟩ := hp
    exact ⟨sa, sn, sc, by rw [Nat.zero_add]; rfl, hk2, hb⟩
set_option maxRecDepth 100000 in
set_option maxHeartbeats 8000000 in
theorem rExpr_any (a : Option Addr) (c : Nat) (ts : List Tk) (w : World) (hk : TkA anyB w a ts) (hn : ts.length ≤ 9223372036854775807) (hok : TokOk ts) :
    Calls Tryd.prog 13 #[.slice a ts.length c] w fun x w' => RetE w x w' (exF ts) := by
  by_cases h : 4001 < ts.length
  · have hL : exF ts = (zeroX, 0, 4) := by unfold exF; rw [if_pos h]
    have h1 : (4001 : Int) < (ts.length : Int) := by omega
    rw [hL]
    go_enter Tryd.func13, Tryd.ntmps13
    go_wp2
    exact bodyPost_ret (ret_ex Tryd.results13 _ w.heap.size zeroX nilX _ _ _ (heapNew w _) rfl rfl rfl) rfl ⟨none, 0, 0, rfl, ka_zero _ _, (Below.refl _ w).alloc (Nat.le_refl _) _⟩
  · have hL : exF ts = exG (pE ts) := by unfold exF; rw [if_neg h]; rfl
    have h1 : ¬ (4001 : Int) < (ts.length : Int) := by omega
    have hsh := pE_sh ts
    have hne := pE_ne ts
    have hbw : Below w.heap.size w (w.alloc (.cells #[.int .i64 0, .int .i64 0, .string ⟨#[]⟩, .int .i64 0, nilX] TX)) := (Below.refl _ w).alloc (Nat.le_refl _) _
    have HG := Lib.hid (heapNew w (.cells #[.int .i64 0, .int .i64 0, .string ⟨#[]⟩, .int .i64 0, nilX] TX))
    have HR := Lib.hid (rread_any a c ts _ (hk.below (hbw.mono (Nat.le_refl _))) (by omega) hok)
    have HBW := Lib.hid hbw
    rw [hL]
    clear hL hbw
    obtain ⟨r, hr⟩ : ∃ r, pE ts = r := ⟨_, rfl⟩
    rw [hr] at hne hsh HR ⊢
    clear hr h hk hok
    go_enter Tryd.func13, Tryd.ntmps13
    go_wp2_with fail
    refine HR.out.mono ?_
    rintro x w1 ⟨sa, sn, sc, rfl, hX, hb⟩
    cases r with
    | out => exact absurd rfl hne
    | bad n =>
      have hg1 := (hb.block _ (ltH HG.out)).trans HG.out
      have H2 : Hid ((w1.alloc (.cells #[.int .i64 zeroX.k, .int .i64 zeroX.o, .string zeroX.s, .int .i64 zeroX.v, .slice sa sn sc] TX (0, 0))).heap[w.heap.size]? = _) := Lib.hid ((Below.heap_alloc _ _ _ (ltH hg1)).trans hg1)
      have HB2 : Hid (Below w.heap.size w (w1.alloc (.cells #[.int .i64 zeroX.k, .int .i64 zeroX.o, .string zeroX.s, .int .i64 zeroX.v, .slice sa sn sc] TX (0, 0)))) := Lib.hid ((HBW.out.trans (hb.mono (by simp))).alloc (by have := hb.size; simp at this; omega) _)
      clear hb hX hsh hne hg1
      simp only [rdB, exV] at *
      go_wp2_with (refine wpList_store_row rfl TX (.tmp 2) (.tmp 21) rfl w.heap.size #[.int .i64 0, .int .i64 0, .string ⟨#[]⟩, .int .i64 0, .slice none 0 0] rfl rfl _ _ H2.out (by kernel_rfl) rfl (by simp [Value.oneCell']) ?_)
      try simp only [Exit.inBlock, Exit.then]
      exact bodyPost_ret (ret_ex Tryd.results13 _ w.heap.size zeroX nilX _ _ _ (setRow_heap _ _ _ _ _ _ H2.out) rfl rfl rfl) rfl ⟨none, 0, 0, rfl, ka_zero _ _, below_setRow HB2.out (Nat.le_refl _) _⟩
    | ok e n =>
      have hg1 := (hb.block _ (ltH HG.out)).trans HG.out
      obtain ⟨W2, hW2⟩ : ∃ W, w1.alloc (.cells #[.int .i64 e.k, .int .i64 e.o, .string e.s, .int .i64 e.v, .slice sa sn sc] TX (0, 0)) = W := ⟨_, rfl⟩
      have h20 : W2.heap[w.heap.size]? = some (.cells #[.int .i64 0, .int .i64 0, .string ⟨#[]⟩, .int .i64 0, nilX] TX (0, 0)) := by rw [← hW2]; exact (Below.heap_alloc _ _ _ (ltH hg1)).trans hg1
      have h21 : W2.heap[w1.heap.size]? = some (.cells #[.int .i64 e.k, .int .i64 e.o, .string e.s, .int .i64 e.v, .slice sa sn sc] TX (0, 0)) := by rw [← hW2]; exact heapNew _ _
      have hb2 : Below w.heap.size w W2 := by rw [← hW2]; exact (HBW.out.trans (hb.mono (by simp))).alloc (by have := hb.size; simp at this; omega) _
      have hb12 : Below w1.heap.size w1 W2 := by rw [← hW2]; exact (Below.refl _ _).alloc (Nat.le_refl _) _
      have HX := Lib.hid (hX.carry hb12)
      have hXA : KX W2 e (.slice sa sn sc) := HX.out.mono (fun _ _ _ => trivial)
      have HC := Lib.hid (rCheck_any e _ W2 hXA hsh.2.fit)
      have H20 := Lib.hid h20
      have H21 := Lib.hid h21
      have HB2 := Lib.hid hb2
      clear hb hX hsh hne hg1 h20 h21 hb2 hb12 hXA
      simp only [rdB, exV] at HC ⊢
      go_wp2_with (refine wpList_load_row rfl TX (.tmp 5) rfl w1.heap.size rfl TX _ (0, 0) _ H21.out Tryd.underlying26 rfl (by kernel_rfl) ?_)
      refine HC.out.mono ?_
      rintro x w3 ⟨rfl, hb3⟩
      have H30 := Lib.hid ((hb3.block _ (ltH H20.out)).trans H20.out)
      have H31 := Lib.hid ((hb3.block _ (ltH H21.out)).trans H21.out)
      have HX3 := Lib.hid (HX.out.carry hb3)
      have HB3 := Lib.hid (HB2.out.trans (hb3.mono HB2.out.size))
      clear hb3
      by_cases hc : ckE e = 0
      · have hg : exG (.ok e n) = (e, n, 0) := by simp only [exG, if_pos hc]
        go_wp2_with (first
          | refine wpList_load_row rfl TX (.tmp 5) rfl w1.heap.size rfl TX _ (0, 0) _ H31.out Tryd.underlying26 rfl (by kernel_rfl) ?_
          | refine wpList_store_row rfl TX (.tmp 2) (.tmp 29) rfl w.heap.size #[.int .i64 e.k, .int .i64 e.o, .string e.s, .int .i64 e.v, .slice sa sn sc] rfl rfl _ _ H30.out (by kernel_rfl) rfl (by simp [Value.oneCell']) ?_)
        try simp only [Exit.inBlock, Exit.then]
        refine bodyPost_ret (ret_ex Tryd.results13 _ w.heap.size e (.slice sa sn sc) _ _ _ (setRow_heap _ _ _ _ _ _ H30.out) rfl rfl rfl) rfl ?_
        · show RetE w _ _ (exG (.ok e n))
          rw [hg]
          exact ⟨sa, sn, sc, rfl, (kaRow (kaMono HX3.out (Nat.le_of_eq (World.size_alloc _ _).symm)) (Nat.lt_succ_self _) _).mono (fun _ _ h => h), below_setRow HB3.out (Nat.le_refl _) _⟩
      · have hg : exG (.ok e n) = (zeroX, 0, ckE e) := by simp only [exG, if_neg hc]
        go_wp2_with (refine wpList_store_row rfl TX (.tmp 2) (.tmp 27) rfl w.heap.size #[.int .i64 0, .int .i64 0, .string ⟨#[]⟩, .int .i64 0, .slice none 0 0] rfl rfl _ _ H30.out (by kernel_rfl) rfl (by simp [Value.oneCell']) ?_)
        try simp only [Exit.inBlock, Exit.then]
        refine bodyPost_ret (ret_ex Tryd.results13 _ w.heap.size zeroX nilX _ _ _ (setRow_heap _ _ _ _ _ _ H30.out) rfl rfl rfl) rfl ?_
        · show RetE w _ _ (exG (.ok e n))
          rw [hg]
          exact ⟨none, 0, 0, rfl, ka_zero _ _, below_setRow HB3.out (Nat.le_refl _) _⟩
set_option maxRecDepth 100000 in
set_option maxHeartbeats 8000000 in
theorem rParse_any (s : ByteArray) (w : World) (hs : s.size ≤ 9223372036854775807) :
    Calls Tryd.prog 16 #[.string s] w fun x w' => RetE w x w' (psF s) := by
  obtain ⟨W0, hW0⟩ : ∃ W, w.alloc (.cells #[.int .i64 0, .int .i64 0, .string ⟨#[]⟩, .int .i64 0, nilX] TX) = W := ⟨_, rfl⟩
  have hbw : Below w.heap.size w W0 := by rw [← hW0]; exact (Below.refl _ w).alloc (Nat.le_refl _) _
  have hg0 : W0.heap[w.heap.size]? = some (.cells #[.int .i64 0, .int .i64 0, .string ⟨#[]⟩, .int .i64 0, nilX] TX (0, 0)) := by rw [← hW0]; exact heapNew w _
  have hs0 : W0.heap.size = w.heap.size + 1 := by rw [← hW0]; simp
  have HTK := Lib.hid (rTokens_any s W0 hs)
  have HB0 := Lib.hid hbw
  have HG0 := Lib.hid hg0
  have HS0 := Lib.hid hs0
  obtain ⟨ts, i, q, hl⟩ : ∃ ts i q, lexT s = (ts, i, q) := ⟨_, _, _, rfl⟩
  rw [hl] at HTK
  simp only at HTK
  clear hbw hg0 hs0
  by_cases hq : q = 0
  · subst hq
    obtain ⟨hlo, rfl⟩ := lexT_ok hl
    have hrs := hlo.rs
    have hln := hlo.len
    have hto := hlo.tok
    have hsh := pE_sh ts
    have hne := pE_ne ts
    have HP := Lib.hid (psF_ok hl)
    obtain ⟨r, hr⟩ : ∃ r, pE ts = r := ⟨_, rfl⟩
    rw [hr] at hne hsh hrs HP
    have HR := Lib.hid hr
    have HTO := Lib.hid hto
    clear hr hlo hl hto
    go_enter Tryd.func16, Tryd.ntmps16
    go_wp2_with fail
    try rw [hW0]
    refine HTK.out.mono ?_
    rintro x w1 ⟨v, rfl, hk, hb⟩
    obtain ⟨a, c, rfl, hlc, hc63, hka, hko⟩ := hk
    have hX := Lib.hid (rread_any a c ts w1 (hka.keep (Nat.le_refl _) (fun _ _ _ => ⟨trivial, rfl⟩)) hln HTO.out)
    rw [HR.out] at hX
    have HZ0 := Lib.hid hb.size
    have HB1 := Lib.hid (HB0.out.trans (hb.mono (by have := HS0.out; omega)))
    have HG1 := Lib.hid ((hb.block _ (ltH HG0.out)).trans HG0.out)
    have HKA := Lib.hid hka
    have HKO := Lib.hid hko
    clear hb hka hko
    go_wp2_with fail
    refine hX.out.mono ?_
    rintro x w2 ⟨sa, sn, sc, rfl, hXA, hb⟩
    have hg2 := (hb.block _ (ltH HG1.out)).trans HG1.out
    have HA2 := Lib.hid (HKA.out.below hb)
    have HO2 := Lib.hid (HKO.out.below hb)
    have HB2 := Lib.hid (HB1.out.trans (hb.mono HB1.out.size))
    have hz1 : w.heap.size + 1 ≤ w1.heap.size := by have := HZ0.out; have := HS0.out; omega
    cases r with
    | out => exact absurd rfl hne
    | bad n =>
      have hn : n < ts.length := hrs
      have n1 : (n : Int) < (ts.length : Int) := by omega
      obtain ⟨kb, off, rfl, hkw, hkl, t0, t1, t2⟩ := HA2.out.at_ hn
      have t3 := HO2.out.at_ hn
      obtain ⟨A, hA⟩ : ∃ A, (gk ts n).a = A := ⟨_, rfl⟩
      rw [hA] at t3
      have HPF : Hid (psF s = (zeroX, A, 3)) := Lib.hid (by rw [HP.out, ← hA]; rfl)
      obtain ⟨W3, hW3⟩ : ∃ W, w2.alloc (.cells #[.int .i64 zeroX.k, .int .i64 zeroX.o, .string zeroX.s, .int .i64 zeroX.v, .slice sa sn sc] TX (0, 0)) = W := ⟨_, rfl⟩
      have hb3 : Below w2.heap.size w2 W3 := by rw [← hW3]; exact (Below.refl _ _).alloc (Nat.le_refl _) _
      have H3 := Lib.hid ((hb3.block _ (ltH hg2)).trans hg2)
      have HB3 := Lib.hid (HB2.out.trans (hb3.mono HB2.out.size))
      replace t3 : W3.cell? ⟨kb, off + n * 4 + 3, none⟩ = some (.int .i64 (A : Int)) := by rw [← hW3]; exact (World.cell?_of_block (Below.heap_alloc _ _ _ hkl)).trans t3
      have HKB : Hid (kb ≠ w.heap.size) := Lib.hid (by have : W0.heap.size ≤ kb := hkw; have := HS0.out; omega)
      clear hb hXA hsh hne hg2 hkw t0 t1 t2 hA hrs hkl
      simp only [rdB, exV] at *
      go_wp2_with fail
      refine wp_region_held (S := fun V => V.heap[w.heap.size]? = some (.cells #[.int .i64 0, .int .i64 0, .string ⟨#[]⟩, .int .i64 0, .slice none 0 0] TX (0, 0)) ∧ V.cell? ⟨kb, off + n * 4 + 3, none⟩ = some (.int .i64 (A : Int))) (by kernel_rfl) ?_
      change wpAnyH _ _ _ _ _ _ _ _ (W3).drew
      obtain ⟨XD, hXD⟩ : ∃ V, (W3).drew = V := ⟨_, rfl⟩
      have bXD : Below (W3).heap.size (W3) XD := by rw [← hXD]; exact (Below.refl _ _).drew
      have HS8 : Hid (XD.heap[w.heap.size]? = some (.cells #[.int .i64 0, .int .i64 0, .string ⟨#[]⟩, .int .i64 0, .slice none 0 0] TX (0, 0)) ∧ XD.cell? ⟨kb, off + n * 4 + 3, none⟩ = some (.int .i64 (A : Int))) := Lib.hid ⟨(bXD.block _ (ltH H3.out)).trans H3.out, by rw [← hXD]; exact t3⟩
      have HBD := Lib.hid (HB3.out.trans (bXD.mono HB3.out.size))
      clear t3
      rw [hXD]
      clear hXD bXD
      refine wpAnyH_read (i := 0) (v := .agg #[.int .i64 0, .int .i64 0, .string ⟨#[]⟩, .int .i64 0, .slice none 0 0]) rfl (by kernel_rfl) (by kernel_rfl) (by kernel_rfl) (fun _ _ _ h => h) (by rfl) (by intro V _; go_simp) HS8.out ?_
      simp only [Act.put, List.setIfInBounds_toArray, List.set_cons_zero, List.set_cons_succ]
      refine wpAnyH_read (i := 1) (v := .slice (some ⟨kb, off, none⟩) ts.length c) rfl (by kernel_rfl) (by kernel_rfl) (by kernel_rfl) (fun _ _ _ h => h) (by rfl) (fun _ _ => rfl) HS8.out ?_
      simp only [Act.put, List.setIfInBounds_toArray, List.set_cons_zero, List.set_cons_succ]
      refine wpAnyH_read (i := 2) (v := .int .i64 (n : Int)) rfl (by kernel_rfl) (by kernel_rfl) (by kernel_rfl) (fun _ _ _ h => h) (by rfl) (fun _ _ => rfl) HS8.out ?_
      simp only [Act.put, List.setIfInBounds_toArray, List.set_cons_zero, List.set_cons_succ]
      refine wpAnyH_read (i := 3) (v := .pointer (some ⟨kb, off + n * 4, none⟩)) rfl (by kernel_rfl) (by kernel_rfl) (by kernel_rfl) (fun _ _ _ h => h) (by rfl) (by intro V _; go_simp) HS8.out ?_
      simp only [Act.put, List.setIfInBounds_toArray, List.set_cons_zero, List.set_cons_succ]
      refine wpAnyH_read (i := 4) (v := .pointer (some ⟨kb, off + n * 4 + 3, none⟩)) rfl (by kernel_rfl) (by kernel_rfl) (by kernel_rfl) (fun _ _ _ h => h) (by rfl) (by intro V _; go_simp) HS8.out ?_
      simp only [Act.put, List.setIfInBounds_toArray, List.set_cons_zero, List.set_cons_succ]
      refine wpAnyH_read (i := 5) (v := .int .i64 (A : Int)) rfl (by kernel_rfl) (by kernel_rfl) (by kernel_rfl) (fun _ _ _ h => h) (by rfl) (by rintro V ⟨_, q⟩; go_simp) HS8.out ?_
      simp only [Act.put, List.setIfInBounds_toArray, List.set_cons_zero, List.set_cons_succ]
      refine wpAnyH_next (i := 6) rfl (by kernel_rfl) ?_
      go_wp2_with (refine wpList_store_row rfl TX (.tmp 2) (.tmp 39) rfl w.heap.size #[.int .i64 0, .int .i64 0, .string ⟨#[]⟩, .int .i64 0, .slice none 0 0] rfl rfl _ _ HS8.out.1 (by kernel_rfl) rfl (by simp [Value.oneCell']) ?_)
      obtain ⟨XE, hXE⟩ : ∃ V, XD.setRow w.heap.size #[.int .i64 0, .int .i64 0, .string ⟨#[]⟩, .int .i64 0, .slice none 0 0] = V := ⟨_, rfl⟩
      have HS9 : Hid (XE.heap[w.heap.size]? = some (.cells #[.int .i64 0, .int .i64 0, .string ⟨#[]⟩, .int .i64 0, .slice none 0 0] TX (0, 0)) ∧ XE.cell? ⟨kb, off + n * 4 + 3, none⟩ = some (.int .i64 (A : Int))) := Lib.hid ⟨by rw [← hXE]; exact setRow_heap _ _ _ _ _ _ HS8.out.1, by
        rw [← hXE]
        refine (World.cell?_of_block ?_).trans HS8.out.2
        simp only [World.setRow, Array.getElem?_modify]
        rw [if_neg (Ne.symm HKB.out)]⟩
      have HBE : Hid (Below w.heap.size w XE) := Lib.hid (by rw [← hXE]; exact below_setRow HBD.out (Nat.le_refl _) _)
      rw [hXE]
      clear hXE
      simp only [nextQ]
      refine ⟨HS9.out, ?_⟩
      refine wpAnyH_next (i := 7) rfl (by kernel_rfl) ?_
      go_wp2_with fail
      refine ⟨HS9.out, ?_⟩
      refine wpAnyH_next (i := 8) rfl (by kernel_rfl) ?_
      go_wp2_with fail
      refine ⟨HS9.out, ?_⟩
      refine wpAnyH_done (by kernel_rfl) ?_ _
      go_wp2
      refine bodyPost_ret (ret_ex Tryd.results16 _ w.heap.size zeroX nilX _ _ _ HS9.out.1 rfl rfl rfl) rfl ?_
      show RetE w _ _ (psF s)
      rw [HPF.out]
      exact ⟨none, 0, 0, rfl, ka_zero _ _, HBE.out⟩
    | ok e n =>
      have hn : n < ts.length := hrs
      have n1 : (n : Int) < (ts.length : Int) := by omega
      obtain ⟨kb, off, rfl, hkw, hkl, t0, t1, t2⟩ := HA2.out.at_ hn
      have t3 := HO2.out.at_ hn
      obtain ⟨A, hA⟩ : ∃ A, (gk ts n).a = A := ⟨_, rfl⟩
      obtain ⟨K, hK⟩ : ∃ A, (gk ts n).k = A := ⟨_, rfl⟩
      rw [hA] at t3
      rw [hK] at t0
      have HPF : Hid (psF s = if K ≠ 0 then (zeroX, A, 3) else if ckE e = 0 then (e, 0, 0) else (zeroX, 0, ckE e)) := Lib.hid (by rw [HP.out, ← hA, ← hK]; rfl)
      obtain ⟨W3, hW3⟩ : ∃ W, w2.alloc (.cells #[.int .i64 e.k, .int .i64 e.o, .string e.s, .int .i64 e.v, .slice sa sn sc] TX (0, 0)) = W := ⟨_, rfl⟩
      have hb3 : Below w2.heap.size w2 W3 := by rw [← hW3]; exact (Below.refl _ _).alloc (Nat.le_refl _) _
      have H3 := Lib.hid ((hb3.block _ (ltH hg2)).trans hg2)
      have HE3 : Hid (W3.heap[w2.heap.size]? = some (.cells #[.int .i64 e.k, .int .i64 e.o, .string e.s, .int .i64 e.v, .slice sa sn sc] TX (0, 0))) := Lib.hid (by rw [← hW3]; exact heapNew _ _)
      have HB3 := Lib.hid (HB2.out.trans (hb3.mono HB2.out.size))
      have HX := Lib.hid (hXA.carry hb3)
      have hXB : KX W3 e (.slice sa sn sc) := HX.out.mono (fun _ _ _ => trivial)
      have HZ1 : Hid (w.heap.size + 1 ≤ w1.heap.size) := Lib.hid hz1
      have HFE := Lib.hid hsh.2.fit
      replace t3 : W3.cell? ⟨kb, off + n * 4 + 3, none⟩ = some (.int .i64 (A : Int)) := by rw [← hW3]; exact (World.cell?_of_block (Below.heap_alloc _ _ _ hkl)).trans t3
      replace t0 : W3.cell? ⟨kb, off + n * 4, none⟩ = some (.int .i64 K) := by rw [← hW3]; exact (World.cell?_of_block (Below.heap_alloc _ _ _ hkl)).trans t0
      have HKB : Hid (kb ≠ w.heap.size) := Lib.hid (by have : W0.heap.size ≤ kb := hkw; have := HS0.out; omega)
      have HXB := Lib.hid hXB
      clear hb hXA hsh hne hg2 hkw t1 t2 hA hK hrs hkl hXB hb3
      simp only [rdB, exV] at *
      by_cases hk0 : K = 0
      · subst hk0
        have HC := Lib.hid (rCheck_any e _ W3 HXB.out HFE.out)
        simp only [exV] at HC
        go_wp2_with (refine wpList_load_row rfl TX (.tmp 8) rfl w2.heap.size rfl TX _ (0, 0) _ HE3.out Tryd.underlying26 rfl (by kernel_rfl) ?_)
        refine HC.out.mono ?_
        rintro x w3 ⟨rfl, hb3⟩
        have H30 := Lib.hid ((hb3.block _ (ltH H3.out)).trans H3.out)
        have H31 := Lib.hid ((hb3.block _ (ltH HE3.out)).trans HE3.out)
        have HX3 := Lib.hid (HX.out.carry hb3)
        have HB3 := Lib.hid (HB3.out.trans (hb3.mono HB3.out.size))
        clear hb3
        by_cases hc : ckE e = 0
        · have HPF : Hid (psF s = (e, 0, 0)) := Lib.hid (HPF.out.trans (by rw [if_neg (by simp), if_pos hc]))
          go_wp2_with (first
            | refine wpList_load_row rfl TX (.tmp 8) rfl w2.heap.size rfl TX _ (0, 0) _ H31.out Tryd.underlying26 rfl (by kernel_rfl) ?_
            | refine wpList_store_row rfl TX (.tmp 2) (.tmp 51) rfl w.heap.size #[.int .i64 e.k, .int .i64 e.o, .string e.s, .int .i64 e.v, .slice sa sn sc] rfl rfl _ _ H30.out (by kernel_rfl) rfl (by simp [Value.oneCell']) ?_)
          try simp only [Exit.inBlock, Exit.then]
          refine bodyPost_ret (ret_ex Tryd.results16 _ w.heap.size e (.slice sa sn sc) _ _ _ (setRow_heap _ _ _ _ _ _ H30.out) rfl rfl rfl) rfl ?_
          show RetE w _ _ (psF s)
          rw [HPF.out]
          exact ⟨sa, sn, sc, rfl, (kaRow (kaMono HX3.out HZ1.out) (Nat.lt_succ_self _) _).mono (fun _ _ h => h), below_setRow HB3.out (Nat.le_refl _) _⟩
        · have HPF : Hid (psF s = (zeroX, 0, ckE e)) := Lib.hid (HPF.out.trans (by rw [if_neg (by simp), if_neg hc]))
          go_wp2_with (refine wpList_store_row rfl TX (.tmp 2) (.tmp 49) rfl w.heap.size #[.int .i64 0, .int .i64 0, .string ⟨#[]⟩, .int .i64 0, .slice none 0 0] rfl rfl _ _ H30.out (by kernel_rfl) rfl (by simp [Value.oneCell']) ?_)
          try simp only [Exit.inBlock, Exit.then]
          refine bodyPost_ret (ret_ex Tryd.results16 _ w.heap.size zeroX nilX _ _ _ (setRow_heap _ _ _ _ _ _ H30.out) rfl rfl rfl) rfl ?_
          show RetE w _ _ (psF s)
          rw [HPF.out]
          exact ⟨none, 0, 0, rfl, ka_zero _ _, below_setRow HB3.out (Nat.le_refl _) _⟩
      · have HPF : Hid (psF s = (zeroX, A, 3)) := Lib.hid (HPF.out.trans (if_pos hk0))
        have k1 : (K == 0) = false := by simpa using hk0
        have k2 : (K != 0) = true := by simpa using hk0
        go_wp2_with fail
        refine wp_region_held (S := fun V => V.heap[w.heap.size]? = some (.cells #[.int .i64 0, .int .i64 0, .string ⟨#[]⟩, .int .i64 0, .slice none 0 0] TX (0, 0)) ∧ V.cell? ⟨kb, off + n * 4 + 3, none⟩ = some (.int .i64 (A : Int))) (by kernel_rfl) ?_
        change wpAnyH _ _ _ _ _ _ _ _ (W3).drew
        obtain ⟨XD, hXD⟩ : ∃ V, (W3).drew = V := ⟨_, rfl⟩
        have bXD : Below (W3).heap.size (W3) XD := by rw [← hXD]; exact (Below.refl _ _).drew
        have HS8 : Hid (XD.heap[w.heap.size]? = some (.cells #[.int .i64 0, .int .i64 0, .string ⟨#[]⟩, .int .i64 0, .slice none 0 0] TX (0, 0)) ∧ XD.cell? ⟨kb, off + n * 4 + 3, none⟩ = some (.int .i64 (A : Int))) := Lib.hid ⟨(bXD.block _ (ltH H3.out)).trans H3.out, by rw [← hXD]; exact t3⟩
        have HBD := Lib.hid (HB3.out.trans (bXD.mono HB3.out.size))
        clear t3
        rw [hXD]
        clear hXD bXD
        refine wpAnyH_read (i := 0) (v := .agg #[.int .i64 0, .int .i64 0, .string ⟨#[]⟩, .int .i64 0, .slice none 0 0]) rfl (by kernel_rfl) (by kernel_rfl) (by kernel_rfl) (fun _ _ _ h => h) (by rfl) (by intro V _; go_simp) HS8.out ?_
        simp only [Act.put, List.setIfInBounds_toArray, List.set_cons_zero, List.set_cons_succ]
        refine wpAnyH_read (i := 1) (v := .slice (some ⟨kb, off, none⟩) ts.length c) rfl (by kernel_rfl) (by kernel_rfl) (by kernel_rfl) (fun _ _ _ h => h) (by rfl) (fun _ _ => rfl) HS8.out ?_
        simp only [Act.put, List.setIfInBounds_toArray, List.set_cons_zero, List.set_cons_succ]
        refine wpAnyH_read (i := 2) (v := .int .i64 (n : Int)) rfl (by kernel_rfl) (by kernel_rfl) (by kernel_rfl) (fun _ _ _ h => h) (by rfl) (fun _ _ => rfl) HS8.out ?_
        simp only [Act.put, List.setIfInBounds_toArray, List.set_cons_zero, List.set_cons_succ]
        refine wpAnyH_read (i := 3) (v := .pointer (some ⟨kb, off + n * 4, none⟩)) rfl (by kernel_rfl) (by kernel_rfl) (by kernel_rfl) (fun _ _ _ h => h) (by rfl) (by intro V _; go_simp) HS8.out ?_
        simp only [Act.put, List.setIfInBounds_toArray, List.set_cons_zero, List.set_cons_succ]
        refine wpAnyH_read (i := 4) (v := .pointer (some ⟨kb, off + n * 4 + 3, none⟩)) rfl (by kernel_rfl) (by kernel_rfl) (by kernel_rfl) (fun _ _ _ h => h) (by rfl) (by intro V _; go_simp) HS8.out ?_
        simp only [Act.put, List.setIfInBounds_toArray, List.set_cons_zero, List.set_cons_succ]
        refine wpAnyH_read (i := 5) (v := .int .i64 (A : Int)) rfl (by kernel_rfl) (by kernel_rfl) (by kernel_rfl) (fun _ _ _ h => h) (by rfl) (by rintro V ⟨_, q⟩; go_simp) HS8.out ?_
        simp only [Act.put, List.setIfInBounds_toArray, List.set_cons_zero, List.set_cons_succ]
        refine wpAnyH_next (i := 6) rfl (by kernel_rfl) ?_
        go_wp2_with (refine wpList_store_row rfl TX (.tmp 2) (.tmp 39) rfl w.heap.size #[.int .i64 0, .int .i64 0, .string ⟨#[]⟩, .int .i64 0, .slice none 0 0] rfl rfl _ _ HS8.out.1 (by kernel_rfl) rfl (by simp [Value.oneCell']) ?_)
        obtain ⟨XE, hXE⟩ : ∃ V, XD.setRow w.heap.size #[.int .i64 0, .int .i64 0, .string ⟨#[]⟩, .int .i64 0, .slice none 0 0] = V := ⟨_, rfl⟩
        have HS9 : Hid (XE.heap[w.heap.size]? = some (.cells #[.int .i64 0, .int .i64 0, .string ⟨#[]⟩, .int .i64 0, .slice none 0 0] TX (0, 0)) ∧ XE.cell? ⟨kb, off + n * 4 + 3, none⟩ = some (.int .i64 (A : Int))) := Lib.hid ⟨by rw [← hXE]; exact setRow_heap _ _ _ _ _ _ HS8.out.1, by
          rw [← hXE]
          refine (World.cell?_of_block ?_).trans HS8.out.2
          simp only [World.setRow, Array.getElem?_modify]
          rw [if_neg (Ne.symm HKB.out)]⟩
        have HBE : Hid (Below w.heap.size w XE) := Lib.hid (by rw [← hXE]; exact below_setRow HBD.out (Nat.le_refl _) _)
        rw [hXE]
        clear hXE
        simp only [nextQ]
        refine ⟨HS9.out, ?_⟩
        refine wpAnyH_next (i := 7) rfl (by kernel_rfl) ?_
        go_wp2_with fail
        refine ⟨HS9.out, ?_⟩
        refine wpAnyH_next (i := 8) rfl (by kernel_rfl) ?_
        go_wp2_with fail
        refine ⟨HS9.out, ?_⟩
        refine wpAnyH_done (by kernel_rfl) ?_ _
        go_wp2
        refine bodyPost_ret (ret_ex Tryd.results16 _ w.heap.size zeroX nilX _ _ _ HS9.out.1 rfl rfl rfl) rfl ?_
        show RetE w _ _ (psF s)
        rw [HPF.out]
        exact ⟨none, 0, 0, rfl, ka_zero _ _, HBE.out⟩
  · have HP := Lib.hid (psF_er hl hq)
    go_enter Tryd.func16, Tryd.ntmps16
    go_wp2_with fail
    try rw [hW0]
    refine HTK.out.mono ?_
    rintro x w1 ⟨v, rfl, hk, hb⟩
    have HB1 := Lib.hid (HB0.out.trans (hb.mono (by have := HS0.out; omega)))
    have HG1 := Lib.hid ((hb.block _ (ltH HG0.out)).trans HG0.out)
    have q1 : (q != 0) = true := by simpa using hq
    clear hb hk
    go_wp2_with (refine wpList_store_row rfl TX (.tmp 2) (.tmp 20) rfl w.heap.size #[.int .i64 0, .int .i64 0, .string ⟨#[]⟩, .int .i64 0, .slice none 0 0] rfl rfl _ _ HG1.out (by kernel_rfl) rfl (by simp [Value.oneCell']) ?_)
    try simp only [Exit.inBlock, Exit.then]
    refine bodyPost_ret (ret_ex Tryd.results16 _ w.heap.size zeroX nilX _ _ _ (setRow_heap _ _ _ _ _ _ HG1.out) rfl rfl rfl) rfl ?_
    show RetE w _ _ (psF s)
    rw [HP.out]
    exact ⟨none, 0, 0, rfl, ka_zero _ _, below_setRow HB1.out (Nat.le_refl _) _⟩

theorem equ_same {e : Ex} (h : ckE e = 0) : samB e e = true := by
  unfold samB equE
  rw [h, (eqE_iff e e).2 rfl]
  rfl
theorem zeroX_ok : samB zeroX zeroX = true ∧ fitE zeroX := ⟨by decide, emp_sz, trivial⟩
theorem exF_same {ts : List Tk} {e : Ex} {n : Nat} {q : Int} (h : exF ts = (e, n, q)) : samB e e = true ∧ fitE e := by
  have hsh := pE_sh ts
  unfold exF at h
  by_cases h1 : 4001 < ts.length
  · rw [if_pos h1] at h; injection h with h _; subst h; exact zeroX_ok
  · rw [if_neg h1] at h
    cases hr : pE ts with
    | out => rw [hr] at h; injection h with h _; subst h; exact zeroX_ok
    | bad k => rw [hr] at h; injection h with h _; subst h; exact zeroX_ok
    | ok x k =>
      rw [hr] at h hsh
      simp only at h
      by_cases hc : ckE x = 0
      · rw [if_pos hc] at h; injection h with h _; subst h; exact ⟨equ_same hc, hsh.2.fit⟩
      · rw [if_neg hc] at h; injection h with h _; subst h; exact zeroX_ok
theorem psF_same {s : ByteArray} {e : Ex} {n : Nat} {q : Int} (h : psF s = (e, n, q)) : samB e e = true ∧ fitE e := by
  have hsh := pE_sh (lexT s).1
  unfold psF at h
  by_cases h1 : (lexT s).2.2 ≠ 0
  · rw [if_pos h1] at h; injection h with h _; subst h; exact zeroX_ok
  · rw [if_neg h1] at h
    cases hr : pE (lexT s).1 with
    | out => rw [hr] at h; injection h with h _; subst h; exact zeroX_ok
    | bad k => rw [hr] at h; injection h with h _; subst h; exact zeroX_ok
    | ok x k =>
      rw [hr] at h hsh
      simp only at h
      by_cases h2 : (gk (lexT s).1 k).k ≠ 0
      · rw [if_pos h2] at h; injection h with h _; subst h; exact zeroX_ok
      · rw [if_neg h2] at h
        by_cases hc : ckE x = 0
        · rw [if_pos hc] at h; injection h with h _; subst h; exact ⟨equ_same hc, hsh.2.fit⟩
        · rw [if_neg hc] at h; injection h with h _; subst h; exact zeroX_ok
theorem rparA (s : ByteArray) (e : Ex) (i : Nat) (q : Int) (w : World) (hs : s.size ≤ 9223372036854775807) (h : psF s = (e, i, q)) :
    Calls Tryd.prog 16 #[.string s] w fun x w' => ∃ a m c, x = .returned (.tuple #[exV e (.slice a m c), .int .i64 (i : Int), .int .i64 q]) ∧ KX w' e (.slice a m c) ∧ Below w.heap.size w w' := by
  have := rParse_any s w hs
  rw [h] at this
  refine this.mono ?_
  rintro x w' ⟨a, m, c, rfl, hk, hb⟩
  exact ⟨a, m, c, rfl, hk.mono (fun _ _ _ => trivial), hb⟩
theorem expA (a : Option Addr) (c : Nat) (ts : List Tk) (e : Ex) (i : Nat) (q : Int) (w : World) (hk : TkA anyB w a ts) (hlc : ts.length ≤ c) (hn : ts.length ≤ 9223372036854775807) (hok : TokOk ts) (hT : TabJ w) (h : exF ts = (e, i, q)) :
    Calls Tryd.prog 12 #[.slice a ts.length c] w fun x w' => ∃ b m d, x = .returned (.tuple #[exV e (.slice b m d), .int .i64 (i : Int), .int .i64 q]) ∧ KX w' e (.slice b m d) ∧ Below w.heap.size w w' := by
  have := Expr_any a c ts w hk hlc hn hok hT
  rw [h] at this
  refine this.mono ?_
  rintro x w' ⟨a, m, c, rfl, hk, hb⟩
  exact ⟨a, m, c, rfl, hk.mono (fun _ _ _ => trivial), hb⟩
theorem rexpA (a : Option Addr) (c : Nat) (ts : List Tk) (e : Ex) (i : Nat) (q : Int) (w : World) (hk : TkA anyB w a ts) (hn : ts.length ≤ 9223372036854775807) (hok : TokOk ts) (h : exF ts = (e, i, q)) :
    Calls Tryd.prog 13 #[.slice a ts.length c] w fun x w' => ∃ b m d, x = .returned (.tuple #[exV e (.slice b m d), .int .i64 (i : Int), .int .i64 q]) ∧ KX w' e (.slice b m d) ∧ Below w.heap.size w w' := by
  have := rExpr_any a c ts w hk hn hok
  rw [h] at this
  refine this.mono ?_
  rintro x w' ⟨a, m, c, rfl, hk, hb⟩
  exact ⟨a, m, c, rfl, hk.mono (fun _ _ _ => trivial), hb⟩

end Go.Proofs.YtdgphhdkeikbaaaDoor
