/-
  The program's Parse.
-/
import Derived.Test.YtdgphhdkeikbaaaDoorLxParse
namespace Go.Proofs.YtdgphhdkeikbaaaDoor
set_option linter.unusedSimpArgs false
set_option linter.unusedVariables false
open Go.RowKit

theorem TkO.at_ {φ : Nat → Prop} {w : World} {b : Nat} {off : Nat} {ts : List Tk} {j : Nat} (h : TkO φ w (some ⟨b, off, none⟩) ts) (hj : j < ts.length) : w.cell? ⟨b, off + j * 4 + 3, none⟩ = some (.int .i64 ((gk ts j).a : Int)) := by
  obtain ⟨b', off', e1, _, _, e4⟩ := h j hj
  injection e1 with e1
  injection e1 with q1 q2
  subst q1 q2
  exact e4
def psH (ts : List Tk) : Rs → Ex × Nat × Int
  | .ok e n => if (gk ts n).k ≠ 0 then (zeroX, (gk ts n).a, 3) else if ckE e = 0 then (e, 0, 0) else (zeroX, 0, ckE e)
  | .bad n => (zeroX, (gk ts n).a, 3)
  | .out => (zeroX, 0, 0)
theorem psF_er {s : ByteArray} {ts : List Tk} {i : Nat} {q : Int} (h : lexT s = (ts, i, q)) (hq : q ≠ 0) : psF s = (zeroX, i, q) := by
  unfold psF; rw [h, if_pos hq]
theorem psF_ok {s : ByteArray} {ts : List Tk} {i : Nat} (h : lexT s = (ts, i, 0)) : psF s = psH ts (pE ts) := by
  unfold psF; rw [h]; rfl
set_option maxRecDepth 100000 in
set_option maxHeartbeats 8000000 in
theorem Parse_any (s : ByteArray) (w : World) (hs : s.size ≤ 9223372036854775807) (hv : LxV w) (hT : TabJ w) :
    Calls Tryd.prog 15 #[.string s] w fun x w' => RetE w x w' (psF s) := by
  obtain ⟨W0, hW0⟩ : ∃ W, w.alloc (.cells #[.int .i64 0, .int .i64 0, .string ⟨#[]⟩, .int .i64 0, nilX] TX) = W := ⟨_, rfl⟩
  have hbw : Below w.heap.size w W0 := by rw [← hW0]; exact (Below.refl _ w).alloc (Nat.le_refl _) _
  have hg0 : W0.heap[w.heap.size]? = some (.cells #[.int .i64 0, .int .i64 0, .string ⟨#[]⟩, .int .i64 0, nilX] TX (0, 0)) := by rw [← hW0]; exact heapNew w _
  have hs0 : W0.heap.size = w.heap.size + 1 := by rw [← hW0]; simp
  have HTK := Lib.hid (Tokens_any s W0 hs (hv.below hbw (Nat.le_refl _)))
  have HT := Lib.hid (hT.below hbw)
  have HB0 := Lib.hid hbw
  have HG0 := Lib.hid hg0
  have HS0 := Lib.hid hs0
  obtain ⟨ts, i, q, hl⟩ : ∃ ts i q, lexT s = (ts, i, q) := ⟨_, _, _, rfl⟩
  rw [hl] at HTK
  simp only at HTK
  clear hbw hg0 hs0 hv hT
  by_cases hq : q = 0
  · subst hq
    obtain ⟨hlo, rfl⟩ := lexT_ok hl
    have hrs := hlo.rs
    have hln := hlo.len
    have hto := hlo.tok
    have hsh := pE_sh ts
    have hne := pE_ne ts
    have HP := Lib.hid (psF_ok hl)
    obtain ⟨r, hr⟩ : ∃ r, pE ts = r := ⟨_, rfl⟩
    rw [hr] at hne hsh hrs HP
    have HR := Lib.hid hr
    have HTO := Lib.hid hto
    clear hr hlo hl hto
    go_enter Tryd.func15, Tryd.ntmps15
    go_wp2_with fail
    try rw [hW0]
    refine HTK.out.mono ?_
    rintro x w1 ⟨v, rfl, hk, hb⟩
    obtain ⟨a, c, rfl, hlc, hc63, hka, hko⟩ := hk
    have hX := Lib.hid (read_any a c ts w1 (hka.keep (Nat.le_refl _) (fun _ _ _ => ⟨trivial, rfl⟩)) hln hlc HTO.out (HT.out.below hb))
    rw [HR.out] at hX
    have HZ0 := Lib.hid hb.size
    have HB1 := Lib.hid (HB0.out.trans (hb.mono (by have := HS0.out; omega)))
    have HG1 := Lib.hid ((hb.block _ (ltH HG0.out)).trans HG0.out)
    have HKA := Lib.hid hka
    have HKO := Lib.hid hko
    clear hb hka hko
    go_wp2_with fail
    refine hX.out.mono ?_
    rintro x w2 ⟨sa, sn, sc, rfl, hXA, hb⟩
    have hg2 := (hb.block _ (ltH HG1.out)).trans HG1.out
    have HA2 := Lib.hid (HKA.out.below hb)
    have HO2 := Lib.hid (HKO.out.below hb)
    have HB2 := Lib.hid (HB1.out.trans (hb.mono HB1.out.size))
    have hz1 : w.heap.size + 1 ≤ w1.heap.size := by have := HZ0.out; have := HS0.out; omega
    cases r with
    | out => exact absurd rfl hne
    | bad n =>
      have hn : n < ts.length := hrs
      have n1 : (n : Int) < (ts.length : Int) := by omega
      obtain ⟨kb, off, rfl, hkw, hkl, t0, t1, t2⟩ := HA2.out.at_ hn
      have t3 := HO2.out.at_ hn
      obtain ⟨A, hA⟩ : ∃ A, (gk ts n).a = A := ⟨_, rfl⟩
      rw [hA] at t3
      have HPF : Hid (psF s = (zeroX, A, 3)) := Lib.hid (by rw [HP.out, ← hA]; rfl)
      obtain ⟨W3, hW3⟩ : ∃ W, w2.alloc (.cells #[.int .i64 zeroX.k, .int .i64 zeroX.o, .string zeroX.s, .int .i64 zeroX.v, .slice sa sn sc] TX (0, 0)) = W := ⟨_, rfl⟩
      have hb3 : Below w2.heap.size w2 W3 := by rw [← hW3]; exact (Below.refl _ _).alloc (Nat.le_refl _) _
      have H3 := Lib.hid ((hb3.block _ (ltH hg2)).trans hg2)
      have HB3 := Lib.hid (HB2.out.trans (hb3.mono HB2.out.size))
      replace t3 : W3.cell? ⟨kb, off + n * 4 + 3, none⟩ = some (.int .i64 (A : Int)) := by rw [← hW3]; exact (World.cell?_of_block (Below.heap_alloc _ _ _ hkl)).trans t3
      have HKB : Hid (kb ≠ w.heap.size) := Lib.hid (by have : W0.heap.size ≤ kb := hkw; have := HS0.out; omega)
      clear hb hXA hsh hne hg2 hkw t0 t1 t2 hA hrs hkl
      simp only [rdF, exV] at *
      go_wp2_with fail
      refine wp_region_held (S := fun V => V.heap[w.heap.size]? = some (.cells #[.int .i64 0, .int .i64 0, .string ⟨#[]⟩, .int .i64 0, .slice none 0 0] TX (0, 0)) ∧ V.cell? ⟨kb, off + n * 4 + 3, none⟩ = some (.int .i64 (A : Int))) (by kernel_rfl) ?_
      change wpAnyH _ _ _ _ _ _ _ _ (W3).drew
      obtain ⟨XD, hXD⟩ : ∃ V, (W3).drew = V := ⟨_, rfl⟩
      have bXD : Below (W3).heap.size (W3) XD := by rw [← hXD]; exact (Below.refl _ _).drew
      have HS8 : Hid (XD.heap[w.heap.size]? = some (.cells #[.int .i64 0, .int .i64 0, .string ⟨#[]⟩, .int .i64 0, .slice none 0 0] TX (0, 0)) ∧ XD.cell? ⟨kb, off + n * 4 + 3, none⟩ = some (.int .i64 (A : Int))) := Lib.hid ⟨(bXD.block _ (ltH H3.out)).trans H3.out, by rw [← hXD]; exact t3⟩
      have HBD := Lib.hid (HB3.out.trans (bXD.mono HB3.out.size))
      clear t3
      rw [hXD]
      clear hXD bXD
      refine wpAnyH_read (i := 0) (v := .agg #[.int .i64 0, .int .i64 0, .string ⟨#[]⟩, .int .i64 0, .slice none 0 0]) rfl (by kernel_rfl) (by kernel_rfl) (by kernel_rfl) (fun _ _ _ h => h) (by rfl) (by intro V _; go_simp) HS8.out ?_
      simp only [Act.put, List.setIfInBounds_toArray, List.set_cons_zero, List.set_cons_succ]
      refine wpAnyH_read (i := 1) (v := .slice (some ⟨kb, off, none⟩) ts.length c) rfl (by kernel_rfl) (by kernel_rfl) (by kernel_rfl) (fun _ _ _ h => h) (by rfl) (fun _ _ => rfl) HS8.out ?_
      simp only [Act.put, List.setIfInBounds_toArray, List.set_cons_zero, List.set_cons_succ]
      refine wpAnyH_read (i := 2) (v := .int .i64 (n : Int)) rfl (by kernel_rfl) (by kernel_rfl) (by kernel_rfl) (fun _ _ _ h => h) (by rfl) (fun _ _ => rfl) HS8.out ?_
      simp only [Act.put, List.setIfInBounds_toArray, List.set_cons_zero, List.set_cons_succ]
      refine wpAnyH_read (i := 3) (v := .pointer (some ⟨kb, off + n * 4, none⟩)) rfl (by kernel_rfl) (by kernel_rfl) (by kernel_rfl) (fun _ _ _ h => h) (by rfl) (by intro V _; go_simp) HS8.out ?_
      simp only [Act.put, List.setIfInBounds_toArray, List.set_cons_zero, List.set_cons_succ]
      refine wpAnyH_read (i := 4) (v := .pointer (some ⟨kb, off + n * 4 + 3, none⟩)) rfl (by kernel_rfl) (by kernel_rfl) (by kernel_rfl) (fun _ _ _ h => h) (by rfl) (by intro V _; go_simp) HS8.out ?_
      simp only [Act.put, List.setIfInBounds_toArray, List.set_cons_zero, List.set_cons_succ]
      refine wpAnyH_read (i := 5) (v := .int .i64 (A : Int)) rfl (by kernel_rfl) (by kernel_rfl) (by kernel_rfl) (fun _ _ _ h => h) (by rfl) (by rintro V ⟨_, q⟩; go_simp) HS8.out ?_
      simp only [Act.put, List.setIfInBounds_toArray, List.set_cons_zero, List.set_cons_succ]
      refine wpAnyH_next (i := 6) rfl (by kernel_rfl) ?_
      go_wp2_with (refine wpList_store_row rfl TX (.tmp 2) (.tmp 38) rfl w.heap.size #[.int .i64 0, .int .i64 0, .string ⟨#[]⟩, .int .i64 0, .slice none 0 0] rfl rfl _ _ HS8.out.1 (by kernel_rfl) rfl (by simp [Value.oneCell']) ?_)
      obtain ⟨XE, hXE⟩ : ∃ V, XD.setRow w.heap.size #[.int .i64 0, .int .i64 0, .string ⟨#[]⟩, .int .i64 0, .slice none 0 0] = V := ⟨_, rfl⟩
      have HS9 : Hid (XE.heap[w.heap.size]? = some (.cells #[.int .i64 0, .int .i64 0, .string ⟨#[]⟩, .int .i64 0, .slice none 0 0] TX (0, 0)) ∧ XE.cell? ⟨kb, off + n * 4 + 3, none⟩ = some (.int .i64 (A : Int))) := Lib.hid ⟨by rw [← hXE]; exact setRow_heap _ _ _ _ _ _ HS8.out.1, by
        rw [← hXE]
        refine (World.cell?_of_block ?_).trans HS8.out.2
        simp only [World.setRow, Array.getElem?_modify]
        rw [if_neg (Ne.symm HKB.out)]⟩
      have HBE : Hid (Below w.heap.size w XE) := Lib.hid (by rw [← hXE]; exact below_setRow HBD.out (Nat.le_refl _) _)
      rw [hXE]
      clear hXE
      simp only [nextQ]
      refine ⟨HS9.out, ?_⟩
      refine wpAnyH_next (i := 7) rfl (by kernel_rfl) ?_
      go_wp2_with fail
      refine ⟨HS9.out, ?_⟩
      refine wpAnyH_next (i := 8) rfl (by kernel_rfl) ?_
      go_wp2_with fail
      refine ⟨HS9.out, ?_⟩
      refine wpAnyH_done (by kernel_rfl) ?_ _
      go_wp2
      refine bodyPost_ret (ret_ex Tryd.results15 _ w.heap.size zeroX nilX _ _ _ HS9.out.1 rfl rfl rfl) rfl ?_
      show RetE w _ _ (psF s)
      rw [HPF.out]
      exact ⟨none, 0, 0, rfl, ka_zero _ _, HBE.out⟩
    | ok e n =>
      have hn : n < ts.length := hrs
      have n1 : (n : Int) < (ts.length : Int) := by omega
      obtain ⟨kb, off, rfl, hkw, hkl, t0, t1, t2⟩ := HA2.out.at_ hn
      have t3 := HO2.out.at_ hn
      obtain ⟨A, hA⟩ : ∃ A, (gk ts n).a = A := ⟨_, rfl⟩
      obtain ⟨K, hK⟩ : ∃ A, (gk ts n).k = A := ⟨_, rfl⟩
      rw [hA] at t3
      rw [hK] at t0
      have HPF : Hid (psF s = if K ≠ 0 then (zeroX, A, 3) else if ckE e = 0 then (e, 0, 0) else (zeroX, 0, ckE e)) := Lib.hid (by rw [HP.out, ← hA, ← hK]; rfl)
      obtain ⟨W3, hW3⟩ : ∃ W, w2.alloc (.cells #[.int .i64 e.k, .int .i64 e.o, .string e.s, .int .i64 e.v, .slice sa sn sc] TX (0, 0)) = W := ⟨_, rfl⟩
      have hb3 : Below w2.heap.size w2 W3 := by rw [← hW3]; exact (Below.refl _ _).alloc (Nat.le_refl _) _
      have H3 := Lib.hid ((hb3.block _ (ltH hg2)).trans hg2)
      have HE3 : Hid (W3.heap[w2.heap.size]? = some (.cells #[.int .i64 e.k, .int .i64 e.o, .string e.s, .int .i64 e.v, .slice sa sn sc] TX (0, 0))) := Lib.hid (by rw [← hW3]; exact heapNew _ _)
      have HB3 := Lib.hid (HB2.out.trans (hb3.mono HB2.out.size))
      have HX := Lib.hid (hXA.carry hb3)
      have hXB : KX W3 e (.slice sa sn sc) := HX.out.mono (fun _ _ _ => trivial)
      have HZ1 : Hid (w.heap.size + 1 ≤ w1.heap.size) := Lib.hid hz1
      have HFE := Lib.hid hsh.2.fit
      replace t3 : W3.cell? ⟨kb, off + n * 4 + 3, none⟩ = some (.int .i64 (A : Int)) := by rw [← hW3]; exact (World.cell?_of_block (Below.heap_alloc _ _ _ hkl)).trans t3
      replace t0 : W3.cell? ⟨kb, off + n * 4, none⟩ = some (.int .i64 K) := by rw [← hW3]; exact (World.cell?_of_block (Below.heap_alloc _ _ _ hkl)).trans t0
      have HKB : Hid (kb ≠ w.heap.size) := Lib.hid (by have : W0.heap.size ≤ kb := hkw; have := HS0.out; omega)
      have HXB := Lib.hid hXB
      clear hb hXA hsh hne hg2 hkw t1 t2 hA hK hrs hkl hXB hb3
      simp only [rdF, exV] at *
      by_cases hk0 : K = 0
      · subst hk0
        have HC := Lib.hid (check_any e _ W3 HXB.out HFE.out)
        simp only [exV] at HC
        go_wp2_with (refine wpList_load_row rfl TX (.tmp 8) rfl w2.heap.size rfl TX _ (0, 0) _ HE3.out Tryd.underlying26 rfl (by kernel_rfl) ?_)
        refine HC.out.mono ?_
        rintro x w3 ⟨rfl, hb3⟩
        have H30 := Lib.hid ((hb3.block _ (ltH H3.out)).trans H3.out)
        have H31 := Lib.hid ((hb3.block _ (ltH HE3.out)).trans HE3.out)
        have HX3 := Lib.hid (HX.out.carry hb3)
        have HB3 := Lib.hid (HB3.out.trans (hb3.mono HB3.out.size))
        clear hb3
        by_cases hc : ckE e = 0
        · have HPF : Hid (psF s = (e, 0, 0)) := Lib.hid (HPF.out.trans (by rw [if_neg (by simp), if_pos hc]))
          go_wp2_with (first
            | refine wpList_load_row rfl TX (.tmp 8) rfl w2.heap.size rfl TX _ (0, 0) _ H31.out Tryd.underlying26 rfl (by kernel_rfl) ?_
            | refine wpList_store_row rfl TX (.tmp 2) (.tmp 50) rfl w.heap.size #[.int .i64 e.k, .int .i64 e.o, .string e.s, .int .i64 e.v, .slice sa sn sc] rfl rfl _ _ H30.out (by kernel_rfl) rfl (by simp [Value.oneCell']) ?_)
          try simp only [Exit.inBlock, Exit.then]
          refine bodyPost_ret (ret_ex Tryd.results15 _ w.heap.size e (.slice sa sn sc) _ _ _ (setRow_heap _ _ _ _ _ _ H30.out) rfl rfl rfl) rfl ?_
          show RetE w _ _ (psF s)
          rw [HPF.out]
          exact ⟨sa, sn, sc, rfl, (kaRow (kaMono HX3.out HZ1.out) (Nat.lt_succ_self _) _).mono (fun _ _ h => h), below_setRow HB3.out (Nat.le_refl _) _⟩
        · have HPF : Hid (psF s = (zeroX, 0, ckE e)) := Lib.hid (HPF.out.trans (by rw [if_neg (by simp), if_neg hc]))
          go_wp2_with (refine wpList_store_row rfl TX (.tmp 2) (.tmp 48) rfl w.heap.size #[.int .i64 0, .int .i64 0, .string ⟨#[]⟩, .int .i64 0, .slice none 0 0] rfl rfl _ _ H30.out (by kernel_rfl) rfl (by simp [Value.oneCell']) ?_)
          try simp only [Exit.inBlock, Exit.then]
          refine bodyPost_ret (ret_ex Tryd.results15 _ w.heap.size zeroX nilX _ _ _ (setRow_heap _ _ _ _ _ _ H30.out) rfl rfl rfl) rfl ?_
          show RetE w _ _ (psF s)
          rw [HPF.out]
          exact ⟨none, 0, 0, rfl, ka_zero _ _, below_setRow HB3.out (Nat.le_refl _) _⟩
      · have HPF : Hid (psF s = (zeroX, A, 3)) := Lib.hid (HPF.out.trans (if_pos hk0))
        have k1 : (K == 0) = false := by simpa using hk0
        have k2 : (K != 0) = true := by simpa using hk0
        go_wp2_with fail
        refine wp_region_held (S := fun V => V.heap[w.heap.size]? = some (.cells #[.int .i64 0, .int .i64 0, .string ⟨#[]⟩, .int .i64 0, .slice none 0 0] TX (0, 0)) ∧ V.cell? ⟨kb, off + n * 4 + 3, none⟩ = some (.int .i64 (A : Int))) (by kernel_rfl) ?_
        change wpAnyH _ _ _ _ _ _ _ _ (W3).drew
        obtain ⟨XD, hXD⟩ : ∃ V, (W3).drew = V := ⟨_, rfl⟩
        have bXD : Below (W3).heap.size (W3) XD := by rw [← hXD]; exact (Below.refl _ _).drew
        have HS8 : Hid (XD.heap[w.heap.size]? = some (.cells #[.int .i64 0, .int .i64 0, .string ⟨#[]⟩, .int .i64 0, .slice none 0 0] TX (0, 0)) ∧ XD.cell? ⟨kb, off + n * 4 + 3, none⟩ = some (.int .i64 (A : Int))) := Lib.hid ⟨(bXD.block _ (ltH H3.out)).trans H3.out, by rw [← hXD]; exact t3⟩
        have HBD := Lib.hid (HB3.out.trans (bXD.mono HB3.out.size))
        clear t3
        rw [hXD]
        clear hXD bXD
        refine wpAnyH_read (i := 0) (v := .agg #[.int .i64 0, .int .i64 0, .string ⟨#[]⟩, .int .i64 0, .slice none 0 0]) rfl (by kernel_rfl) (by kernel_rfl) (by kernel_rfl) (fun _ _ _ h => h) (by rfl) (by intro V _; go_simp) HS8.out ?_
        simp only [Act.put, List.setIfInBounds_toArray, List.set_cons_zero, List.set_cons_succ]
        refine wpAnyH_read (i := 1) (v := .slice (some ⟨kb, off, none⟩) ts.length c) rfl (by kernel_rfl) (by kernel_rfl) (by kernel_rfl) (fun _ _ _ h => h) (by rfl) (fun _ _ => rfl) HS8.out ?_
        simp only [Act.put, List.setIfInBounds_toArray, List.set_cons_zero, List.set_cons_succ]
        refine wpAnyH_read (i := 2) (v := .int .i64 (n : Int)) rfl (by kernel_rfl) (by kernel_rfl) (by kernel_rfl) (fun _ _ _ h => h) (by rfl) (fun _ _ => rfl) HS8.out ?_
        simp only [Act.put, List.setIfInBounds_toArray, List.set_cons_zero, List.set_cons_succ]
        refine wpAnyH_read (i := 3) (v := .pointer (some ⟨kb, off + n * 4, none⟩)) rfl (by kernel_rfl) (by kernel_rfl) (by kernel_rfl) (fun _ _ _ h => h) (by rfl) (by intro V _; go_simp) HS8.out ?_
        simp only [Act.put, List.setIfInBounds_toArray, List.set_cons_zero, List.set_cons_succ]
        refine wpAnyH_read (i := 4) (v := .pointer (some ⟨kb, off + n * 4 + 3, none⟩)) rfl (by kernel_rfl) (by kernel_rfl) (by kernel_rfl) (fun _ _ _ h => h) (by rfl) (by intro V _; go_simp) HS8.out ?_
        simp only [Act.put, List.setIfInBounds_toArray, List.set_cons_zero, List.set_cons_succ]
        refine wpAnyH_read (i := 5) (v := .int .i64 (A : Int)) rfl (by kernel_rfl) (by kernel_rfl) (by kernel_rfl) (fun _ _ _ h => h) (by rfl) (by rintro V ⟨_, q⟩; go_simp) HS8.out ?_
        simp only [Act.put, List.setIfInBounds_toArray, List.set_cons_zero, List.set_cons_succ]
        refine wpAnyH_next (i := 6) rfl (by kernel_rfl) ?_
        go_wp2_with (refine wpList_store_row rfl TX (.tmp 2) (.tmp 38) rfl w.heap.size #[.int .i64 0, .int .i64 0, .string ⟨#[]⟩, .int .i64 0, .slice none 0 0] rfl rfl _ _ HS8.out.1 (by kernel_rfl) rfl (by simp [Value.oneCell']) ?_)
        obtain ⟨XE, hXE⟩ : ∃ V, XD.setRow w.heap.size #[.int .i64 0, .int .i64 0, .string ⟨#[]⟩, .int .i64 0, .slice none 0 0] = V := ⟨_, rfl⟩
        have HS9 : Hid (XE.heap[w.heap.size]? = some (.cells #[.int .i64 0, .int .i64 0, .string ⟨#[]⟩, .int .i64 0, .slice none 0 0] TX (0, 0)) ∧ XE.cell? ⟨kb, off + n * 4 + 3, none⟩ = some (.int .i64 (A : Int))) := Lib.hid ⟨by rw [← hXE]; exact setRow_heap _ _ _ _ _ _ HS8.out.1, by
          rw [← hXE]
          refine (World.cell?_of_block ?_).trans HS8.out.2
          simp only [World.setRow, Array.getElem?_modify]
          rw [if_neg (Ne.symm HKB.out)]⟩
        have HBE : Hid (Below w.heap.size w XE) := Lib.hid (by rw [← hXE]; exact below_setRow HBD.out (Nat.le_refl _) _)
        rw [hXE]
        clear hXE
        simp only [nextQ]
        refine ⟨HS9.out, ?_⟩
        refine wpAnyH_next (i := 7) rfl (by kernel_rfl) ?_
        go_wp2_with fail
        refine ⟨HS9.out, ?_⟩
        refine wpAnyH_next (i := 8) rfl (by kernel_rfl) ?_
        go_wp2_with fail
        refine ⟨HS9.out, ?_⟩
        refine wpAnyH_done (by kernel_rfl) ?_ _
        go_wp2
        refine bodyPost_ret (ret_ex Tryd.results15 _ w.heap.size zeroX nilX _ _ _ HS9.out.1 rfl rfl rfl) rfl ?_
        show RetE w _ _ (psF s)
        rw [HPF.out]
        exact ⟨none, 0, 0, rfl, ka_zero _ _, HBE.out⟩
  · have HP := Lib.hid (psF_er hl hq)
    go_enter Tryd.func15, Tryd.ntmps15
    go_wp2_with fail
    try rw [hW0]
    refine HTK.out.mono ?_
    rintro x w1 ⟨v, rfl, hk, hb⟩
    have HB1 := Lib.hid (HB0.out.trans (hb.mono (by have := HS0.out; omega)))
    have HG1 := Lib.hid ((hb.block _ (ltH HG0.out)).trans HG0.out)
    have q1 : (q != 0) = true := by simpa using hq
    clear hb hk
    go_wp2_with (refine wpList_store_row rfl TX (.tmp 2) (.tmp 19) rfl w.heap.size #[.int .i64 0, .int .i64 0, .string ⟨#[]⟩, .int .i64 0, .slice none 0 0] rfl rfl _ _ HG1.out (by kernel_rfl) rfl (by simp [Value.oneCell']) ?_)
    try simp only [Exit.inBlock, Exit.then]
    refine bodyPost_ret (ret_ex Tryd.results15 _ w.heap.size zeroX nilX _ _ _ (setRow_heap _ _ _ _ _ _ HG1.out) rfl rfl rfl) rfl ?_
    show RetE w _ _ (psF s)
    rw [HP.out]
    exact ⟨none, 0, 0, rfl, ka_zero _ _, below_setRow HB1.out (Nat.le_refl _) _⟩
end Go.Proofs.YtdgphhdkeikbaaaDoor
