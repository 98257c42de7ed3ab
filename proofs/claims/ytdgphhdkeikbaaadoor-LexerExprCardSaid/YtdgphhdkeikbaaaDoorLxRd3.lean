/-
  The program's reader: leafOf.
-/
import Derived.Lib.AppendIntMem
import Derived.Test.YtdgphhdkeikbaaaDoorLxRd2
namespace Go.Proofs.YtdgphhdkeikbaaaDoor
set_option linter.unusedSimpArgs false
set_option linter.unusedVariables false
open Go.RowKit Go.Shelf Go.Sort

theorem lxGrow (w : World) (k : Nat) (os : Array Obj) : Below w.heap.size w (grow (w.drewN k) os) :=
  ⟨rfl, rfl, rfl, by simp [grow], fun i hi => heap_grow_old (w.drewN k) os hi⟩
theorem itoaT_any (n : Int) (h0 : -9223372036854775808 ≤ n) (h1 : n ≤ 9223372036854775807) (w : World) (hT : TabJ w) : Calls Tryd.prog 110 #[.int .i64 n] w fun e w' => e = .returned (.string (dcT n)) ∧ Below w.heap.size w w' := by
  refine (Any.strconv_Itoa Tryd.itoaM n (by omega) (by omega) w hT).mono ?_
  rintro _ _ ⟨rfl, k, os, rfl⟩
  exact ⟨rfl, lxGrow w k os⟩
theorem TabJ.below {w w' : World} (h : TabJ w) (hb : Below w.heap.size w w') : TabJ w' := Lib.tabBelow_of_tabIs h w' hb
theorem Keyword_b (s : ByteArray) (w : World) : Calls Tryd.prog 111 #[.string s] w fun x w' => x = .returned (.bool (kwB s)) ∧ Below w.heap.size w w' := (Keyword_any s w).mono fun x w' h => ⟨h.1, by rw [h.2]; exact Below.refl _ _⟩
def lfX (k : Int) (t : ByteArray) (v : Int) : Ex × Bool := match leafT ⟨k, t, v, 0⟩ with
  | some e => (e, true)
  | none => (zeroX, false)
theorem strEq (a b : ByteArray) : (a.toList == b.toList) = decide (a = b) := by
  rw [Bool.eq_iff_iff, beq_iff_eq, decide_eq_true_eq]
  exact ⟨bytes_inj, fun h => by rw [h]⟩
theorem ck_num (v : Int) : ckE (.mk 1 0 .empty v []) = 0 ↔ 0 ≤ v ∧ v ≤ 1099511627776 := by
  rw [ckE_ok, prE_zero, prP_zero]
  constructor
  · rintro ⟨_, _, h, _⟩
    rcases h with ⟨_, _, _, h1, h2, _⟩ | ⟨h, _⟩ | ⟨h, _⟩ | ⟨h, _⟩
    · exact ⟨h1, h2⟩
    all_goals exact absurd h (by decide)
  · rintro ⟨h1, h2⟩
    exact ⟨by simp [szE, szL], by simp [dpE, dpL], .inl ⟨rfl, rfl, rfl, h1, h2, rfl⟩, fun a h => by cases h⟩
theorem ck_nam (s : ByteArray) : ckE (.mk 2 0 s 0 []) = 0 ↔ nmB s = true := by
  rw [ckE_ok, prE_zero, prP_zero]
  constructor
  · rintro ⟨_, _, h, _⟩
    rcases h with ⟨h, _⟩ | ⟨_, _, h, _⟩ | ⟨h, _⟩ | ⟨h, _⟩
    · exact absurd h (by decide)
    · exact h
    all_goals exact absurd h (by decide)
  · intro h
    exact ⟨by simp [szE, szL], by simp [dpE, dpL], .inr (.inl ⟨rfl, rfl, h, rfl, rfl⟩), fun a h => by cases h⟩
theorem lf_num (t : ByteArray) (v : Int) : lfX 2 t v = chX (.mk 1 0 .empty v []) (t.toList == (dcT v).toList) := by
  unfold lfX leafT chX
  simp only [if_true, strEq, decide_eq_true_eq, ck_num]
  by_cases h : t = dcT v ∧ 0 ≤ v ∧ v ≤ 1099511627776
  · rw [if_pos h, if_pos h]
  · rw [if_neg h, if_neg h]
theorem lf_nam (t : ByteArray) (v : Int) : lfX 1 t v = chX (.mk 2 0 t 0 []) (!kwB t) := by
  unfold lfX leafT chX
  have h12 : ¬ ((1 : Int) = 2) := by decide
  simp only [if_neg h12, if_true, ck_nam, Bool.not_eq_true']
  by_cases h : nmB t = true ∧ kwB t = false
  · rw [if_pos h, if_pos ⟨h.2, h.1⟩]
  · rw [if_neg h, if_neg (fun q => h ⟨q.2, q.1⟩)]
theorem lf_no {k : Int} (t : ByteArray) (v : Int) (h1 : k ≠ 1) (h2 : k ≠ 2) : lfX k t v = (zeroX, false) := by
  unfold lfX leafT
  simp only [if_neg h1, if_neg h2]
set_option maxRecDepth 100000 in
set_option maxHeartbeats 8000000 in
theorem leafOf_any (k : Int) (t : ByteArray) (v av : Int) (w : World) (ht : t.size ≤ 9223372036854775807) (hv : -9223372036854775808 ≤ v ∧ v ≤ 9223372036854775807) (hT : TabJ w) :
    Calls Tryd.prog 103 #[.agg #[.int .i64 k, .string t, .int .i64 v, .int .i64 av]] w fun x w' => x = .returned (.tuple #[exV (lfX k t v).1 nilX, .bool (lfX k t v).2]) ∧ Below w.heap.size w w' := by
  obtain ⟨W, hW⟩ : ∃ W, (w.alloc (.cells #[.int .i64 k, .string t, .int .i64 v, .int .i64 av] TTk)).alloc (.cells #[.int .i64 0, .int .i64 0, .string ⟨#[]⟩, .int .i64 0, nilX] TX) = W := ⟨_, rfl⟩
  obtain ⟨t0, t1, b1⟩ := lxTwo w (.cells #[.int .i64 k, .string t, .int .i64 v, .int .i64 av] TTk) (.cells #[.int .i64 0, .int .i64 0, .string ⟨#[]⟩, .int .i64 0, nilX] TX)
  rw [hW] at t0 t1 b1
  have HB := Lib.hid b1
  have HW := Lib.hid hW
  have HT0 := Lib.hid t0
  have HT1 := Lib.hid t1
  have HTT := Lib.hid (hT.below b1)
  obtain ⟨⟨⟨rk, ro, rs, rv, re⟩, rb⟩, hR⟩ : ∃ R : Ex × Bool, lfX k t v = R := ⟨_, rfl⟩
  obtain ⟨RV, hrv⟩ : ∃ V, Value.tuple #[exV (.mk rk ro rs rv re) nilX, .bool rb] = V := ⟨_, rfl⟩
  have HR := Lib.hid hR
  have HRV := Lib.hid hrv
  rw [hR, hrv]
  have c0 : W.cell? ⟨w.heap.size, 0, none⟩ = some (.int .i64 k) := by rw [Lib.cell_of_heap t0]; rfl
  clear hR hrv hW b1 hT
  by_cases h2 : k = 2
  · subst h2
    have HE := Lib.hid (lf_num t v)
    have HIT := Lib.hid (fun V h => itoaT_any v hv.1 hv.2 V h)
    have HFT : Hid (fitE (.mk 1 0 .empty v [])) := Lib.hid ⟨by decide, trivial⟩
    clear t0 t1
    go_enter Tryd.func103, Tryd.ntmps103
    go_wp2_with fail
    rw [HW.out]
    go_wp2_with fail
    refine wp_region_held (S := fun V => V.heap[w.heap.size]? = some (.cells #[.int .i64 2, .string t, .int .i64 v, .int .i64 av] TTk (0, 0)) ∧ V.heap.size ≥ W.heap.size) (by kernel_rfl) ?_
    change wpAnyH _ _ _ _ _ _ _ _ (W).drew
    obtain ⟨W2, hW2⟩ : ∃ V, (W).drew = V := ⟨_, rfl⟩
    have bW2 : Below (W).heap.size (W) W2 := by rw [← hW2]; exact (Below.refl _ _).drew
    have HT02 := Lib.hid ((bW2.block _ (ltH HT0.out)).trans HT0.out)
    have HT12 := Lib.hid ((bW2.block _ (ltH HT1.out)).trans HT1.out)
    have HB2 := Lib.hid (HB.out.trans (bW2.mono HB.out.size))
    have HTT2 := Lib.hid (HTT.out.below bW2)
    have HSZ := Lib.hid bW2.size
    rw [hW2]
    clear hW2 bW2
    refine wpAnyH_read (i := 0) (v := .pointer (some ⟨w.heap.size, 2, none⟩)) rfl (by kernel_rfl) (by kernel_rfl) (by kernel_rfl) (fun _ _ _ h => h) (by rfl) (fun _ _ => rfl) ⟨HT02.out, HSZ.out⟩ ?_
    simp only [Act.put, List.setIfInBounds_toArray, List.set_cons_zero, List.set_cons_succ]
    refine wpAnyH_read (i := 1) (v := .int .i64 v) rfl (by kernel_rfl) (by kernel_rfl) (by kernel_rfl) (fun _ _ _ h => h) (by rfl) (by rintro V ⟨q, _⟩; have q2 : V.cell? ⟨w.heap.size, 2, none⟩ = some (.int .i64 v) := (Lib.cell_of_heap q 2).trans rfl; go_simp) ⟨HT02.out, HSZ.out⟩ ?_
    simp only [Act.put, List.setIfInBounds_toArray, List.set_cons_zero, List.set_cons_succ]
    refine wpAnyH_read (i := 2) (v := .agg #[.int .i64 1, .int .i64 0, .string ⟨#[]⟩, .int .i64 v, nilX]) rfl (by kernel_rfl) (by kernel_rfl) (by kernel_rfl) (fun _ _ _ h => h) (by rfl) (by rintro V -; go_simp) ⟨HT02.out, HSZ.out⟩ ?_
    simp only [Act.put, List.setIfInBounds_toArray, List.set_cons_zero, List.set_cons_succ]
    refine wpAnyH_read (i := 3) (v := .pointer (some ⟨w.heap.size, 1, none⟩)) rfl (by kernel_rfl) (by kernel_rfl) (by kernel_rfl) (fun _ _ _ h => h) (by rfl) (fun _ _ => rfl) ⟨HT02.out, HSZ.out⟩ ?_
    simp only [Act.put, List.setIfInBounds_toArray, List.set_cons_zero, List.set_cons_succ]
    refine wpAnyH_read (i := 4) (v := .string t) rfl (by kernel_rfl) (by kernel_rfl) (by kernel_rfl) (fun _ _ _ h => h) (by rfl) (by rintro V ⟨q, _⟩; have q1 : V.cell? ⟨w.heap.size, 1, none⟩ = some (.string t) := (Lib.cell_of_heap q 1).trans rfl; go_simp) ⟨HT02.out, HSZ.out⟩ ?_
    simp only [Act.put, List.setIfInBounds_toArray, List.set_cons_zero, List.set_cons_succ]
    refine wpAnyH_read (i := 5) (v := .pointer (some ⟨w.heap.size, 2, none⟩)) rfl (by kernel_rfl) (by kernel_rfl) (by kernel_rfl) (fun _ _ _ h => h) (by rfl) (fun _ _ => rfl) ⟨HT02.out, HSZ.out⟩ ?_
    simp only [Act.put, List.setIfInBounds_toArray, List.set_cons_zero, List.set_cons_succ]
    refine wpAnyH_read (i := 6) (v := .int .i64 v) rfl (by kernel_rfl) (by kernel_rfl) (by kernel_rfl) (fun _ _ _ h => h) (by rfl) (by rintro V ⟨q, _⟩; have q2 : V.cell? ⟨w.heap.size, 2, none⟩ = some (.int .i64 v) := (Lib.cell_of_heap q 2).trans rfl; go_simp) ⟨HT02.out, HSZ.out⟩ ?_
    simp only [Act.put, List.setIfInBounds_toArray, List.set_cons_zero, List.set_cons_succ]
    refine wpAnyH_next (i := 7) rfl (by kernel_rfl) ?_
    have HIN := Lib.hid (HIT.out W2 HTT2.out)
    go_wp2_with fail
    refine HIN.out.mono ?_
    rintro x w3 ⟨rfl, b3⟩
    have HT03 := Lib.hid ((b3.block _ (ltH HT02.out)).trans HT02.out)
    have HT13 := Lib.hid ((b3.block _ (ltH HT12.out)).trans HT12.out)
    have HB3 := Lib.hid (HB2.out.trans (b3.mono HB2.out.size))
    have HSZ3 := Lib.hid (Nat.le_trans HSZ.out b3.size)
    clear b3
    go_wp2_with fail
    refine ⟨⟨HT03.out, HSZ3.out⟩, ?_⟩
    refine wpAnyH_next (i := 8) rfl (by kernel_rfl) ?_
    go_wp2_with fail
    refine ⟨⟨HT03.out, HSZ3.out⟩, ?_⟩
    refine wpAnyH_next (i := 9) rfl (by kernel_rfl) ?_
    have HCK := Lib.hid (checked_any 1 0 .empty v (t.toList == (dcT v).toList) w3 HFT.out)
    rw [← HE.out, HR.out] at HCK
    simp only [exV, Ex.k, Ex.o, Ex.s, Ex.v] at HCK
    go_wp2_with fail
    refine HCK.out.mono ?_
    rintro x w4 ⟨rfl, b4⟩
    have HT04 := Lib.hid ((b4.block _ (ltH HT03.out)).trans HT03.out)
    have HT14 := Lib.hid ((b4.block _ (ltH HT13.out)).trans HT13.out)
    have HB4 := Lib.hid (HB3.out.trans (b4.mono HB3.out.size))
    have HSZ4 := Lib.hid (Nat.le_trans HSZ3.out b4.size)
    clear b4
    go_wp2_with fail
    refine ⟨⟨HT04.out, HSZ4.out⟩, ?_⟩
    refine wpAnyH_read (i := 10) (v := .agg #[.int .i64 rk, .int .i64 ro, .string rs, .int .i64 rv, nilX]) rfl (by kernel_rfl) (by kernel_rfl) (by kernel_rfl) (fun _ _ _ h => h) (by rfl) (fun _ _ => rfl) ⟨HT04.out, HSZ4.out⟩ ?_
    simp only [Act.put, List.setIfInBounds_toArray, List.set_cons_zero, List.set_cons_succ]
    refine wpAnyH_read (i := 11) (v := .bool rb) rfl (by kernel_rfl) (by kernel_rfl) (by kernel_rfl) (fun _ _ _ h => h) (by rfl) (fun _ _ => rfl) ⟨HT04.out, HSZ4.out⟩ ?_
    simp only [Act.put, List.setIfInBounds_toArray, List.set_cons_zero, List.set_cons_succ]
    have HT05 : Hid ((w4.setRow (w.heap.size + 1) #[.int .i64 rk, .int .i64 ro, .string rs, .int .i64 rv, nilX]).heap[w.heap.size]? = _) := Lib.hid ((Below.block (below_setRow (Below.refl (w.heap.size + 1) w4) (Nat.le_refl _) _) _ (by omega)).trans HT04.out)
    refine wpAnyH_next (i := 12) rfl (by kernel_rfl) ?_
    go_wp2_with (refine wpList_store_row rfl TX (.tmp 2) (.tmp 18) rfl (w.heap.size + 1) #[.int .i64 rk, .int .i64 ro, .string rs, .int .i64 rv, nilX] rfl rfl _ _ HT14.out (by kernel_rfl) rfl (by simp [Value.oneCell']) ?_)
    refine ⟨⟨HT05.out, by simp only [World.setRow, Array.size_modify]; exact HSZ4.out⟩, ?_⟩
    refine wpAnyH_next (i := 13) rfl (by kernel_rfl) ?_
    go_wp2_with fail
    refine ⟨⟨HT05.out, by simp only [World.setRow, Array.size_modify]; exact HSZ4.out⟩, ?_⟩
    refine wpAnyH_done (by kernel_rfl) ?_ _
    go_wp2
    try simp only [Exit.inBlock, Exit.then]
    exact bodyPost_ret (ret_x Tryd.results103 _ (w.heap.size + 1) (.mk rk ro rs rv re) nilX _ _ (setRow_heap _ _ _ _ _ _ HT14.out) rfl rfl) rfl ⟨by rw [← HRV.out]; rfl, below_setRow HB4.out (by omega) _⟩
  · by_cases h1 : k = 1
    · subst h1
      have HE := Lib.hid (lf_nam t v)
      have HIT := Lib.hid (fun V => Keyword_b t V)
      have HFT : Hid (fitE (.mk 2 0 t 0 [])) := Lib.hid ⟨ht, trivial⟩
      clear t0 t1 h2
      go_enter Tryd.func103, Tryd.ntmps103
      go_wp2_with fail
      rw [HW.out]
      go_wp2_with fail
      refine wp_region_held (S := fun V => V.heap[w.heap.size]? = some (.cells #[.int .i64 1, .string t, .int .i64 v, .int .i64 av] TTk (0, 0)) ∧ V.heap.size ≥ W.heap.size) (by kernel_rfl) ?_
      change wpAnyH _ _ _ _ _ _ _ _ (W).drew
      obtain ⟨W2, hW2⟩ : ∃ V, (W).drew = V := ⟨_, rfl⟩
      have bW2 : Below (W).heap.size (W) W2 := by rw [← hW2]; exact (Below.refl _ _).drew
      have HT02 := Lib.hid ((bW2.block _ (ltH HT0.out)).trans HT0.out)
      have HT12 := Lib.hid ((bW2.block _ (ltH HT1.out)).trans HT1.out)
      have HB2 := Lib.hid (HB.out.trans (bW2.mono HB.out.size))
      have HTT2 := Lib.hid (HTT.out.below bW2)
      have HSZ := Lib.hid bW2.size
      rw [hW2]
      clear hW2 bW2
      refine wpAnyH_read (i := 0) (v := .pointer (some ⟨w.heap.size, 1, none⟩)) rfl (by kernel_rfl) (by kernel_rfl) (by kernel_rfl) (fun _ _ _ h => h) (by rfl) (fun _ _ => rfl) ⟨HT02.out, HSZ.out⟩ ?_
      simp only [Act.put, List.setIfInBounds_toArray, List.set_cons_zero, List.set_cons_succ]
      refine wpAnyH_read (i := 1) (v := .string t) rfl (by kernel_rfl) (by kernel_rfl) (by kernel_rfl) (fun _ _ _ h => h) (by rfl) (by rintro V ⟨q, _⟩; have q1 : V.cell? ⟨w.heap.size, 1, none⟩ = some (.string t) := (Lib.cell_of_heap q 1).trans rfl; go_simp) ⟨HT02.out, HSZ.out⟩ ?_
      simp only [Act.put, List.setIfInBounds_toArray, List.set_cons_zero, List.set_cons_succ]
      refine wpAnyH_read (i := 2) (v := .agg #[.int .i64 2, .int .i64 0, .string t, .int .i64 0, nilX]) rfl (by kernel_rfl) (by kernel_rfl) (by kernel_rfl) (fun _ _ _ h => h) (by rfl) (by rintro V -; go_simp) ⟨HT02.out, HSZ.out⟩ ?_
      simp only [Act.put, List.setIfInBounds_toArray, List.set_cons_zero, List.set_cons_succ]
      refine wpAnyH_read (i := 3) (v := .pointer (some ⟨w.heap.size, 1, none⟩)) rfl (by kernel_rfl) (by kernel_rfl) (by kernel_rfl) (fun _ _ _ h => h) (by rfl) (fun _ _ => rfl) ⟨HT02.out, HSZ.out⟩ ?_
      simp only [Act.put, List.setIfInBounds_toArray, List.set_cons_zero, List.set_cons_succ]
      refine wpAnyH_read (i := 4) (v := .string t) rfl (by kernel_rfl) (by kernel_rfl) (by kernel_rfl) (fun _ _ _ h => h) (by rfl) (by rintro V ⟨q, _⟩; have q1 : V.cell? ⟨w.heap.size, 1, none⟩ = some (.string t) := (Lib.cell_of_heap q 1).trans rfl; go_simp) ⟨HT02.out, HSZ.out⟩ ?_
      simp only [Act.put, List.setIfInBounds_toArray, List.set_cons_zero, List.set_cons_succ]
      refine wpAnyH_next (i := 5) rfl (by kernel_rfl) ?_
      have HIN := Lib.hid (HIT.out W2)
      go_wp2_with fail
      refine HIN.out.mono ?_
      rintro x w3 ⟨rfl, b3⟩
      have HT03 := Lib.hid ((b3.block _ (ltH HT02.out)).trans HT02.out)
      have HT13 := Lib.hid ((b3.block _ (ltH HT12.out)).trans HT12.out)
      have HB3 := Lib.hid (HB2.out.trans (b3.mono HB2.out.size))
      have HSZ3 := Lib.hid (Nat.le_trans HSZ.out b3.size)
      clear b3
      go_wp2_with fail
      refine ⟨⟨HT03.out, HSZ3.out⟩, ?_⟩
      refine wpAnyH_next (i := 6) rfl (by kernel_rfl) ?_
      go_wp2_with fail
      refine ⟨⟨HT03.out, HSZ3.out⟩, ?_⟩
      refine wpAnyH_next (i := 7) rfl (by kernel_rfl) ?_
      have HCK := Lib.hid (checked_any 2 0 t 0 (!kwB t) w3 HFT.out)
      rw [← HE.out, HR.out] at HCK
      simp only [exV, Ex.k, Ex.o, Ex.s, Ex.v] at HCK
      go_wp2_with fail
      refine HCK.out.mono ?_
      rintro x w4 ⟨rfl, b4⟩
      have HT04 := Lib.hid ((b4.block _ (ltH HT03.out)).trans HT03.out)
      have HT14 := Lib.hid ((b4.block _ (ltH HT13.out)).trans HT13.out)
      have HB4 := Lib.hid (HB3.out.trans (b4.mono HB3.out.size))
      have HSZ4 := Lib.hid (Nat.le_trans HSZ3.out b4.size)
      clear b4
      go_wp2_with fail
      refine ⟨⟨HT04.out, HSZ4.out⟩, ?_⟩
      refine wpAnyH_read (i := 8) (v := .agg #[.int .i64 rk, .int .i64 ro, .string rs, .int .i64 rv, nilX]) rfl (by kernel_rfl) (by kernel_rfl) (by kernel_rfl) (fun _ _ _ h => h) (by rfl) (fun _ _ => rfl) ⟨HT04.out, HSZ4.out⟩ ?_
      simp only [Act.put, List.setIfInBounds_toArray, List.set_cons_zero, List.set_cons_succ]
      refine wpAnyH_read (i := 9) (v := .bool rb) rfl (by kernel_rfl) (by kernel_rfl) (by kernel_rfl) (fun _ _ _ h => h) (by rfl) (fun _ _ => rfl) ⟨HT04.out, HSZ4.out⟩ ?_
      simp only [Act.put, List.setIfInBounds_toArray, List.set_cons_zero, List.set_cons_succ]
      have HT05 : Hid ((w4.setRow (w.heap.size + 1) #[.int .i64 rk, .int .i64 ro, .string rs, .int .i64 rv, nilX]).heap[w.heap.size]? = _) := Lib.hid ((Below.block (below_setRow (Below.refl (w.heap.size + 1) w4) (Nat.le_refl _) _) _ (by omega)).trans HT04.out)
      refine wpAnyH_next (i := 10) rfl (by kernel_rfl) ?_
      go_wp2_with (refine wpList_store_row rfl TX (.tmp 2) (.tmp 30) rfl (w.heap.size + 1) #[.int .i64 rk, .int .i64 ro, .string rs, .int .i64 rv, nilX] rfl rfl _ _ HT14.out (by kernel_rfl) rfl (by simp [Value.oneCell']) ?_)
      refine ⟨⟨HT05.out, by simp only [World.setRow, Array.size_modify]; exact HSZ4.out⟩, ?_⟩
      refine wpAnyH_next (i := 11) rfl (by kernel_rfl) ?_
      go_wp2_with fail
      refine ⟨⟨HT05.out, by simp only [World.setRow, Array.size_modify]; exact HSZ4.out⟩, ?_⟩
      refine wpAnyH_done (by kernel_rfl) ?_ _
      go_wp2
      try simp only [Exit.inBlock, Exit.then]
      exact bodyPost_ret (ret_x Tryd.results103 _ (w.heap.size + 1) (.mk rk ro rs rv re) nilX _ _ (setRow_heap _ _ _ _ _ _ HT14.out) rfl rfl) rfl ⟨by rw [← HRV.out]; rfl, below_setRow HB4.out (by omega) _⟩
    · have hz := lf_no t v h1 h2
      rw [HR.out] at hz
      have HZ := Lib.hid hz
      have k1 : (k == 1) = false := by simp [h1]
      have k2 : (k == 2) = false := by simp [h2]
      clear h1 h2 hz t0 t1
      go_enter Tryd.func103, Tryd.ntmps103
      go_wp2_with fail
      rw [HW.out]
      go_wp2_with (refine wpList_store_row rfl TX (.tmp 2) (.tmp 32) rfl (w.heap.size + 1) #[.int .i64 0, .int .i64 0, .string ⟨#[]⟩, .int .i64 0, nilX] rfl rfl _ _ HT1.out (by kernel_rfl) rfl (by simp [Value.oneCell']) ?_)
      try simp only [Exit.inBlock, Exit.then]
      exact bodyPost_ret (ret_x Tryd.results103 _ (w.heap.size + 1) zeroX nilX _ _ HT1.out rfl rfl) rfl ⟨by rw [← HRV.out]; have hz := HZ.out; injection hz with z1 z2; rw [z1, z2]; rfl, HB.out⟩
end Go.Proofs.YtdgphhdkeikbaaaDoor
