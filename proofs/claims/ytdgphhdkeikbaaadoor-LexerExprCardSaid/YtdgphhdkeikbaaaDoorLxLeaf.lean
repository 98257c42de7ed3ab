/-
  The program's reader: leaf.
-/
import Derived.Test.YtdgphhdkeikbaaaDoorLxRdM
import Derived.Test.YtdgphhdkeikbaaaDoorLxFork
namespace Go.Proofs.YtdgphhdkeikbaaaDoor
set_option linter.unusedSimpArgs false
set_option linter.unusedVariables false
open Go.RowKit

def leafR (l : List Tk) : Rs := match leafT (hdT l) with
  | some e => .ok e 1
  | none => .bad 0
theorem lf_some {k : Int} {t : ByteArray} {v : Int} {a : Nat} {e : Ex} (h : leafT ⟨k, t, v, a⟩ = some e) : lfX k t v = (e, true) := by
  have : leafT ⟨k, t, v, 0⟩ = some e := h
  unfold lfX; rw [this]
theorem lf_none {k : Int} {t : ByteArray} {v : Int} {a : Nat} (h : leafT ⟨k, t, v, a⟩ = none) : lfX k t v = (zeroX, false) := by
  have : leafT ⟨k, t, v, 0⟩ = none := h
  unfold lfX; rw [this]
theorem lf_yes {k : Int} {t : ByteArray} {v : Int} {a : Nat} {e : Ex} (h : lfX k t v = (e, true)) : leafT ⟨k, t, v, a⟩ = some e := by
  cases hl : leafT ⟨k, t, v, a⟩ with
  | some x => rw [lf_some hl] at h; injection h with h; rw [h]
  | none => rw [lf_none hl] at h; injection h with _ h; cases h
theorem lf_neg {k : Int} {t : ByteArray} {v : Int} {a : Nat} {e : Ex} (h : lfX k t v = (e, false)) : leafT ⟨k, t, v, a⟩ = none := by
  cases hl : leafT ⟨k, t, v, a⟩ with
  | some x => rw [lf_some hl] at h; injection h with _ h; cases h
  | none => rfl
theorem leaf_es {t : Tk} {e : Ex} (h : leafT t = some e) : e.es = [] := by
  unfold leafT at h
  split at h
  · split at h
    · injection h with h; rw [← h]; rfl
    · cases h
  · split at h
    · split at h
      · injection h with h; rw [← h]; rfl
      · cases h
    · cases h
def TkAt (w : World) (kb o : Nat) (k : Int) (t : ByteArray) (v av : Int) : Prop := w.cell? ⟨kb, o, none⟩ = some (.int .i64 k) ∧ w.cell? ⟨kb, o + 1, none⟩ = some (.string t) ∧ w.cell? ⟨kb, o + 2, none⟩ = some (.int .i64 v) ∧ w.cell? ⟨kb, o + 3, none⟩ = some (.int .i64 av)
theorem TkAt.below {w w' : World} {kb o : Nat} {k : Int} {t : ByteArray} {v av : Int} (h : TkAt w kb o k t v av) (hb : Below w.heap.size w w') : TkAt w' kb o k t v av := by
  obtain ⟨h0, h1, h2, h3⟩ := h
  have hk := hb.block kb (World.block_lt_of_cell? _ _ h0)
  exact ⟨(World.cell?_of_block hk).trans h0, (World.cell?_of_block hk).trans h1, (World.cell?_of_block hk).trans h2, (World.cell?_of_block hk).trans h3⟩
theorem RdA.fz {w : World} {b i m : Nat} {sl : Value} (h : RdA w b sl i m) (o : Nat) : w.frozen? ⟨b, o, none⟩ = false := by
  unfold RdA at h
  simp [World.frozen?, h]
theorem RdI.row {w v : World} {b m : Nat} {a : Option Addr} {c : Nat} {ts : List Tk} {i g : Nat} (h : RdI w b m a c ts i) (hb : Below w.heap.size w v) (hg : w.heap.size ≤ g) (cs : Array Value) : RdI (v.setRow g cs) b m a c ts i :=
  h.below (below_setRow hb hg cs)
theorem RdI.last {w v : World} {b m : Nat} {a : Option Addr} {c : Nat} {ts : List Tk} {i j g : Nat} (h : RdI w b m a c ts i) (hb : But b w v) (hr : RdI v b m a c ts j) (hg : w.heap.size ≤ g) (cs : Array Value) : RdI (v.setRow g cs) b m a c ts j :=
  h.but (hb.row hg cs) (by
    have : (v.setRow g cs).heap[b]? = v.heap[b]? := by
      simp only [World.setRow, Array.getElem?_modify]
      rw [if_neg (by have := h.lt; omega)]
    unfold RdA
    rw [this]
    exact hr.rd) hr.il
theorem TkAt.row {w v : World} {kb o : Nat} {k : Int} {t : ByteArray} {x av : Int} {g : Nat} (h : TkAt w kb o k t x av) (hb : Below w.heap.size w v) (hg : w.heap.size ≤ g) (cs : Array Value) : TkAt (v.setRow g cs) kb o k t x av :=
  h.below (below_setRow hb hg cs)
theorem cells5 {w : World} {g : Nat} {a b c d e : Value} {t : TypeId} (h : w.heap[g]? = some (.cells #[a, b, c, d, e] t (0, 0))) : w.cell? ⟨g, 0, none⟩ = some a ∧ w.cell? ⟨g, 1, none⟩ = some b ∧ w.cell? ⟨g, 2, none⟩ = some c ∧ w.cell? ⟨g, 3, none⟩ = some d ∧ w.cell? ⟨g, 4, none⟩ = some e := by
  refine ⟨?_, ?_, ?_, ?_, ?_⟩ <;> (rw [Lib.cell_of_heap h]; rfl)
set_option maxRecDepth 100000 in
set_option maxHeartbeats 8000000 in
theorem leaf_any (w : World) (b m : Nat) (a : Option Addr) (c : Nat) (ts : List Tk) (i : Nat) (h : RdI w b m a c ts i) :
    Calls Tryd.prog 93 #[.pointer (some ⟨b, 0, none⟩)] w (RdPost w b m a c ts i (leafR (ts.drop i))) := by
  obtain ⟨W, hW⟩ : ∃ W, w.alloc (.cells #[.int .i64 0, .int .i64 0, .string ⟨#[]⟩, .int .i64 0, nilX] TX) = W := ⟨_, rfl⟩
  have hb : Below w.heap.size w W := by rw [← hW]; exact (Below.refl _ w).alloc (Nat.le_refl _) _
  have hg : W.heap[w.heap.size]? = some (.cells #[.int .i64 0, .int .i64 0, .string ⟨#[]⟩, .int .i64 0, nilX] TX (0, 0)) := by rw [← hW]; exact heapNew w _
  have hI := h.below hb
  have H0 := Lib.hid h
  have HB := Lib.hid hb
  have HG := Lib.hid hg
  have HI := Lib.hid hI
  have HW := Lib.hid hW
  have HBN : Hid (∀ n, Below W.heap.size W (W.drewN n)) := Lib.hid (fun n => below_drewN (Below.refl _ _) n)
  have c0 := hI.rd.c0
  have c1 := hI.rd.c1
  obtain ⟨R, hR⟩ : ∃ R, leafR (ts.drop i) = R := ⟨_, rfl⟩
  have HR := Lib.hid hR
  rw [hR]
  have hbl := h.lt
  clear hR hb hg hW
  by_cases hi : i < ts.length
  · have k1 : ((i : Int) == (ts.length : Int)) = false := by
      rw [beq_eq_false_iff_ne]; omega
    have k0 : (i : Int) < (ts.length : Int) := by omega
    obtain ⟨kb, off, hka, hkb, hkl, t0, t1, t2, av, t3⟩ := hI.tk.at_ hi
    subst hka
    have hdT := hdT_drop hi
    obtain ⟨T, hT⟩ : ∃ T, gk ts i = T := ⟨_, rfl⟩
    have hok := hI.ok i hi
    rw [hT] at t0 t1 t2 hdT hok
    have HHD := Lib.hid hdT
    have HOK := Lib.hid hok
    have HKB := Lib.hid hkb
    have HLT := Lib.hid (show i < ts.length from hi)
    obtain ⟨tk, tt, tv, ta⟩ := T
    have HTA : Hid (TkAt W kb (off + i * 4) tk tt tv av) := Lib.hid ⟨t0, t1, t2, t3⟩
    obtain ⟨⟨⟨rk, ro, rs, rv, re⟩, rb⟩, hQ⟩ : ∃ R : Ex × Bool, lfX tk tt tv = R := ⟨_, rfl⟩
    have HQ := Lib.hid hQ
    clear hdT hok hkb hT h hI hQ t0 t1 t2 t3
    go_enter Tryd.func93, Tryd.ntmps93
    go_wp2_with fail
    rw [HW.out]
    go_quiet (fail)
    rename Nat => nq
    obtain ⟨WD, hWD⟩ : ∃ V, W.drewN nq = V := ⟨_, rfl⟩
    have hbd : Below W.heap.size W WD := by rw [← hWD]; exact HBN.out nq
    have HID := Lib.hid (HI.out.below hbd)
    have HGD := Lib.hid ((hbd.block _ (ltH HG.out)).trans HG.out)
    have HBD := Lib.hid (HB.out.trans (hbd.mono HB.out.size))
    have HTD := Lib.hid (HTA.out.below hbd)
    rw [hWD]
    clear hWD hbd
    go_wp2
    refine wp_region_held (S := fun V => V.heap.size ≥ w.heap.size ∧ RdI V b m (some ⟨kb, off, none⟩) c ts i ∧ TkAt V kb (off + i * 4) tk tt tv av) (by kernel_rfl) ?_
    change wpAnyH _ _ _ _ _ _ _ _ (WD).drew
    obtain ⟨W2, hW2⟩ : ∃ V, (WD).drew = V := ⟨_, rfl⟩
    have bW2 : Below (WD).heap.size (WD) W2 := by rw [← hW2]; exact (Below.refl _ _).drew
    have HI2 := Lib.hid (HID.out.below bW2)
    have HG2 := Lib.hid ((bW2.block _ (ltH HGD.out)).trans HGD.out)
    have HB2 := Lib.hid (HBD.out.trans (bW2.mono HBD.out.size))
    have HT2 := Lib.hid (HTD.out.below bW2)
    have HX2 := Lib.hid (Below.refl W2.heap.size W2)
    rw [hW2]
    clear hW2 bW2
    refine wpAnyH_read (i := 0) (v := .pointer (some ⟨b, 0, none⟩)) rfl (by kernel_rfl) (by kernel_rfl) (by kernel_rfl) (fun _ _ _ h => h) (by rfl) (fun _ _ => rfl) ⟨HB2.out.size, HI2.out, HT2.out⟩ ?_
    simp only [Act.put, List.setIfInBounds_toArray, List.set_cons_zero, List.set_cons_succ]
    refine wpAnyH_read (i := 1) (v := .pointer (some ⟨b, 0, none⟩)) rfl (by kernel_rfl) (by kernel_rfl) (by kernel_rfl) (fun _ _ _ h => h) (by rfl) (fun _ _ => rfl) ⟨HB2.out.size, HI2.out, HT2.out⟩ ?_
    simp only [Act.put, List.setIfInBounds_toArray, List.set_cons_zero, List.set_cons_succ]
    refine wpAnyH_read (i := 2) (v := .pointer (some ⟨b, 0, none⟩)) rfl (by kernel_rfl) (by kernel_rfl) (by kernel_rfl) (fun _ _ _ h => h) (by rfl) (fun _ _ => rfl) ⟨HB2.out.size, HI2.out, HT2.out⟩ ?_
    simp only [Act.put, List.setIfInBounds_toArray, List.set_cons_zero, List.set_cons_succ]
    refine wpAnyH_read (i := 3) (v := .slice (some ⟨kb, off, none⟩) ts.length c) rfl (by kernel_rfl) (by kernel_rfl) (by kernel_rfl) (fun _ _ _ h => h) (by rfl) (by rintro V ⟨_, q, _⟩; have q0 := q.rd.c0; go_simp) ⟨HB2.out.size, HI2.out, HT2.out⟩ ?_
    simp only [Act.put, List.setIfInBounds_toArray, List.set_cons_zero, List.set_cons_succ]
    refine wpAnyH_read (i := 4) (v := .pointer (some ⟨b, 0, none⟩)) rfl (by kernel_rfl) (by kernel_rfl) (by kernel_rfl) (fun _ _ _ h => h) (by rfl) (fun _ _ => rfl) ⟨HB2.out.size, HI2.out, HT2.out⟩ ?_
    simp only [Act.put, List.setIfInBounds_toArray, List.set_cons_zero, List.set_cons_succ]
    refine wpAnyH_read (i := 5) (v := .pointer (some ⟨b, 0, none⟩)) rfl (by kernel_rfl) (by kernel_rfl) (by kernel_rfl) (fun _ _ _ h => h) (by rfl) (fun _ _ => rfl) ⟨HB2.out.size, HI2.out, HT2.out⟩ ?_
    simp only [Act.put, List.setIfInBounds_toArray, List.set_cons_zero, List.set_cons_succ]
    refine wpAnyH_read (i := 6) (v := .pointer (some ⟨b, 1, none⟩)) rfl (by kernel_rfl) (by kernel_rfl) (by kernel_rfl) (fun _ _ _ h => h) (by rfl) (fun _ _ => rfl) ⟨HB2.out.size, HI2.out, HT2.out⟩ ?_
    simp only [Act.put, List.setIfInBounds_toArray, List.set_cons_zero, List.set_cons_succ]
    refine wpAnyH_read (i := 7) (v := .int .i64 (i : Int)) rfl (by kernel_rfl) (by kernel_rfl) (by kernel_rfl) (fun _ _ _ h => h) (by rfl) (by rintro V ⟨_, q, _⟩; have q0 := q.rd.c1; go_simp) ⟨HB2.out.size, HI2.out, HT2.out⟩ ?_
    simp only [Act.put, List.setIfInBounds_toArray, List.set_cons_zero, List.set_cons_succ]
    refine wpAnyH_read (i := 8) (v := .pointer (some ⟨kb, off + i * 4, none⟩)) rfl (by kernel_rfl) (by kernel_rfl) (by kernel_rfl) (fun _ _ _ h => h) (by rfl) (by rintro V -; go_simp) ⟨HB2.out.size, HI2.out, HT2.out⟩ ?_
    simp only [Act.put, List.setIfInBounds_toArray, List.set_cons_zero, List.set_cons_succ]
    refine wpAnyH_read (i := 9) (v := .agg #[.int .i64 tk, .string tt, .int .i64 tv, .int .i64 av]) rfl (by kernel_rfl) (by kernel_rfl) (by kernel_rfl) (fun _ _ _ h => h) (by rfl) (by rintro V ⟨_, _, q⟩; obtain ⟨q0, q1, q2, q3⟩ := q; go_simp) ⟨HB2.out.size, HI2.out, HT2.out⟩ ?_
    simp only [Act.put, List.setIfInBounds_toArray, List.set_cons_zero, List.set_cons_succ]
    refine wpAnyH_fork (i := 10) (j := 14) rfl rfl (by kernel_rfl) ?_ ?_
    · skip
      have HLO := Lib.hid (leafOf_any tk tt tv av W2 HOK.out.1 HOK.out.2 HI2.out.tb)
      rw [HQ.out] at HLO
      simp only [exV, Ex.k, Ex.o, Ex.s, Ex.v] at HLO
      go_wp2_with fail
      refine HLO.out.mono ?_
      rintro x w3 ⟨rfl, b3⟩
      have HI3 := Lib.hid (HI2.out.below b3)
      have HG3 := Lib.hid ((b3.block _ (ltH HG2.out)).trans HG2.out)
      have HB3 := Lib.hid (HB2.out.trans (b3.mono HB2.out.size))
      have HT3 := Lib.hid (HT2.out.below b3)
      have HX3 := Lib.hid (HX2.out.trans (b3.mono HX2.out.size))
      clear b3
      go_wp2_with fail
      refine ⟨⟨HB3.out.size, HI3.out, HT3.out⟩, ?_⟩
      refine wpAnyH_read (i := 11) (v := .tuple #[.agg #[.int .i64 rk, .int .i64 ro, .string rs, .int .i64 rv, nilX], .bool rb]) rfl (by kernel_rfl) (by kernel_rfl) (by kernel_rfl) (fun _ _ _ h => h) (by rfl) (fun _ _ => rfl) ⟨HB3.out.size, HI3.out, HT3.out⟩ ?_
      simp only [Act.put, List.setIfInBounds_toArray, List.set_cons_zero, List.set_cons_succ]
      refine wpAnyH_read (i := 12) (v := .agg #[.int .i64 rk, .int .i64 ro, .string rs, .int .i64 rv, nilX]) rfl (by kernel_rfl) (by kernel_rfl) (by kernel_rfl) (fun _ _ _ h => h) (by rfl) (fun _ _ => rfl) ⟨HB3.out.size, HI3.out, HT3.out⟩ ?_
      simp only [Act.put, List.setIfInBounds_toArray, List.set_cons_zero, List.set_cons_succ]
      refine wpAnyH_read (i := 13) (v := .bool rb) rfl (by kernel_rfl) (by kernel_rfl) (by kernel_rfl) (fun _ _ _ h => h) (by rfl) (fun _ _ => rfl) ⟨HB3.out.size, HI3.out, HT3.out⟩ ?_
      simp only [Act.put, List.setIfInBounds_toArray, List.set_cons_zero, List.set_cons_succ]
      refine wpAnyH_next (i := 14) rfl (by kernel_rfl) ?_
      obtain ⟨W4, hW4⟩ : ∃ V, w3.alloc (.cells #[.int .i64 0, .int .i64 0, .string ⟨#[]⟩, .int .i64 0, nilX] TX) = V := ⟨_, rfl⟩
      have b4 : Below w3.heap.size w3 W4 := by rw [← hW4]; exact (Below.refl _ _).alloc (Nat.le_refl _) _
      have HE4 : Hid (W4.heap[w3.heap.size]? = some (.cells #[.int .i64 0, .int .i64 0, .string ⟨#[]⟩, .int .i64 0, nilX] TX (0, 0))) := Lib.hid (by rw [← hW4]; exact heapNew _ _)
      have HI4 := Lib.hid (HI3.out.below b4)
      have HG4 := Lib.hid ((b4.block _ (ltH HG3.out)).trans HG3.out)
      have HB4 := Lib.hid (HB3.out.trans (b4.mono HB3.out.size))
      have HT4 := Lib.hid (HT3.out.below b4)
      have HGE := Lib.hid (show w.heap.size < w3.heap.size from ltH HG3.out)
      have HGX := Lib.hid (show W2.heap.size ≤ w3.heap.size from HX3.out.size)
      have HX4 := Lib.hid (HX3.out.trans (b4.mono HX3.out.size))
      go_wp2_with fail
      try rw [hW4]
      clear b4 hW4
      refine ⟨⟨HB4.out.size, HI4.out, HT4.out⟩, ?_⟩
      obtain ⟨W9, hW9⟩ : ∃ V, W4.setRow w3.heap.size #[.int .i64 rk, .int .i64 ro, .string rs, .int .i64 rv, nilX] = V := ⟨_, rfl⟩
      have HI9 : Hid (RdI W9 b m (some ⟨kb, off, none⟩) c ts i) := Lib.hid (by rw [← hW9]; exact HI2.out.row HX4.out HGX.out _)
      have HT9 : Hid (TkAt W9 kb (off + i * 4) tk tt tv av) := Lib.hid (by rw [← hW9]; exact HT2.out.row HX4.out HGX.out _)
      have HE9 : Hid (W9.heap[w3.heap.size]? = some (.cells #[.int .i64 rk, .int .i64 ro, .string rs, .int .i64 rv, nilX] TX (0, 0))) := Lib.hid (by rw [← hW9]; exact setRow_heap _ _ _ _ _ _ HE4.out)
      have HG9 : Hid (W9.heap[w.heap.size]? = some (.cells #[.int .i64 0, .int .i64 0, .string ⟨#[]⟩, .int .i64 0, nilX] TX (0, 0))) := Lib.hid (by rw [← hW9]; exact (Below.block (below_setRow (Below.refl (w.heap.size + 1) W4) HGE.out _) _ (by omega)).trans HG4.out)
      have HB9 : Hid (Below w.heap.size w W9) := Lib.hid (by rw [← hW9]; exact below_setRow HB4.out (Nat.le_of_lt HGE.out) _)
      have HW9 := Lib.hid hW9
      refine wpAnyH_next (i := 15) rfl (by kernel_rfl) ?_
      go_wp2_with (refine wpList_store_row rfl TX (.tmp 3) (.tmp 29) rfl w3.heap.size #[.int .i64 rk, .int .i64 ro, .string rs, .int .i64 rv, nilX] rfl rfl _ _ HE4.out (by kernel_rfl) rfl (by simp [Value.oneCell']) ?_)
      try rw [HW9.out]
      clear hW9
      refine ⟨⟨HB9.out.size, HI9.out, HT9.out⟩, ?_⟩
      refine wpAnyH_next (i := 16) rfl (by kernel_rfl) ?_
      go_wp2_with fail
      refine ⟨⟨HB9.out.size, HI9.out, HT9.out⟩, ?_⟩
      refine wpAnyH_done (by kernel_rfl) ?_ _
      cases rb with
      | false =>
        have HE : Hid (R = .bad 0) := Lib.hid (by rw [← HR.out]; unfold leafR; rw [HHD.out, lf_neg HQ.out])
        have HGU := Lib.hid (giveUp_any b i m (.slice (some ⟨kb, off, none⟩) ts.length c) W9 HI9.out.rd)
        go_wp2_with fail
        refine HGU.out.mono ?_
        rintro x w' ⟨rfl, rfl⟩
        go_wp2
        exact ⟨rfl, But.of HB9.out, by rw [HE.out]; rfl⟩
      | true =>
        have hlf := lf_yes (a := ta) HQ.out
        have hre : re = [] := leaf_es hlf
        subst hre
        have HE : Hid (R = .ok (.mk rk ro rs rv []) 1) := Lib.hid (by rw [← HR.out]; unfold leafR; rw [HHD.out, hlf])
        clear hlf
        obtain ⟨c90, c91, c92⟩ : W9.cell? ⟨b, 0, none⟩ = _ ∧ W9.cell? ⟨b, 1, none⟩ = _ ∧ W9.cell? ⟨b, 2, none⟩ = _ := ⟨HI9.out.rd.c0, HI9.out.rd.c1, HI9.out.rd.c2⟩
        obtain ⟨X, hX⟩ : ∃ V, W9.setCell ⟨b, 1, none⟩ (.int .i64 ((i : Int) + 1)) = V := ⟨_, rfl⟩
        have hi40 : (i : Int) ≤ 4001 := by have := HI9.out.ln; have := HI9.out.il; omega
        have hfz := HI9.out.rd.fz 1
        obtain ⟨hi10, hb10⟩ := HI9.out.step HLT.out (.int .i64 ((i : Int) + 1)) (by simp)
        rw [hX] at hi10 hb10
        have hEX := hb10.heap (k := w3.heap.size) (by have := HI2.out.lt; have := HGX.out; omega) HE9.out
        have hGX := hb10.heap (k := w.heap.size) (by omega) HG9.out
        obtain ⟨d0, d1, d2, d3, d4⟩ := cells5 hEX
        have HGX2 := Lib.hid hGX
        have HI10 := Lib.hid hi10
        have HB10 := Lib.hid ((But.of HB9.out).trans hb10)
        clear hi10 hb10 hEX hGX
        go_wp2_with (first | (refine wpList_store_row rfl TX (.tmp 2) (.tmp 42) rfl w.heap.size #[.int .i64 rk, .int .i64 ro, .string rs, .int .i64 rv, nilX] rfl rfl _ _ HGX2.out (by kernel_rfl) rfl (by simp [Value.oneCell']) ?_))
        try simp only [Exit.inBlock, Exit.then]
        have hgf := setRow_heap X w.heap.size _ #[.int .i64 rk, .int .i64 ro, .string rs, .int .i64 rv, nilX] _ _ HGX2.out
        have hlast := H0.out.last HB10.out HI10.out (Nat.le_refl _) #[.int .i64 rk, .int .i64 ro, .string rs, .int .i64 rv, nilX]
        refine bodyPost_ret (v := exV (.mk rk ro rs rv []) nilX) ?_ rfl ?_
        · exact ret_x1 Tryd.results93 _ w.heap.size (.mk rk ro rs rv []) nilX _ hgf rfl
        · rw [HE.out]
          exact ⟨HB10.out.row (Nat.le_refl _) _, none, 0, 0, rfl, KA.nil _ _ none 0 (by decide), hlast⟩
    · skip
      obtain ⟨W3, hW3⟩ : ∃ V, W2.alloc (.cells #[.int .i64 0, .int .i64 0, .string ⟨#[]⟩, .int .i64 0, nilX] TX) = V := ⟨_, rfl⟩
      have b3 : Below W2.heap.size W2 W3 := by rw [← hW3]; exact (Below.refl _ _).alloc (Nat.le_refl _) _
      have HE3 : Hid (W3.heap[W2.heap.size]? = some (.cells #[.int .i64 0, .int .i64 0, .string ⟨#[]⟩, .int .i64 0, nilX] TX (0, 0))) := Lib.hid (by rw [← hW3]; exact heapNew _ _)
      have HI3 := Lib.hid (HI2.out.below b3)
      have HG3 := Lib.hid ((b3.block _ (ltH HG2.out)).trans HG2.out)
      have HB3 := Lib.hid (HB2.out.trans (b3.mono HB2.out.size))
      have HT3 := Lib.hid (HT2.out.below b3)
      have HGE := Lib.hid (show w.heap.size < W2.heap.size from ltH HG2.out)
      have HGX := Lib.hid (show W2.heap.size ≤ W2.heap.size from HX2.out.size)
      have HX3 := Lib.hid (HX2.out.trans (b3.mono HX2.out.size))
      go_wp2_with fail
      try rw [hW3]
      clear b3 hW3
      refine ⟨⟨HB3.out.size, HI3.out, HT3.out⟩, ?_⟩
      refine wpAnyH_next (i := 10) rfl (by kernel_rfl) ?_
      have HLO := Lib.hid (leafOf_any tk tt tv av W3 HOK.out.1 HOK.out.2 HI3.out.tb)
      rw [HQ.out] at HLO
      simp only [exV, Ex.k, Ex.o, Ex.s, Ex.v] at HLO
      go_wp2_with fail
      refine HLO.out.mono ?_
      rintro x w4 ⟨rfl, b4⟩
      have HI4 := Lib.hid (HI3.out.below b4)
      have HG4 := Lib.hid ((b4.block _ (ltH HG3.out)).trans HG3.out)
      have HB4 := Lib.hid (HB3.out.trans (b4.mono HB3.out.size))
      have HT4 := Lib.hid (HT3.out.below b4)
      have HE4 := Lib.hid ((b4.block _ (ltH HE3.out)).trans HE3.out)
      have HX4 := Lib.hid (HX3.out.trans (b4.mono HX3.out.size))
      clear b4
      go_wp2_with fail
      refine ⟨⟨HB4.out.size, HI4.out, HT4.out⟩, ?_⟩
      refine wpAnyH_read (i := 11) (v := .tuple #[.agg #[.int .i64 rk, .int .i64 ro, .string rs, .int .i64 rv, nilX], .bool rb]) rfl (by kernel_rfl) (by kernel_rfl) (by kernel_rfl) (fun _ _ _ h => h) (by rfl) (fun _ _ => rfl) ⟨HB4.out.size, HI4.out, HT4.out⟩ ?_
      simp only [Act.put, List.setIfInBounds_toArray, List.set_cons_zero, List.set_cons_succ]
      refine wpAnyH_read (i := 12) (v := .agg #[.int .i64 rk, .int .i64 ro, .string rs, .int .i64 rv, nilX]) rfl (by kernel_rfl) (by kernel_rfl) (by kernel_rfl) (fun _ _ _ h => h) (by rfl) (fun _ _ => rfl) ⟨HB4.out.size, HI4.out, HT4.out⟩ ?_
      simp only [Act.put, List.setIfInBounds_toArray, List.set_cons_zero, List.set_cons_succ]
      refine wpAnyH_read (i := 13) (v := .bool rb) rfl (by kernel_rfl) (by kernel_rfl) (by kernel_rfl) (fun _ _ _ h => h) (by rfl) (fun _ _ => rfl) ⟨HB4.out.size, HI4.out, HT4.out⟩ ?_
      simp only [Act.put, List.setIfInBounds_toArray, List.set_cons_zero, List.set_cons_succ]
      obtain ⟨W9, hW9⟩ : ∃ V, w4.setRow W2.heap.size #[.int .i64 rk, .int .i64 ro, .string rs, .int .i64 rv, nilX] = V := ⟨_, rfl⟩
      have HI9 : Hid (RdI W9 b m (some ⟨kb, off, none⟩) c ts i) := Lib.hid (by rw [← hW9]; exact HI2.out.row HX4.out HGX.out _)
      have HT9 : Hid (TkAt W9 kb (off + i * 4) tk tt tv av) := Lib.hid (by rw [← hW9]; exact HT2.out.row HX4.out HGX.out _)
      have HE9 : Hid (W9.heap[W2.heap.size]? = some (.cells #[.int .i64 rk, .int .i64 ro, .string rs, .int .i64 rv, nilX] TX (0, 0))) := Lib.hid (by rw [← hW9]; exact setRow_heap _ _ _ _ _ _ HE4.out)
      have HG9 : Hid (W9.heap[w.heap.size]? = some (.cells #[.int .i64 0, .int .i64 0, .string ⟨#[]⟩, .int .i64 0, nilX] TX (0, 0))) := Lib.hid (by rw [← hW9]; exact (Below.block (below_setRow (Below.refl (w.heap.size + 1) w4) HGE.out _) _ (by omega)).trans HG4.out)
      have HB9 : Hid (Below w.heap.size w W9) := Lib.hid (by rw [← hW9]; exact below_setRow HB4.out (Nat.le_of_lt HGE.out) _)
      have HW9 := Lib.hid hW9
      refine wpAnyH_next (i := 15) rfl (by kernel_rfl) ?_
      go_wp2_with (refine wpList_store_row rfl TX (.tmp 3) (.tmp 29) rfl W2.heap.size #[.int .i64 rk, .int .i64 ro, .string rs, .int .i64 rv, nilX] rfl rfl _ _ HE4.out (by kernel_rfl) rfl (by simp [Value.oneCell']) ?_)
      try rw [HW9.out]
      clear hW9
      refine ⟨⟨HB9.out.size, HI9.out, HT9.out⟩, ?_⟩
      refine wpAnyH_next (i := 16) rfl (by kernel_rfl) ?_
      go_wp2_with fail
      refine ⟨⟨HB9.out.size, HI9.out, HT9.out⟩, ?_⟩
      refine wpAnyH_done (by kernel_rfl) ?_ _
      cases rb with
      | false =>
        have HE : Hid (R = .bad 0) := Lib.hid (by rw [← HR.out]; unfold leafR; rw [HHD.out, lf_neg HQ.out])
        have HGU := Lib.hid (giveUp_any b i m (.slice (some ⟨kb, off, none⟩) ts.length c) W9 HI9.out.rd)
        go_wp2_with fail
        refine HGU.out.mono ?_
        rintro x w' ⟨rfl, rfl⟩
        go_wp2
        exact ⟨rfl, But.of HB9.out, by rw [HE.out]; rfl⟩
      | true =>
        have hlf := lf_yes (a := ta) HQ.out
        have hre : re = [] := leaf_es hlf
        subst hre
        have HE : Hid (R = .ok (.mk rk ro rs rv []) 1) := Lib.hid (by rw [← HR.out]; unfold leafR; rw [HHD.out, hlf])
        clear hlf
        obtain ⟨c90, c91, c92⟩ : W9.cell? ⟨b, 0, none⟩ = _ ∧ W9.cell? ⟨b, 1, none⟩ = _ ∧ W9.cell? ⟨b, 2, none⟩ = _ := ⟨HI9.out.rd.c0, HI9.out.rd.c1, HI9.out.rd.c2⟩
        obtain ⟨X, hX⟩ : ∃ V, W9.setCell ⟨b, 1, none⟩ (.int .i64 ((i : Int) + 1)) = V := ⟨_, rfl⟩
        have hi40 : (i : Int) ≤ 4001 := by have := HI9.out.ln; have := HI9.out.il; omega
        have hfz := HI9.out.rd.fz 1
        obtain ⟨hi10, hb10⟩ := HI9.out.step HLT.out (.int .i64 ((i : Int) + 1)) (by simp)
        rw [hX] at hi10 hb10
        have hEX := hb10.heap (k := W2.heap.size) (by have := HI2.out.lt; have := HGX.out; omega) HE9.out
        have hGX := hb10.heap (k := w.heap.size) (by omega) HG9.out
        obtain ⟨d0, d1, d2, d3, d4⟩ := cells5 hEX
        have HGX2 := Lib.hid hGX
        have HI10 := Lib.hid hi10
        have HB10 := Lib.hid ((But.of HB9.out).trans hb10)
        clear hi10 hb10 hEX hGX
        go_wp2_with (first | (refine wpList_store_row rfl TX (.tmp 2) (.tmp 42) rfl w.heap.size #[.int .i64 rk, .int .i64 ro, .string rs, .int .i64 rv, nilX] rfl rfl _ _ HGX2.out (by kernel_rfl) rfl (by simp [Value.oneCell']) ?_))
        try simp only [Exit.inBlock, Exit.then]
        have hgf := setRow_heap X w.heap.size _ #[.int .i64 rk, .int .i64 ro, .string rs, .int .i64 rv, nilX] _ _ HGX2.out
        have hlast := H0.out.last HB10.out HI10.out (Nat.le_refl _) #[.int .i64 rk, .int .i64 ro, .string rs, .int .i64 rv, nilX]
        refine bodyPost_ret (v := exV (.mk rk ro rs rv []) nilX) ?_ rfl ?_
        · exact ret_x1 Tryd.results93 _ w.heap.size (.mk rk ro rs rv []) nilX _ hgf rfl
        · rw [HE.out]
          exact ⟨HB10.out.row (Nat.le_refl _) _, none, 0, 0, rfl, KA.nil _ _ none 0 (by decide), hlast⟩
  · have hie : i = ts.length := by have := h.il; omega
    have k1 : ((i : Int) == (ts.length : Int)) = true := by
      rw [beq_iff_eq]; omega
    have HE : Hid (R = .bad 0) := Lib.hid (by rw [← HR.out]; unfold leafR; rw [hdT_end (by omega), leafT_z])
    clear h hI
    have HGU := Lib.hid (fun V h => giveUp_any b i m (.slice a ts.length c) V h)
    subst hie
    go_enter Tryd.func93, Tryd.ntmps93
    go_wp2_with fail
    rw [HW.out]
    go_quiet (fail)
    go_wp2_with fail
    refine (HGU.out _ (HI.out.rd.below (HBN.out _))).mono ?_
    rintro x w' ⟨rfl, rfl⟩
    go_wp2
    exact ⟨rfl, (But.of HB.out).trans (But.of (HBN.out _)), by rw [HE.out]; rfl⟩
end Go.Proofs.YtdgphhdkeikbaaaDoor
