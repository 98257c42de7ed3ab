/-
  The program's reader: expression.
-/
import Derived.Test.YtdgphhdkeikbaaaDoorLxOpd
import Derived.Test.YtdgphhdkeikbaaaDoorHeldTail
namespace Go.Proofs.YtdgphhdkeikbaaaDoor
set_option linter.unusedSimpArgs false
set_option linter.unusedVariables false
open Go.RowKit

theorem ka_both {φ : Nat → Prop} {g : Nat} {w : World} {x y : Ex} {sl sm : Value} (hg : φ g) (hx : KA φ w x.es sl) (hy : KA φ w y.es sm)
    (h : w.heap[g]? = some (.cells #[.int .i64 x.k, .int .i64 x.o, .string x.s, .int .i64 x.v, sl, .int .i64 y.k, .int .i64 y.o, .string y.s, .int .i64 y.v, sm] TX (0, 0))) : KA φ w [x, y] (.slice (some ⟨g, 0, none⟩) 2 2) :=
  .mk [x, y] (some ⟨g, 0, none⟩) 2 (fun j => if j = 0 then sl else sm) (Nat.le_refl _) (by decide) (fun j hj => by
    have : j = 0 ∨ j = 1 := by simp at hj; omega
    rcases this with rfl | rfl
    · exact ⟨g, 0, rfl, hg, ltH h, atRow (rest := encX y sm) (by simpa [encX, ga] using h)⟩
    · refine ⟨g, 0, rfl, hg, ltH h, ?_⟩
      refine ⟨?_, ?_, ?_, ?_, ?_⟩ <;> (rw [Lib.cell_of_heap h]; simp [ga])) (fun j hj => by
    have : j = 0 ∨ j = 1 := by simp at hj; omega
    rcases this with rfl | rfl
    · exact hx
    · exact hy)
/-- Blocks behind B, but one. -/
def Ph (B G : Nat) (k : Nat) : Prop := B < k ∧ k ≠ G
theorem kaPh {B G b : Nat} {w w' : World} {es : List Ex} {v : Value} (h : KA (Ph B G) w es v) (hb : But b w w') (hB : b ≤ B) : KA (Ph B G) w' es v :=
  h.keep hb.size (fun k h1 h2 => ⟨h2, hb.block k h1 (by have := h2.1; omega)⟩)
theorem kaPhRow {B G : Nat} {w : World} {es : List Ex} {v : Value} (h : KA (Ph B G) w es v) (cs : Array Value) : KA (Ph B G) (w.setRow G cs) es v :=
  h.keep (by simp only [World.setRow, Array.size_modify]; exact Nat.le_refl _) (fun k h1 h2 => ⟨h2, by simp only [World.setRow, Array.getElem?_modify]; rw [if_neg (fun e => h2.2 e.symm)]⟩)
theorem kaPhRow0 {B G : Nat} {w : World} {es : List Ex} {v : Value} (h : KA (Ph B G) w es v) (cs : Array Value) : KA (fun k => B ≤ k) (w.setRow B cs) es v :=
  h.keep (by simp only [World.setRow, Array.size_modify]; exact Nat.le_refl _) (fun k h1 h2 => ⟨Nat.le_of_lt h2.1, by simp only [World.setRow, Array.getElem?_modify]; rw [if_neg (fun e => by have := h2.1; omega)]⟩)
def rdNx (w : World) (b : Nat) : Nat := match w.cell? ⟨b, 1, none⟩ with
  | some (.int _ n) => n.toNat
  | _ => 0
theorem RdA.n {w : World} {b i m : Nat} {sl : Value} (h : RdA w b sl i m) : rdNx w b = i := by unfold rdNx; rw [h.c1]; simp
theorem opS_sgT (l : List Tk) : opS (sgT l) = opN (hdT l) := by
  unfold sgT opN
  by_cases h : (hdT l).k = 3
  · rw [if_pos h, if_pos h]
  · rw [if_neg h, if_neg h]; decide
/-- What the loop has before a round. -/
structure LoI (w : World) (b m : Nat) (a : Option Addr) (c : Nat) (ts : List Tk) (i p G : Nat) (Rr : Rs) (f : Nat) (wr : World) (j : Nat) (e : Ex) (sa : Option Addr) (sn sc : Nat) : Prop where
  rd : RdI wr b m a c ts j
  ce : wr.heap[G]? = some (.cells #[.int .i64 e.k, .int .i64 e.o, .string e.s, .int .i64 e.v, .slice sa sn sc] TX (0, 0))
  ka : KA (Ph w.heap.size G) wr e.es (.slice sa sn sc)
  bu : But b w wr
  rs : wr.heap[w.heap.size]? = some (.cells #[.int .i64 0, .int .i64 0, .string ⟨#[]⟩, .int .i64 0, nilX] TX (0, 0))
  gl : w.heap.size < G
  ij : i ≤ j
  pss : ∃ g r, g ≤ f ∧ ps g (.lop p e) (ts.drop j) = r ∧ r ≠ .out ∧ Rr = r.up (j - i)
theorem LoI.below {w : World} {b m : Nat} {a : Option Addr} {c : Nat} {ts : List Tk} {i p G : Nat} {Rr : Rs} {f : Nat} {wr V : World} {j : Nat} {e : Ex} {sa : Option Addr} {sn sc : Nat} (h : LoI w b m a c ts i p G Rr f wr j e sa sn sc) (hb : Below wr.heap.size wr V) : LoI w b m a c ts i p G Rr f V j e sa sn sc :=
  ⟨h.rd.below hb, (hb.block _ (ltH h.ce)).trans h.ce, KA.carry h.ka hb, h.bu.trans (But.of hb), (hb.block _ (ltH h.rs)).trans h.rs, h.gl, h.ij, h.pss⟩
theorem LoI.stop {w : World} {b m : Nat} {a : Option Addr} {c : Nat} {ts : List Tk} {i p G : Nat} {Rr : Rs} {f : Nat} {wr : World} {j : Nat} {e : Ex} {sa : Option Addr} {sn sc : Nat} (h : LoI w b m a c ts i p G Rr f wr j e sa sn sc) (hp : pcP (opN (hdT (ts.drop j))) ≠ p) : Rr = .ok e (j - i) := by
  obtain ⟨g, r, hg, h1, h2, h3⟩ := h.pss
  cases g with
  | zero => exact absurd h1.symm h2
  | succ g =>
    rw [ps, if_pos hp] at h1
    rw [h3, ← h1]
    simp [Rs.up]
theorem LoI.more {w : World} {b m : Nat} {a : Option Addr} {c : Nat} {ts : List Tk} {i p G : Nat} {Rr : Rs} {f : Nat} {wr : World} {j : Nat} {e : Ex} {sa : Option Addr} {sn sc : Nat} (h : LoI w b m a c ts i p G Rr f wr j e sa sn sc) (hp : pcP (opN (hdT (ts.drop j))) = p) :
    ∃ g q, g ≤ f ∧ ps g (.exp (p + 1)) (ts.drop (j + 1)) = q ∧ q ≠ .out ∧ (∀ n, q = .bad n → Rr = .bad (j + 1 + n - i)) ∧
      (∀ x n, q = .ok x n → p = 3 → Rr = .ok (bnX (opN (hdT (ts.drop j))) e x) (j + 1 + n - i)) ∧
      (∀ x n, q = .ok x n → p ≠ 3 → ∃ r, ps g (.lop p (bnX (opN (hdT (ts.drop j))) e x)) (ts.drop (j + 1 + n)) = r ∧ r ≠ .out ∧ Rr = r.up (j + 1 + n - i)) := by
  obtain ⟨g, r, hg, h1, h2, h3⟩ := h.pss
  cases g with
  | zero => exact absurd h1.symm h2
  | succ g =>
    have hij := h.ij
    rw [ps, if_neg (by rw [hp]; simp), drop1] at h1
    refine ⟨g, _, by omega, rfl, ?_, ?_, ?_, ?_⟩
    · intro hh; rw [hh] at h1; exact h2 h1.symm
    · intro n hh
      rw [hh] at h1
      rw [h3, ← h1]
      show Rs.bad _ = _
      congr 1; omega
    · intro x n hh h33
      rw [hh] at h1
      simp only [Rs.up, Rs.thenLop, if_pos h33] at h1
      rw [h3, ← h1]
      show Rs.ok _ _ = _
      congr 1; omega
    · intro x n hh h33
      rw [hh] at h1
      simp only [Rs.up, Rs.thenLop, if_neg h33] at h1
      rw [show (ts.drop j).drop (n + 1) = ts.drop (j + 1 + n) by rw [List.drop_drop]; congr 1; omega] at h1
      refine ⟨_, rfl, ?_, ?_⟩
      · intro hh2; rw [hh2] at h1; exact h2 h1.symm
      · rw [h3, ← h1]
        cases ps g (.lop p (bnX (opN (hdT (ts.drop j))) e x)) (ts.drop (j + 1 + n)) with
        | ok y k => show Rs.ok _ _ = Rs.ok _ _; congr 1; omega
        | bad k => show Rs.bad _ = Rs.bad _; congr 1; omega
        | out => rfl
theorem lk_cases {x : ByteArray} {o1 o2 : Int} {fd : Bool} {O : Int} (hx : opS x = O) (h : Value.tuple #[(fun q : Int × Int => opV2 q.1 q.2) ((lkS tabS x).getD (0, 0)), .bool (lkS tabS x).isSome] = .tuple #[opV2 (o1, o2, fd).1 (o1, o2, fd).2.1, .bool (o1, o2, fd).2.2]) :
    (O = 0 ∧ fd = false) ∨ (O ≠ 0 ∧ fd = true ∧ O = o1 ∧ pcP O = o2) := by
  rw [lkS_op, hx] at h
  by_cases h0 : O = 0
  · rw [if_pos h0] at h
    left
    simp [opV2] at h
    exact ⟨h0, h.2⟩
  · rw [if_neg h0] at h
    right
    simp [opV2] at h
    exact ⟨h0, h.2, h.1.1, h.1.2⟩
theorem opN_lt {ts : List Tk} {j : Nat} (h : opN (hdT (ts.drop j)) ≠ 0) : j < ts.length := by
  rcases Nat.lt_or_ge j ts.length with hh | hh
  · exact hh
  · rw [hdT_end hh, opN_z] at h; exact absurd rfl h
set_option maxRecDepth 100000 in
set_option maxHeartbeats 16000000 in
theorem expression_any (f : Nat) (hH : ∀ g, g ≤ f → OpdC g ∧ ExpC g) : ExpC (f + 1) := by
  intro p w b m a c ts i hp1 hp6 h hne
  obtain ⟨W, hW⟩ : ∃ W, w.alloc (.cells #[.int .i64 0, .int .i64 0, .string ⟨#[]⟩, .int .i64 0, nilX] TX) = W := ⟨_, rfl⟩
  have hb : Below w.heap.size w W := by rw [← hW]; exact (Below.refl _ w).alloc (Nat.le_refl _) _
  have hg : W.heap[w.heap.size]? = some (.cells #[.int .i64 0, .int .i64 0, .string ⟨#[]⟩, .int .i64 0, nilX] TX (0, 0)) := by rw [← hW]; exact heapNew w _
  have hI := h.below hb
  have H0 := Lib.hid h
  have HG := Lib.hid hg
  have HB := Lib.hid hb
  have HBL := Lib.hid h.lt
  have HI := Lib.hid hI
  obtain ⟨R, hR⟩ : ∃ R, ps (f + 1) (.exp p) (ts.drop i) = R := ⟨_, rfl⟩
  rw [hR] at hne ⊢
  have HR := Lib.hid hR
  have HH := Lib.hid hH
  have HNE := Lib.hid hne
  clear hI hb hg h hR hH hne
  by_cases h5 : 5 < p
  · have k5 : (5 : Int) < (p : Int) := by omega
    have hrr : ps f .opd (ts.drop i) = R := by rw [← HR.out, ps, if_pos h5]
    have HRE := Lib.hid hrr
    have HOP := Lib.hid ((HH.out f (Nat.le_refl _)).1 W b m a c ts i HI.out (by rw [hrr]; exact HNE.out))
    rw [hrr] at HOP
    clear hrr h5
    go_enter Tryd.func49, Tryd.ntmps49
    go_wp2_with fail
    try rw [hW]
    clear hW
    refine HOP.out.mono ?_
    rintro x w2 hp
    have HB2 := Lib.hid ((But.of HB.out).trans hp.1)
    have HG2 := Lib.hid (hp.1.heap (k := w.heap.size) (by have := HBL.out; omega) HG.out)
    have HGL := Lib.hid (ltH HG.out)
    have hp2 := hp.2
    clear hp
    cases R with
    | out => exact hp2.elim
    | bad n =>
      subst hp2
      go_wp2
      exact ⟨rfl, HB2.out, by first | rfl | (simp only []; rfl)⟩
    | ok e n =>
      obtain ⟨sa, sn, sc, rfl, hk, hr⟩ := hp2
      have HK := Lib.hid (kaMono hk (show w.heap.size + 1 ≤ W.heap.size from HGL.out))
      have HRR := Lib.hid hr
      obtain ⟨k, o, s, v, es⟩ := e
      simp only [exV, Ex.k, Ex.o, Ex.s, Ex.v]
      clear hk hr
      go_wp2_with (refine wpList_store_row rfl TX (.tmp 4) (.tmp 11) rfl w.heap.size #[.int .i64 k, .int .i64 o, .string s, .int .i64 v, .slice sa sn sc] rfl rfl _ _ HG2.out (by kernel_rfl) rfl (by simp [Value.oneCell']) ?_)
      try simp only [Exit.inBlock, Exit.then]
      have hgf := setRow_heap w2 w.heap.size _ #[.int .i64 k, .int .i64 o, .string s, .int .i64 v, .slice sa sn sc] _ _ HG2.out
      have hlast := H0.out.last HB2.out HRR.out (Nat.le_refl _) #[.int .i64 k, .int .i64 o, .string s, .int .i64 v, .slice sa sn sc]
      have hka := kaMono (kaRow HK.out (Nat.lt_succ_self w.heap.size) #[.int .i64 k, .int .i64 o, .string s, .int .i64 v, .slice sa sn sc]) (Nat.le_succ w.heap.size)
      refine bodyPost_ret (v := exV (.mk k o s v es) (.slice sa sn sc)) ?_ rfl ?_
      · exact ret_x1 Tryd.results49 _ w.heap.size (.mk k o s v es) _ _ hgf rfl
      · exact ⟨HB2.out.row (Nat.le_refl _) _, _, _, _, rfl, hka, hlast⟩
  · have k5 : ¬ (5 : Int) < (p : Int) := by omega
    have hp5 : p ≤ 5 := by omega
    obtain ⟨q, hq⟩ : ∃ q, ps f (.exp (p + 1)) (ts.drop i) = q := ⟨_, rfl⟩
    have hrr : q.thenLop (fun e n => (ps f (.lop p e) ((ts.drop i).drop n)).up n) = R := by rw [← HR.out, ps, if_neg h5, hq]
    have HRE := Lib.hid hrr
    have HQN := Lib.hid (show q ≠ .out from fun e => HNE.out (by rw [← hrr, e]; rfl))
    have HEX := Lib.hid ((HH.out f (Nat.le_refl _)).2 (p + 1) W b m a c ts i (by omega) (by omega) HI.out (by rw [hq]; exact HQN.out))
    rw [hq] at HEX
    have HQ := Lib.hid hq
    have hpw : ((p + 1 : Nat) : Int) = (p : Int) + 1 := by omega
    rw [hpw] at HEX
    have hpi : (p : Int) ≤ 5 := by omega
    clear hrr h5 hq hpw
    go_enter Tryd.func49, Tryd.ntmps49
    go_wp2_with fail
    try rw [hW]
    clear hW
    refine HEX.out.mono ?_
    rintro x w2 hp
    have HB2 := Lib.hid ((But.of HB.out).trans hp.1)
    have HG2 := Lib.hid (hp.1.heap (k := w.heap.size) (by have := HBL.out; omega) HG.out)
    have hp2 := hp.2
    have HGL := Lib.hid (ltH HG.out)
    have HS2 := Lib.hid hp.1.size
    clear hp
    cases q with
    | out => exact hp2.elim
    | bad n =>
      subst hp2
      have HRB : Hid (R = .bad n) := Lib.hid HRE.out.symm
      go_wp2
      exact ⟨rfl, HB2.out, by rw [HRB.out]; rfl⟩
    | ok e n =>
      obtain ⟨sa, sn, sc, rfl, hk, hr⟩ := hp2
      obtain ⟨W3, hW3⟩ : ∃ V, w2.alloc (.cells #[.int .i64 e.k, .int .i64 e.o, .string e.s, .int .i64 e.v, .slice sa sn sc] TX) = V := ⟨_, rfl⟩
      have hb3 : Below w2.heap.size w2 W3 := by rw [← hW3]; exact (Below.refl _ _).alloc (Nat.le_refl _) _
      have hE : W3.heap[w2.heap.size]? = some (.cells #[.int .i64 e.k, .int .i64 e.o, .string e.s, .int .i64 e.v, .slice sa sn sc] TX (0, 0)) := by rw [← hW3]; exact heapNew _ _
      have HL : Hid (LoI w b m a c ts i p w2.heap.size R f W3 (i + n) e sa sn sc) := Lib.hid (by
        refine ⟨hr.below hb3, hE, ?_, HB2.out.trans (But.of hb3), (hb3.block _ (ltH HG2.out)).trans HG2.out, ltH HG2.out, Nat.le_add_right _ _, f, _, Nat.le_refl _, rfl, ?_, ?_⟩
        · exact hk.keep hb3.size (fun k h1 h2 => ⟨⟨by have := HGL.out; have : W.heap.size ≤ k := h2; omega, by omega⟩, hb3.block k h1⟩)
        · intro hh
          apply HNE.out
          have := HRE.out
          simp only [Rs.thenLop] at this
          rw [← this, List.drop_drop, hh]; rfl
        · have := HRE.out
          simp only [Rs.thenLop] at this
          rw [← this, List.drop_drop, show i + n - i = n by omega])
      obtain ⟨G, hGG⟩ : ∃ G, w2.heap.size = G := ⟨_, rfl⟩
      simp only [exV]
      have HW3 := Lib.hid hW3
      have HGG := Lib.hid hGG
      clear hk hr hb3 hE
      go_wp2_with fail
      try rw [hW3]
      rw [hGG] at HL
      try rw [hGG]
      clear hW3 hGG HW3
      go_loopw [7] (fun _ wr => ∃ j e sa sn sc, Hid (LoI w b m a c ts i p G R f wr j e sa sn sc)) (fun _ wr => ts.length - rdNx wr b)
      case atStart => exact ⟨_, _, _, _, _, HL⟩
      case round =>
        clear HL
        obtain ⟨j, e, sa, sn, sc, HL⟩ := hrel
        have hmz := HL.out.rd.rd.n
        obtain ⟨O, hO⟩ : ∃ O, opN (hdT (ts.drop j)) = O := ⟨_, rfl⟩
        have HO := Lib.hid hO
        clear hO
        obtain ⟨⟨o1, o2, fd⟩, hlk⟩ : ∃ q : Int × Int × Bool, Value.tuple #[(fun q : Int × Int => opV2 q.1 q.2) ((lkS tabS (sgT (ts.drop j))).getD (0, 0)), .bool (lkS tabS (sgT (ts.drop j))).isSome] = .tuple #[opV2 q.1 q.2.1, .bool q.2.2] := ⟨(((lkS tabS (sgT (ts.drop j))).getD (0, 0)).1, ((lkS tabS (sgT (ts.drop j))).getD (0, 0)).2, (lkS tabS (sgT (ts.drop j))).isSome), rfl⟩
        have HLK := Lib.hid hlk
        clear hlk
        go_wp2_with fail
        refine wp_region_held (S := fun V => LoI w b m a c ts i p G R f V j e sa sn sc) (by kernel_rfl) ?_
        change wpAnyH _ _ _ _ _ _ _ _ (wr).drew
        obtain ⟨W2, hW2⟩ : ∃ V, (wr).drew = V := ⟨_, rfl⟩
        have bW2 : Below (wr).heap.size (wr) W2 := by rw [← hW2]; exact (Below.refl _ _).drew
        have HL2 := Lib.hid (HL.out.below bW2)
        have HX2 := Lib.hid (Below.refl W2.heap.size W2)
        have HM2 := Lib.hid (HL2.out.bu.size)
        rw [hW2]
        clear hW2 bW2
        refine wpAnyH_read (i := 0) (v := .pointer (some ⟨b, 0, none⟩)) rfl (by kernel_rfl) (by kernel_rfl) (by kernel_rfl) (fun _ _ _ h => h) (by rfl) (fun _ _ => rfl) HL2.out ?_
        simp only [Act.put, List.setIfInBounds_toArray, List.set_cons_zero, List.set_cons_succ]
        refine wpAnyH_read (i := 1) (v := .pointer (some ⟨b, 0, none⟩)) rfl (by kernel_rfl) (by kernel_rfl) (by kernel_rfl) (fun _ _ _ h => h) (by rfl) (fun _ _ => rfl) HL2.out ?_
        simp only [Act.put, List.setIfInBounds_toArray, List.set_cons_zero, List.set_cons_succ]
        refine wpAnyH_read (i := 2) (v := .pointer (some ⟨b, 2, none⟩)) rfl (by kernel_rfl) (by kernel_rfl) (by kernel_rfl) (fun _ _ _ h => h) (by rfl) (fun _ _ => rfl) HL2.out ?_
        simp only [Act.put, List.setIfInBounds_toArray, List.set_cons_zero, List.set_cons_succ]
        refine wpAnyH_read (i := 3) (v := .map (some m)) rfl (by kernel_rfl) (by kernel_rfl) (by kernel_rfl) (fun _ _ _ h => h) (by rfl) (by intro V q; have q0 := q.rd.rd.c2; go_simp) HL2.out ?_
        simp only [Act.put, List.setIfInBounds_toArray, List.set_cons_zero, List.set_cons_succ]
        refine wpAnyH_read (i := 4) (v := .pointer (some ⟨b, 0, none⟩)) rfl (by kernel_rfl) (by kernel_rfl) (by kernel_rfl) (fun _ _ _ h => h) (by rfl) (fun _ _ => rfl) HL2.out ?_
        simp only [Act.put, List.setIfInBounds_toArray, List.set_cons_zero, List.set_cons_succ]
        refine wpAnyH_fork (i := 5) (j := 10) rfl rfl (by kernel_rfl) ?_ ?_
        · skip
          have HSG := Lib.hid (sign_any b j m a c ts W2 HL2.out.rd.rd (HL2.out.rd.tk.keep (Nat.le_refl _) (fun _ _ _ => ⟨trivial, rfl⟩)) HL2.out.rd.il HL2.out.rd.ln HL2.out.rd.lc)
          go_wp2_with fail
          refine HSG.out.mono ?_
          rintro x w3 ⟨rfl, b3⟩
          have HL3 := Lib.hid (HL2.out.below b3)
          have HX3 := Lib.hid (HX2.out.trans (b3.mono HX2.out.size))
          clear b3
          go_wp2_with fail
          refine ⟨HL3.out, ?_⟩
          refine wpAnyH_read (i := 6) (v := .tuple #[.agg #[.int .i64 o1, .int .i64 o2], .bool fd]) rfl (by kernel_rfl) (by kernel_rfl) (by kernel_rfl) (fun _ _ _ h => h) (by rfl) (by intro V q; have ql := run_lookS (sgT (ts.drop j)) q.rd.mp; rw [HLK.out] at ql; simp only [opV2] at ql; go_simp) HL3.out ?_
          simp only [Act.put, List.setIfInBounds_toArray, List.set_cons_zero, List.set_cons_succ]
          refine wpAnyH_read (i := 7) (v := .tuple #[.agg #[.int .i64 o1, .int .i64 o2], .bool fd]) rfl (by kernel_rfl) (by kernel_rfl) (by kernel_rfl) (fun _ _ _ h => h) (by rfl) (fun _ _ => rfl) HL3.out ?_
          simp only [Act.put, List.setIfInBounds_toArray, List.set_cons_zero, List.set_cons_succ]
          refine wpAnyH_read (i := 8) (v := .agg #[.int .i64 o1, .int .i64 o2]) rfl (by kernel_rfl) (by kernel_rfl) (by kernel_rfl) (fun _ _ _ h => h) (by rfl) (fun _ _ => rfl) HL3.out ?_
          simp only [Act.put, List.setIfInBounds_toArray, List.set_cons_zero, List.set_cons_succ]
          refine wpAnyH_read (i := 9) (v := .bool fd) rfl (by kernel_rfl) (by kernel_rfl) (by kernel_rfl) (fun _ _ _ h => h) (by rfl) (fun _ _ => rfl) HL3.out ?_
          simp only [Act.put, List.setIfInBounds_toArray, List.set_cons_zero, List.set_cons_succ]
          refine wpAnyH_next (i := 10) rfl (by kernel_rfl) ?_
          obtain ⟨W4, hW4⟩ : ∃ V, w3.alloc (.cells #[.int .i64 0, .int .i64 0] TLo) = V := ⟨_, rfl⟩
          have b4 : Below w3.heap.size w3 W4 := by rw [← hW4]; exact (Below.refl _ _).alloc (Nat.le_refl _) _
          have HE4 : Hid (W4.heap[w3.heap.size]? = some (.cells #[.int .i64 0, .int .i64 0] TLo (0, 0))) := Lib.hid (by rw [← hW4]; exact heapNew _ _)
          have HL4 := Lib.hid (HL3.out.below b4)
          have HGX := Lib.hid (show W2.heap.size ≤ w3.heap.size from HX3.out.size)
          have HX4 := Lib.hid (HX3.out.trans (b4.mono HX3.out.size))
          go_wp2_with fail
          try rw [hW4]
          clear b4 hW4
          refine ⟨HL4.out, ?_⟩
          obtain ⟨W9, hW9⟩ : ∃ V, W4.setRow w3.heap.size #[.int .i64 o1, .int .i64 o2] = V := ⟨_, rfl⟩
          have HL9 : Hid (LoI w b m a c ts i p G R f W9 j e sa sn sc) := Lib.hid (by rw [← hW9]; exact HL2.out.below (below_setRow HX4.out HGX.out _))
          have HE9 : Hid (W9.heap[w3.heap.size]? = some (.cells #[.int .i64 o1, .int .i64 o2] TLo (0, 0))) := Lib.hid (by rw [← hW9]; exact setRow_heap _ _ _ _ _ _ HE4.out)
          have HW9 := Lib.hid hW9
          have HG6 := Lib.hid (show W2.heap.size ≤ w3.heap.size from HGX.out)
          refine wpAnyH_next (i := 11) rfl (by kernel_rfl) ?_
          go_wp2_with (refine wpList_store_row rfl TLo (.tmp 6) (.tmp 24) rfl w3.heap.size #[.int .i64 o1, .int .i64 o2] rfl rfl _ _ HE4.out (by kernel_rfl) rfl (by simp [Value.oneCell']) ?_)
          try rw [HW9.out]
          clear hW9
          refine ⟨HL9.out, ?_⟩
          refine wpAnyH_next (i := 12) rfl (by kernel_rfl) ?_
          go_wp2_with fail
          refine ⟨HL9.out, ?_⟩
          refine wpAnyH_done (by kernel_rfl) ?_ _
          obtain ⟨f0, f1⟩ : W9.cell? ⟨w3.heap.size, 0, none⟩ = some (.int .i64 o1) ∧ W9.cell? ⟨w3.heap.size, 1, none⟩ = some (.int .i64 o2) := ⟨(Lib.cell_of_heap HE9.out 0).trans rfl, (Lib.cell_of_heap HE9.out 1).trans rfl⟩
          obtain ⟨d0, d1, d2, d3, d4⟩ := cells5 HL9.out.ce
          rcases lk_cases ((opS_sgT _).trans HO.out) HLK.out with ⟨hO0, hfd⟩ | ⟨hO0, hfd, ho1, ho2⟩
          · subst hfd
            have hc : pcP O ≠ p := by rw [hO0]; have h6 : pcP 0 = 6 := by decide
                                      rw [h6]; omega
            have HRR := Lib.hid (HL9.out.stop (by rw [HO.out]; exact hc))
            have hij := HL9.out.ij
            clear hc
            go_wp2_with (refine wpList_store_row rfl TX (.tmp 4) (.tmp 34) rfl w.heap.size #[.int .i64 e.k, .int .i64 e.o, .string e.s, .int .i64 e.v, .slice sa sn sc] rfl rfl _ _ HL9.out.rs (by kernel_rfl) rfl (by simp [Value.oneCell']) ?_)
            try simp only [Exit.inBlock, Exit.then]
            have hgf := setRow_heap W9 w.heap.size _ #[.int .i64 e.k, .int .i64 e.o, .string e.s, .int .i64 e.v, .slice sa sn sc] _ _ HL9.out.rs
            have hlast := H0.out.last HL9.out.bu HL9.out.rd (Nat.le_refl _) #[.int .i64 e.k, .int .i64 e.o, .string e.s, .int .i64 e.v, .slice sa sn sc]
            have hka := kaPhRow0 HL9.out.ka #[.int .i64 e.k, .int .i64 e.o, .string e.s, .int .i64 e.v, .slice sa sn sc]
            refine bodyPost_ret (v := exV e (.slice sa sn sc)) ?_ rfl ?_
            · exact ret_x1 Tryd.results49 _ w.heap.size e _ _ hgf rfl
            · rw [HRR.out]
              exact ⟨HL9.out.bu.row (Nat.le_refl _) _, _, _, _, rfl, hka, by rw [show i + (j - i) = j by omega]; exact hlast⟩
          · subst hfd
            subst ho1
            subst ho2
            by_cases hc : pcP O = p
            · have k1 : (pcP O != (p : Int)) = false := by simp [hc]
              obtain ⟨g, q, hgf, hq, hqn, hbad, hok3, hokn⟩ := HL9.out.more (by rw [HO.out]; exact hc)
              have HLT := Lib.hid (opN_lt (ts := ts) (j := j) (by rw [HO.out]; exact hO0))
              obtain ⟨X, hX, hIX, hBX, hj40, hfz, hc1⟩ := HL9.out.rd.first HLT.out
              have HG6b := Lib.hid (show w3.heap.size ≠ b by have := HL2.out.rd.lt; have := HG6.out; omega)
              have HF := Lib.hid (hBX.heap HG6b.out HE9.out)
              have HCE := Lib.hid (hBX.heap (k := G) (by have := HBL.out; have := HL9.out.gl; omega) HL9.out.ce)
              have HKX := Lib.hid (kaPh HL9.out.ka hBX (Nat.le_of_lt HBL.out))
              have HRX := Lib.hid (hBX.heap (k := w.heap.size) (by have := HBL.out; omega) HL9.out.rs)
              have HBX := Lib.hid (HL9.out.bu.trans hBX)
              have HIX := Lib.hid hIX
              have HXX := Lib.hid hX
              clear hIX hBX
              go_wp2_with fail
              try rw [HXX.out]
              go_wp2_with fail
              try rw [HXX.out]
              clear hX
              refine wp_region_T (fun V => V.heap[w3.heap.size]? = some (.cells #[.int .i64 O, .int .i64 (pcP O)] TLo (0, 0)) ∧ V.heap[G]? = some (.cells #[.int .i64 e.k, .int .i64 e.o, .string e.s, .int .i64 e.v, .slice sa sn sc] TX (0, 0))) 9 (by kernel_rfl) ?_
              change wpAnyT _ _ _ _ _ _ _ _ _ X.drew
              obtain ⟨XD, hXD⟩ : ∃ V, X.drew = V := ⟨_, rfl⟩
              have bd : Below X.heap.size X XD := by rw [← hXD]; exact (Below.refl _ _).drew
              have hID := HIX.out.below bd
              have HS8 : Hid (XD.heap[w3.heap.size]? = some (.cells #[.int .i64 O, .int .i64 (pcP O)] TLo (0, 0)) ∧ XD.heap[G]? = some (.cells #[.int .i64 e.k, .int .i64 e.o, .string e.s, .int .i64 e.v, .slice sa sn sc] TX (0, 0))) := Lib.hid ⟨(bd.block _ (ltH HF.out)).trans HF.out, (bd.block _ (ltH HCE.out)).trans HCE.out⟩
              have HKD := Lib.hid (KA.carry HKX.out bd)
              have HBD := Lib.hid (HBX.out.trans (But.of bd))
              have HRD := Lib.hid ((bd.block _ (ltH HRX.out)).trans HRX.out)
              have HCALL := Lib.hid ((HH.out g hgf).2 (p + 1) XD b m a c ts (j + 1) (by omega) (by omega) hID (by rw [hq]; exact hqn))
              rw [hq, show ((p + 1 : Nat) : Int) = (p : Int) + 1 by omega] at HCALL
              rw [hXD]
              clear hXD bd hID
              refine wpAnyT_read (i := 0) (v := .pointer (some ⟨w3.heap.size, 0, none⟩)) rfl (by kernel_rfl) (by kernel_rfl) (by kernel_rfl) (by kernel_rfl) (by rfl) (by kernel_rfl) (fun _ _ _ h => h) (by rfl) (fun _ _ => rfl) HS8.out ?_
              simp only [Act.put, List.setIfInBounds_toArray, List.set_cons_zero, List.set_cons_succ]
              refine wpAnyT_read (i := 1) (v := .int .i64 O) rfl (by kernel_rfl) (by kernel_rfl) (by kernel_rfl) (by kernel_rfl) (by rfl) (by kernel_rfl) (fun _ _ _ h => h) (by rfl) (by rintro V ⟨q, _⟩; have q0 : V.cell? ⟨w3.heap.size, 0, none⟩ = some (.int .i64 O) := (Lib.cell_of_heap q 0).trans rfl; go_simp) HS8.out ?_
              simp only [Act.put, List.setIfInBounds_toArray, List.set_cons_zero, List.set_cons_succ]
              refine wpAnyT_read (i := 2) (v := .agg #[.int .i64 e.k, .int .i64 e.o, .string e.s, .int .i64 e.v, .slice sa sn sc]) rfl (by kernel_rfl) (by kernel_rfl) (by kernel_rfl) (by kernel_rfl) (by rfl) (by kernel_rfl) (fun _ _ _ h => h) (by rfl) (by rintro V ⟨_, q⟩; obtain ⟨q0, q1, q2, q3, q4⟩ := cells5 q; go_simp) HS8.out ?_
              simp only [Act.put, List.setIfInBounds_toArray, List.set_cons_zero, List.set_cons_succ]
              refine wpAnyT_read (i := 3) (v := .pointer (some ⟨b, 0, none⟩)) rfl (by kernel_rfl) (by kernel_rfl) (by kernel_rfl) (by kernel_rfl) (by rfl) (by kernel_rfl) (fun _ _ _ h => h) (by rfl) (fun _ _ => rfl) HS8.out ?_
              simp only [Act.put, List.setIfInBounds_toArray, List.set_cons_zero, List.set_cons_succ]
              refine wpAnyT_read (i := 4) (v := .int .i64 (p : Int)) rfl (by kernel_rfl) (by kernel_rfl) (by kernel_rfl) (by kernel_rfl) (by rfl) (by kernel_rfl) (fun _ _ _ h => h) (by rfl) (fun _ _ => rfl) HS8.out ?_
              simp only [Act.put, List.setIfInBounds_toArray, List.set_cons_zero, List.set_cons_succ]
              refine wpAnyT_read (i := 5) (v := .int .i64 ((p : Int) + 1)) rfl (by kernel_rfl) (by kernel_rfl) (by kernel_rfl) (by kernel_rfl) (by rfl) (by kernel_rfl) (fun _ _ _ h => h) (by rfl) (by intro V _; have hwr : IntKind.i64.wrap ((p : Int) + 1) = (p : Int) + 1 := IntWalk.i64_in _ (by omega); go_simp) HS8.out ?_
              simp only [Act.put, List.setIfInBounds_toArray, List.set_cons_zero, List.set_cons_succ]
              refine wpAnyT_next (i := 6) rfl (by kernel_rfl) ?_
              go_wp2_with fail
              refine HCALL.out.mono ?_
              rintro x v3 ⟨hb3, hp3⟩
              have HB3 := Lib.hid (HBD.out.trans hb3)
              have HGb := Lib.hid (show G ≠ b by have := HBL.out; have := HL9.out.gl; omega)
              have HS9 : Hid (v3.heap[w3.heap.size]? = some (.cells #[.int .i64 O, .int .i64 (pcP O)] TLo (0, 0)) ∧ v3.heap[G]? = some (.cells #[.int .i64 e.k, .int .i64 e.o, .string e.s, .int .i64 e.v, .slice sa sn sc] TX (0, 0))) := Lib.hid ⟨hb3.heap HG6b.out HS8.out.1, hb3.heap HGb.out HS8.out.2⟩
              have HK3 := Lib.hid (kaPh HKD.out hb3 (Nat.le_of_lt HBL.out))
              have HR3 := Lib.hid (hb3.heap (k := w.heap.size) (by have := HBL.out; omega) HRD.out)
              have HGX := Lib.hid (ltH HS8.out.2)
              have HSZ := Lib.hid hb3.size
              clear hb3 HCALL
              cases q with
              | out => exact hp3.elim
              | bad n =>
                have HRB := Lib.hid (hbad n rfl)
                have hij := HL9.out.ij
                subst hp3
                go_wp2
                refine ⟨rfl, HB3.out, ?_⟩
                rw [HRB.out]
                show Ending.panicked _ = Ending.panicked _
                rw [show i + (j + 1 + n - i) = j + 1 + n by omega]
                rfl
              | ok x n =>
                obtain ⟨xa, xn, xc, rfl, hkx, hrx⟩ := hp3
                simp only [exV]
                go_wp2_with fail
                refine ⟨fun _ => HS9.out, ?_⟩
                have HKY : Hid (KA (Ph w.heap.size G) v3 x.es (.slice xa xn xc)) := Lib.hid (hkx.mono (fun k _ h2 => by have : XD.heap.size ≤ k := h2; have := HGX.out; have := HL9.out.gl; exact ⟨by omega, by omega⟩))
                have HRX3 := Lib.hid hrx
                obtain ⟨V4, hV4⟩ : ∃ V, v3.alloc (.cells #[.int .i64 e.k, .int .i64 e.o, .string e.s, .int .i64 e.v, .slice sa sn sc, .int .i64 x.k, .int .i64 x.o, .string x.s, .int .i64 x.v, .slice xa xn xc] TX) = V := ⟨_, rfl⟩
                have hb4 : Below v3.heap.size v3 V4 := by rw [← hV4]; exact (Below.refl _ _).alloc (Nat.le_refl _) _
                have hE4 : V4.heap[v3.heap.size]? = some (.cells #[.int .i64 e.k, .int .i64 e.o, .string e.s, .int .i64 e.v, .slice sa sn sc, .int .i64 x.k, .int .i64 x.o, .string x.s, .int .i64 x.v, .slice xa xn xc] TX (0, 0)) := by rw [← hV4]; exact heapNew _ _
                have HKN : Hid (KA (Ph w.heap.size G) V4 [e, x] (.slice (some ⟨v3.heap.size, 0, none⟩) 2 2)) := Lib.hid (ka_both (x := e) (y := x) ⟨by have := HGX.out; have := HSZ.out; have := HL9.out.gl; omega, by have := HGX.out; have := HSZ.out; omega⟩ (KA.carry HK3.out hb4) (KA.carry HKY.out hb4) hE4)
                have HS4 : Hid (V4.heap[w3.heap.size]? = some (.cells #[.int .i64 O, .int .i64 (pcP O)] TLo (0, 0)) ∧ V4.heap[G]? = some (.cells #[.int .i64 e.k, .int .i64 e.o, .string e.s, .int .i64 e.v, .slice sa sn sc] TX (0, 0))) := Lib.hid ⟨(hb4.block _ (ltH HS9.out.1)).trans HS9.out.1, (hb4.block _ (ltH HS9.out.2)).trans HS9.out.2⟩
                have HR4 := Lib.hid ((hb4.block _ (ltH HR3.out)).trans HR3.out)
                have HB4 := Lib.hid (HB3.out.trans (But.of hb4))
                have HI4 := Lib.hid (HRX3.out.below hb4)
                have HV4 := Lib.hid hV4
                refine wpAnyT_next (i := 7) rfl (by kernel_rfl) ?_
                go_wp2_with fail
                try rw [HV4.out]
                clear hkx hrx hb4 hE4 hV4
                refine ⟨fun _ => HS4.out, ?_⟩
                refine wpAnyT_next (i := 8) rfl (by kernel_rfl) ?_
                go_wp2_with fail
                refine ⟨fun _ => HS4.out, ?_⟩
                obtain ⟨V5, hW5⟩ : ∃ V, V4.setRow G #[.int .i64 4, .int .i64 O, .string ⟨#[]⟩, .int .i64 0, .slice (some ⟨v3.heap.size, 0, none⟩) 2 2] = V := ⟨_, rfl⟩
                have HCE5 : Hid (V5.heap[G]? = some (.cells #[.int .i64 4, .int .i64 O, .string ⟨#[]⟩, .int .i64 0, .slice (some ⟨v3.heap.size, 0, none⟩) 2 2] TX (0, 0))) := Lib.hid (by rw [← hW5]; exact setRow_heap _ _ _ _ _ _ HS4.out.2)
                have HKN5 : Hid (KA (Ph w.heap.size G) V5 [e, x] (.slice (some ⟨v3.heap.size, 0, none⟩) 2 2)) := Lib.hid (by rw [← hW5]; exact kaPhRow HKN.out _)
                have hot : ∀ k, k ≠ G → V5.heap[k]? = V4.heap[k]? := fun k hk => by
                  rw [← hW5]
                  simp only [World.setRow, Array.getElem?_modify]
                  rw [if_neg (fun e => hk e.symm)]
                have HR5 := Lib.hid ((hot w.heap.size (by have := HL9.out.gl; omega)).trans HR4.out)
                have HB5 : Hid (But b w V5) := Lib.hid (by rw [← hW5]; exact HB4.out.row (Nat.le_of_lt HL9.out.gl) _)
                have HI5 : Hid (RdI V5 b m a c ts (j + 1 + n)) := Lib.hid (by rw [← hW5]; exact H0.out.last HB4.out HI4.out (Nat.le_of_lt HL9.out.gl) _)
                have HW5 := Lib.hid hW5
                clear hot
                refine wpAnyT_next (i := 9) rfl (by kernel_rfl) ?_
                go_wp2_with (refine wpList_store_row rfl TX (.tmp 5) (.tmp 50) rfl G #[.int .i64 4, .int .i64 O, .string ⟨#[]⟩, .int .i64 0, .slice (some ⟨v3.heap.size, 0, none⟩) 2 2] rfl rfl _ _ HS4.out.2 (by kernel_rfl) rfl (by simp [Value.oneCell']) ?_)
                try rw [HW5.out]
                clear hW5
                refine ⟨by kernel_rfl, ?_⟩
                have hij := HL9.out.ij
                by_cases hp3 : p = 3
                · have k3 : ((p : Int) == 3) = true := by rw [hp3]; rfl
                  have HRR := Lib.hid (hok3 x n rfl hp3)
                  obtain ⟨d0, d1, d2, d3, d4⟩ := cells5 HCE5.out
                  clear hp3
                  go_wp2_with (refine wpList_store_row rfl TX (.tmp 4) (.tmp 53) rfl w.heap.size #[.int .i64 4, .int .i64 O, .string ⟨#[]⟩, .int .i64 0, .slice (some ⟨v3.heap.size, 0, none⟩) 2 2] rfl rfl _ _ HR5.out (by kernel_rfl) rfl (by simp [Value.oneCell']) ?_)
                  try simp only [Exit.inBlock, Exit.then]
                  have hgf := setRow_heap V5 w.heap.size _ #[.int .i64 4, .int .i64 O, .string ⟨#[]⟩, .int .i64 0, .slice (some ⟨v3.heap.size, 0, none⟩) 2 2] _ _ HR5.out
                  have hlast := H0.out.last HB5.out HI5.out (Nat.le_refl _) #[.int .i64 4, .int .i64 O, .string ⟨#[]⟩, .int .i64 0, .slice (some ⟨v3.heap.size, 0, none⟩) 2 2]
                  have hka := kaPhRow0 HKN5.out #[.int .i64 4, .int .i64 O, .string ⟨#[]⟩, .int .i64 0, .slice (some ⟨v3.heap.size, 0, none⟩) 2 2]
                  refine bodyPost_ret (v := exV (bnX O e x) (.slice (some ⟨v3.heap.size, 0, none⟩) 2 2)) ?_ rfl ?_
                  · exact ret_x1 Tryd.results49 _ w.heap.size (bnX O e x) _ _ hgf rfl
                  · rw [HRR.out, HO.out]
                    exact ⟨HB5.out.row (Nat.le_refl _) _, _, _, _, rfl, hka, by rw [show i + (j + 1 + n - i) = j + 1 + n by omega]; exact hlast⟩
                · have k3 : ((p : Int) == 3) = false := by
                    rw [beq_eq_false_iff_ne]; omega
                  obtain ⟨r2, hr2, hrn2, hrr2⟩ := hokn x n rfl hp3
                  rw [HO.out] at hr2
                  have HLN : Hid (LoI w b m a c ts i p G R f V5 (j + 1 + n) (bnX O e x) (some ⟨v3.heap.size, 0, none⟩) 2 2) := Lib.hid ⟨HI5.out, HCE5.out, HKN5.out, HB5.out, HR5.out, HL9.out.gl, by omega, g, r2, hgf, hr2, hrn2, hrr2⟩
                  have hm2 := HI5.out.rd.n
                  clear hp3 hr2 hrn2 hrr2
                  go_wp2
                  go_roundw
                  case rel => exact ⟨_, _, _, _, _, HLN⟩
                  case measure => rw [hm2, hmz]; have := HLT.out; omega
            · have k1 : (pcP O != (p : Int)) = true := by simp [hc]
              have HRR := Lib.hid (HL9.out.stop (by rw [HO.out]; exact hc))
              have hij := HL9.out.ij
              clear hc
              go_wp2_with (refine wpList_store_row rfl TX (.tmp 4) (.tmp 34) rfl w.heap.size #[.int .i64 e.k, .int .i64 e.o, .string e.s, .int .i64 e.v, .slice sa sn sc] rfl rfl _ _ HL9.out.rs (by kernel_rfl) rfl (by simp [Value.oneCell']) ?_)
              try simp only [Exit.inBlock, Exit.then]
              have hgf := setRow_heap W9 w.heap.size _ #[.int .i64 e.k, .int .i64 e.o, .string e.s, .int .i64 e.v, .slice sa sn sc] _ _ HL9.out.rs
              have hlast := H0.out.last HL9.out.bu HL9.out.rd (Nat.le_refl _) #[.int .i64 e.k, .int .i64 e.o, .string e.s, .int .i64 e.v, .slice sa sn sc]
              have hka := kaPhRow0 HL9.out.ka #[.int .i64 e.k, .int .i64 e.o, .string e.s, .int .i64 e.v, .slice sa sn sc]
              refine bodyPost_ret (v := exV e (.slice sa sn sc)) ?_ rfl ?_
              · exact ret_x1 Tryd.results49 _ w.heap.size e _ _ hgf rfl
              · rw [HRR.out]
                exact ⟨HL9.out.bu.row (Nat.le_refl _) _, _, _, _, rfl, hka, by rw [show i + (j - i) = j by omega]; exact hlast⟩
        · skip
          obtain ⟨W3, hW3⟩ : ∃ V, W2.alloc (.cells #[.int .i64 0, .int .i64 0] TLo) = V := ⟨_, rfl⟩
          have b3 : Below W2.heap.size W2 W3 := by rw [← hW3]; exact (Below.refl _ _).alloc (Nat.le_refl _) _
          have HE3 : Hid (W3.heap[W2.heap.size]? = some (.cells #[.int .i64 0, .int .i64 0] TLo (0, 0))) := Lib.hid (by rw [← hW3]; exact heapNew _ _)
          have HL3 := Lib.hid (HL2.out.below b3)
          have HGX := Lib.hid (show W2.heap.size ≤ W2.heap.size from HX2.out.size)
          have HX3 := Lib.hid (HX2.out.trans (b3.mono HX2.out.size))
          go_wp2_with fail
          try rw [hW3]
          clear b3 hW3
          refine ⟨HL3.out, ?_⟩
          refine wpAnyH_next (i := 5) rfl (by kernel_rfl) ?_
          have HSG := Lib.hid (sign_any b j m a c ts W3 HL3.out.rd.rd (HL3.out.rd.tk.keep (Nat.le_refl _) (fun _ _ _ => ⟨trivial, rfl⟩)) HL3.out.rd.il HL3.out.rd.ln HL3.out.rd.lc)
          go_wp2_with fail
          refine HSG.out.mono ?_
          rintro x w4 ⟨rfl, b4⟩
          have HL4 := Lib.hid (HL3.out.below b4)
          have HX4 := Lib.hid (HX3.out.trans (b4.mono HX3.out.size))
          have HE4 := Lib.hid ((b4.block _ (ltH HE3.out)).trans HE3.out)
          clear b4
          go_wp2_with fail
          refine ⟨HL4.out, ?_⟩
          refine wpAnyH_read (i := 6) (v := .tuple #[.agg #[.int .i64 o1, .int .i64 o2], .bool fd]) rfl (by kernel_rfl) (by kernel_rfl) (by kernel_rfl) (fun _ _ _ h => h) (by rfl) (by intro V q; have ql := run_lookS (sgT (ts.drop j)) q.rd.mp; rw [HLK.out] at ql; simp only [opV2] at ql; go_simp) HL4.out ?_
          simp only [Act.put, List.setIfInBounds_toArray, List.set_cons_zero, List.set_cons_succ]
          refine wpAnyH_read (i := 7) (v := .tuple #[.agg #[.int .i64 o1, .int .i64 o2], .bool fd]) rfl (by kernel_rfl) (by kernel_rfl) (by kernel_rfl) (fun _ _ _ h => h) (by rfl) (fun _ _ => rfl) HL4.out ?_
          simp only [Act.put, List.setIfInBounds_toArray, List.set_cons_zero, List.set_cons_succ]
          refine wpAnyH_read (i := 8) (v := .agg #[.int .i64 o1, .int .i64 o2]) rfl (by kernel_rfl) (by kernel_rfl) (by kernel_rfl) (fun _ _ _ h => h) (by rfl) (fun _ _ => rfl) HL4.out ?_
          simp only [Act.put, List.setIfInBounds_toArray, List.set_cons_zero, List.set_cons_succ]
          refine wpAnyH_read (i := 9) (v := .bool fd) rfl (by kernel_rfl) (by kernel_rfl) (by kernel_rfl) (fun _ _ _ h => h) (by rfl) (fun _ _ => rfl) HL4.out ?_
          simp only [Act.put, List.setIfInBounds_toArray, List.set_cons_zero, List.set_cons_succ]
          obtain ⟨W9, hW9⟩ : ∃ V, w4.setRow W2.heap.size #[.int .i64 o1, .int .i64 o2] = V := ⟨_, rfl⟩
          have HL9 : Hid (LoI w b m a c ts i p G R f W9 j e sa sn sc) := Lib.hid (by rw [← hW9]; exact HL2.out.below (below_setRow HX4.out HGX.out _))
          have HE9 : Hid (W9.heap[W2.heap.size]? = some (.cells #[.int .i64 o1, .int .i64 o2] TLo (0, 0))) := Lib.hid (by rw [← hW9]; exact setRow_heap _ _ _ _ _ _ HE4.out)
          have HW9 := Lib.hid hW9
          have HG6 := Lib.hid (show W2.heap.size ≤ W2.heap.size from HGX.out)
          refine wpAnyH_next (i := 11) rfl (by kernel_rfl) ?_
          go_wp2_with (refine wpList_store_row rfl TLo (.tmp 6) (.tmp 24) rfl W2.heap.size #[.int .i64 o1, .int .i64 o2] rfl rfl _ _ HE4.out (by kernel_rfl) rfl (by simp [Value.oneCell']) ?_)
          try rw [HW9.out]
          clear hW9
          refine ⟨HL9.out, ?_⟩
          refine wpAnyH_next (i := 12) rfl (by kernel_rfl) ?_
          go_wp2_with fail
          refine ⟨HL9.out, ?_⟩
          refine wpAnyH_done (by kernel_rfl) ?_ _
          obtain ⟨f0, f1⟩ : W9.cell? ⟨W2.heap.size, 0, none⟩ = some (.int .i64 o1) ∧ W9.cell? ⟨W2.heap.size, 1, none⟩ = some (.int .i64 o2) := ⟨(Lib.cell_of_heap HE9.out 0).trans rfl, (Lib.cell_of_heap HE9.out 1).trans rfl⟩
          obtain ⟨d0, d1, d2, d3, d4⟩ := cells5 HL9.out.ce
          rcases lk_cases ((opS_sgT _).trans HO.out) HLK.out with ⟨hO0, hfd⟩ | ⟨hO0, hfd, ho1, ho2⟩
          · subst hfd
            have hc : pcP O ≠ p := by rw [hO0]; have h6 : pcP 0 = 6 := by decide
                                      rw [h6]; omega
            have HRR := Lib.hid (HL9.out.stop (by rw [HO.out]; exact hc))
            have hij := HL9.out.ij
            clear hc
            go_wp2_with (refine wpList_store_row rfl TX (.tmp 4) (.tmp 34) rfl w.heap.size #[.int .i64 e.k, .int .i64 e.o, .string e.s, .int .i64 e.v, .slice sa sn sc] rfl rfl _ _ HL9.out.rs (by kernel_rfl) rfl (by simp [Value.oneCell']) ?_)
            try simp only [Exit.inBlock, Exit.then]
            have hgf := setRow_heap W9 w.heap.size _ #[.int .i64 e.k, .int .i64 e.o, .string e.s, .int .i64 e.v, .slice sa sn sc] _ _ HL9.out.rs
            have hlast := H0.out.last HL9.out.bu HL9.out.rd (Nat.le_refl _) #[.int .i64 e.k, .int .i64 e.o, .string e.s, .int .i64 e.v, .slice sa sn sc]
            have hka := kaPhRow0 HL9.out.ka #[.int .i64 e.k, .int .i64 e.o, .string e.s, .int .i64 e.v, .slice sa sn sc]
            refine bodyPost_ret (v := exV e (.slice sa sn sc)) ?_ rfl ?_
            · exact ret_x1 Tryd.results49 _ w.heap.size e _ _ hgf rfl
            · rw [HRR.out]
              exact ⟨HL9.out.bu.row (Nat.le_refl _) _, _, _, _, rfl, hka, by rw [show i + (j - i) = j by omega]; exact hlast⟩
          · subst hfd
            subst ho1
            subst ho2
            by_cases hc : pcP O = p
            · have k1 : (pcP O != (p : Int)) = false := by simp [hc]
              obtain ⟨g, q, hgf, hq, hqn, hbad, hok3, hokn⟩ := HL9.out.more (by rw [HO.out]; exact hc)
              have HLT := Lib.hid (opN_lt (ts := ts) (j := j) (by rw [HO.out]; exact hO0))
              obtain ⟨X, hX, hIX, hBX, hj40, hfz, hc1⟩ := HL9.out.rd.first HLT.out
              have HG6b := Lib.hid (show W2.heap.size ≠ b by have := HL2.out.rd.lt; have := HG6.out; omega)
              have HF := Lib.hid (hBX.heap HG6b.out HE9.out)
              have HCE := Lib.hid (hBX.heap (k := G) (by have := HBL.out; have := HL9.out.gl; omega) HL9.out.ce)
              have HKX := Lib.hid (kaPh HL9.out.ka hBX (Nat.le_of_lt HBL.out))
              have HRX := Lib.hid (hBX.heap (k := w.heap.size) (by have := HBL.out; omega) HL9.out.rs)
              have HBX := Lib.hid (HL9.out.bu.trans hBX)
              have HIX := Lib.hid hIX
              have HXX := Lib.hid hX
              clear hIX hBX
              go_wp2_with fail
              try rw [HXX.out]
              go_wp2_with fail
              try rw [HXX.out]
              clear hX
              refine wp_region_T (fun V => V.heap[W2.heap.size]? = some (.cells #[.int .i64 O, .int .i64 (pcP O)] TLo (0, 0)) ∧ V.heap[G]? = some (.cells #[.int .i64 e.k, .int .i64 e.o, .string e.s, .int .i64 e.v, .slice sa sn sc] TX (0, 0))) 9 (by kernel_rfl) ?_
              change wpAnyT _ _ _ _ _ _ _ _ _ X.drew
              obtain ⟨XD, hXD⟩ : ∃ V, X.drew = V := ⟨_, rfl⟩
              have bd : Below X.heap.size X XD := by rw [← hXD]; exact (Below.refl _ _).drew
              have hID := HIX.out.below bd
              have HS8 : Hid (XD.heap[W2.heap.size]? = some (.cells #[.int .i64 O, .int .i64 (pcP O)] TLo (0, 0)) ∧ XD.heap[G]? = some (.cells #[.int .i64 e.k, .int .i64 e.o, .string e.s, .int .i64 e.v, .slice sa sn sc] TX (0, 0))) := Lib.hid ⟨(bd.block _ (ltH HF.out)).trans HF.out, (bd.block _ (ltH HCE.out)).trans HCE.out⟩
              have HKD := Lib.hid (KA.carry HKX.out bd)
              have HBD := Lib.hid (HBX.out.trans (But.of bd))
              have HRD := Lib.hid ((bd.block _ (ltH HRX.out)).trans HRX.out)
              have HCALL := Lib.hid ((HH.out g hgf).2 (p + 1) XD b m a c ts (j + 1) (by omega) (by omega) hID (by rw [hq]; exact hqn))
              rw [hq, show ((p + 1 : Nat) : Int) = (p : Int) + 1 by omega] at HCALL
              rw [hXD]
              clear hXD bd hID
              refine wpAnyT_read (i := 0) (v := .pointer (some ⟨W2.heap.size, 0, none⟩)) rfl (by kernel_rfl) (by kernel_rfl) (by kernel_rfl) (by kernel_rfl) (by rfl) (by kernel_rfl) (fun _ _ _ h => h) (by rfl) (fun _ _ => rfl) HS8.out ?_
              simp only [Act.put, List.setIfInBounds_toArray, List.set_cons_zero, List.set_cons_succ]
              refine wpAnyT_read (i := 1) (v := .int .i64 O) rfl (by kernel_rfl) (by kernel_rfl) (by kernel_rfl) (by kernel_rfl) (by rfl) (by kernel_rfl) (fun _ _ _ h => h) (by rfl) (by rintro V ⟨q, _⟩; have q0 : V.cell? ⟨W2.heap.size, 0, none⟩ = some (.int .i64 O) := (Lib.cell_of_heap q 0).trans rfl; go_simp) HS8.out ?_
              simp only [Act.put, List.setIfInBounds_toArray, List.set_cons_zero, List.set_cons_succ]
              refine wpAnyT_read (i := 2) (v := .agg #[.int .i64 e.k, .int .i64 e.o, .string e.s, .int .i64 e.v, .slice sa sn sc]) rfl (by kernel_rfl) (by kernel_rfl) (by kernel_rfl) (by kernel_rfl) (by rfl) (by kernel_rfl) (fun _ _ _ h => h) (by rfl) (by rintro V ⟨_, q⟩; obtain ⟨q0, q1, q2, q3, q4⟩ := cells5 q; go_simp) HS8.out ?_
              simp only [Act.put, List.setIfInBounds_toArray, List.set_cons_zero, List.set_cons_succ]
              refine wpAnyT_read (i := 3) (v := .pointer (some ⟨b, 0, none⟩)) rfl (by kernel_rfl) (by kernel_rfl) (by kernel_rfl) (by kernel_rfl) (by rfl) (by kernel_rfl) (fun _ _ _ h => h) (by rfl) (fun _ _ => rfl) HS8.out ?_
              simp only [Act.put, List.setIfInBounds_toArray, List.set_cons_zero, List.set_cons_succ]
              refine wpAnyT_read (i := 4) (v := .int .i64 (p : Int)) rfl (by kernel_rfl) (by kernel_rfl) (by kernel_rfl) (by kernel_rfl) (by rfl) (by kernel_rfl) (fun _ _ _ h => h) (by rfl) (fun _ _ => rfl) HS8.out ?_
              simp only [Act.put, List.setIfInBounds_toArray, List.set_cons_zero, List.set_cons_succ]
              refine wpAnyT_read (i := 5) (v := .int .i64 ((p : Int) + 1)) rfl (by kernel_rfl) (by kernel_rfl) (by kernel_rfl) (by kernel_rfl) (by rfl) (by kernel_rfl) (fun _ _ _ h => h) (by rfl) (by intro V _; have hwr : IntKind.i64.wrap ((p : Int) + 1) = (p : Int) + 1 := IntWalk.i64_in _ (by omega); go_simp) HS8.out ?_
              simp only [Act.put, List.setIfInBounds_toArray, List.set_cons_zero, List.set_cons_succ]
              refine wpAnyT_next (i := 6) rfl (by kernel_rfl) ?_
              go_wp2_with fail
              refine HCALL.out.mono ?_
              rintro x v3 ⟨hb3, hp3⟩
              have HB3 := Lib.hid (HBD.out.trans hb3)
              have HGb := Lib.hid (show G ≠ b by have := HBL.out; have := HL9.out.gl; omega)
              have HS9 : Hid (v3.heap[W2.heap.size]? = some (.cells #[.int .i64 O, .int .i64 (pcP O)] TLo (0, 0)) ∧ v3.heap[G]? = some (.cells #[.int .i64 e.k, .int .i64 e.o, .string e.s, .int .i64 e.v, .slice sa sn sc] TX (0, 0))) := Lib.hid ⟨hb3.heap HG6b.out HS8.out.1, hb3.heap HGb.out HS8.out.2⟩
              have HK3 := Lib.hid (kaPh HKD.out hb3 (Nat.le_of_lt HBL.out))
              have HR3 := Lib.hid (hb3.heap (k := w.heap.size) (by have := HBL.out; omega) HRD.out)
              have HGX := Lib.hid (ltH HS8.out.2)
              have HSZ := Lib.hid hb3.size
              clear hb3 HCALL
              cases q with
              | out => exact hp3.elim
              | bad n =>
                have HRB := Lib.hid (hbad n rfl)
                have hij := HL9.out.ij
                subst hp3
                go_wp2
                refine ⟨rfl, HB3.out, ?_⟩
                rw [HRB.out]
                show Ending.panicked _ = Ending.panicked _
                rw [show i + (j + 1 + n - i) = j + 1 + n by omega]
                rfl
              | ok x n =>
                obtain ⟨xa, xn, xc, rfl, hkx, hrx⟩ := hp3
                simp only [exV]
                go_wp2_with fail
                refine ⟨fun _ => HS9.out, ?_⟩
                have HKY : Hid (KA (Ph w.heap.size G) v3 x.es (.slice xa xn xc)) := Lib.hid (hkx.mono (fun k _ h2 => by have : XD.heap.size ≤ k := h2; have := HGX.out; have := HL9.out.gl; exact ⟨by omega, by omega⟩))
                have HRX3 := Lib.hid hrx
                obtain ⟨V4, hV4⟩ : ∃ V, v3.alloc (.cells #[.int .i64 e.k, .int .i64 e.o, .string e.s, .int .i64 e.v, .slice sa sn sc, .int .i64 x.k, .int .i64 x.o, .string x.s, .int .i64 x.v, .slice xa xn xc] TX) = V := ⟨_, rfl⟩
                have hb4 : Below v3.heap.size v3 V4 := by rw [← hV4]; exact (Below.refl _ _).alloc (Nat.le_refl _) _
                have hE4 : V4.heap[v3.heap.size]? = some (.cells #[.int .i64 e.k, .int .i64 e.o, .string e.s, .int .i64 e.v, .slice sa sn sc, .int .i64 x.k, .int .i64 x.o, .string x.s, .int .i64 x.v, .slice xa xn xc] TX (0, 0)) := by rw [← hV4]; exact heapNew _ _
                have HKN : Hid (KA (Ph w.heap.size G) V4 [e, x] (.slice (some ⟨v3.heap.size, 0, none⟩) 2 2)) := Lib.hid (ka_both (x := e) (y := x) ⟨by have := HGX.out; have := HSZ.out; have := HL9.out.gl; omega, by have := HGX.out; have := HSZ.out; omega⟩ (KA.carry HK3.out hb4) (KA.carry HKY.out hb4) hE4)
                have HS4 : Hid (V4.heap[W2.heap.size]? = some (.cells #[.int .i64 O, .int .i64 (pcP O)] TLo (0, 0)) ∧ V4.heap[G]? = some (.cells #[.int .i64 e.k, .int .i64 e.o, .string e.s, .int .i64 e.v, .slice sa sn sc] TX (0, 0))) := Lib.hid ⟨(hb4.block _ (ltH HS9.out.1)).trans HS9.out.1, (hb4.block _ (ltH HS9.out.2)).trans HS9.out.2⟩
                have HR4 := Lib.hid ((hb4.block _ (ltH HR3.out)).trans HR3.out)
                have HB4 := Lib.hid (HB3.out.trans (But.of hb4))
                have HI4 := Lib.hid (HRX3.out.below hb4)
                have HV4 := Lib.hid hV4
                refine wpAnyT_next (i := 7) rfl (by kernel_rfl) ?_
                go_wp2_with fail
                try rw [HV4.out]
                clear hkx hrx hb4 hE4 hV4
                refine ⟨fun _ => HS4.out, ?_⟩
                refine wpAnyT_next (i := 8) rfl (by kernel_rfl) ?_
                go_wp2_with fail
                refine ⟨fun _ => HS4.out, ?_⟩
                obtain ⟨V5, hW5⟩ : ∃ V, V4.setRow G #[.int .i64 4, .int .i64 O, .string ⟨#[]⟩, .int .i64 0, .slice (some ⟨v3.heap.size, 0, none⟩) 2 2] = V := ⟨_, rfl⟩
                have HCE5 : Hid (V5.heap[G]? = some (.cells #[.int .i64 4, .int .i64 O, .string ⟨#[]⟩, .int .i64 0, .slice (some ⟨v3.heap.size, 0, none⟩) 2 2] TX (0, 0))) := Lib.hid (by rw [← hW5]; exact setRow_heap _ _ _ _ _ _ HS4.out.2)
                have HKN5 : Hid (KA (Ph w.heap.size G) V5 [e, x] (.slice (some ⟨v3.heap.size, 0, none⟩) 2 2)) := Lib.hid (by rw [← hW5]; exact kaPhRow HKN.out _)
                have hot : ∀ k, k ≠ G → V5.heap[k]? = V4.heap[k]? := fun k hk => by
                  rw [← hW5]
                  simp only [World.setRow, Array.getElem?_modify]
                  rw [if_neg (fun e => hk e.symm)]
                have HR5 := Lib.hid ((hot w.heap.size (by have := HL9.out.gl; omega)).trans HR4.out)
                have HB5 : Hid (But b w V5) := Lib.hid (by rw [← hW5]; exact HB4.out.row (Nat.le_of_lt HL9.out.gl) _)
                have HI5 : Hid (RdI V5 b m a c ts (j + 1 + n)) := Lib.hid (by rw [← hW5]; exact H0.out.last HB4.out HI4.out (Nat.le_of_lt HL9.out.gl) _)
                have HW5 := Lib.hid hW5
                clear hot
                refine wpAnyT_next (i := 9) rfl (by kernel_rfl) ?_
                go_wp2_with (refine wpList_store_row rfl TX (.tmp 5) (.tmp 50) rfl G #[.int .i64 4, .int .i64 O, .string ⟨#[]⟩, .int .i64 0, .slice (some ⟨v3.heap.size, 0, none⟩) 2 2] rfl rfl _ _ HS4.out.2 (by kernel_rfl) rfl (by simp [Value.oneCell']) ?_)
                try rw [HW5.out]
                clear hW5
                refine ⟨by kernel_rfl, ?_⟩
                have hij := HL9.out.ij
                by_cases hp3 : p = 3
                · have k3 : ((p : Int) == 3) = true := by rw [hp3]; rfl
                  have HRR := Lib.hid (hok3 x n rfl hp3)
                  obtain ⟨d0, d1, d2, d3, d4⟩ := cells5 HCE5.out
                  clear hp3
                  go_wp2_with (refine wpList_store_row rfl TX (.tmp 4) (.tmp 53) rfl w.heap.size #[.int .i64 4, .int .i64 O, .string ⟨#[]⟩, .int .i64 0, .slice (some ⟨v3.heap.size, 0, none⟩) 2 2] rfl rfl _ _ HR5.out (by kernel_rfl) rfl (by simp [Value.oneCell']) ?_)
                  try simp only [Exit.inBlock, Exit.then]
                  have hgf := setRow_heap V5 w.heap.size _ #[.int .i64 4, .int .i64 O, .string ⟨#[]⟩, .int .i64 0, .slice (some ⟨v3.heap.size, 0, none⟩) 2 2] _ _ HR5.out
                  have hlast := H0.out.last HB5.out HI5.out (Nat.le_refl _) #[.int .i64 4, .int .i64 O, .string ⟨#[]⟩, .int .i64 0, .slice (some ⟨v3.heap.size, 0, none⟩) 2 2]
                  have hka := kaPhRow0 HKN5.out #[.int .i64 4, .int .i64 O, .string ⟨#[]⟩, .int .i64 0, .slice (some ⟨v3.heap.size, 0, none⟩) 2 2]
                  refine bodyPost_ret (v := exV (bnX O e x) (.slice (some ⟨v3.heap.size, 0, none⟩) 2 2)) ?_ rfl ?_
                  · exact ret_x1 Tryd.results49 _ w.heap.size (bnX O e x) _ _ hgf rfl
                  · rw [HRR.out, HO.out]
                    exact ⟨HB5.out.row (Nat.le_refl _) _, _, _, _, rfl, hka, by rw [show i + (j + 1 + n - i) = j + 1 + n by omega]; exact hlast⟩
                · have k3 : ((p : Int) == 3) = false := by
                    rw [beq_eq_false_iff_ne]; omega
                  obtain ⟨r2, hr2, hrn2, hrr2⟩ := hokn x n rfl hp3
                  rw [HO.out] at hr2
                  have HLN : Hid (LoI w b m a c ts i p G R f V5 (j + 1 + n) (bnX O e x) (some ⟨v3.heap.size, 0, none⟩) 2 2) := Lib.hid ⟨HI5.out, HCE5.out, HKN5.out, HB5.out, HR5.out, HL9.out.gl, by omega, g, r2, hgf, hr2, hrn2, hrr2⟩
                  have hm2 := HI5.out.rd.n
                  clear hp3 hr2 hrn2 hrr2
                  go_wp2
                  go_roundw
                  case rel => exact ⟨_, _, _, _, _, HLN⟩
                  case measure => rw [hm2, hmz]; have := HLT.out; omega
            · have k1 : (pcP O != (p : Int)) = true := by simp [hc]
              have HRR := Lib.hid (HL9.out.stop (by rw [HO.out]; exact hc))
              have hij := HL9.out.ij
              clear hc
              go_wp2_with (refine wpList_store_row rfl TX (.tmp 4) (.tmp 34) rfl w.heap.size #[.int .i64 e.k, .int .i64 e.o, .string e.s, .int .i64 e.v, .slice sa sn sc] rfl rfl _ _ HL9.out.rs (by kernel_rfl) rfl (by simp [Value.oneCell']) ?_)
              try simp only [Exit.inBlock, Exit.then]
              have hgf := setRow_heap W9 w.heap.size _ #[.int .i64 e.k, .int .i64 e.o, .string e.s, .int .i64 e.v, .slice sa sn sc] _ _ HL9.out.rs
              have hlast := H0.out.last HL9.out.bu HL9.out.rd (Nat.le_refl _) #[.int .i64 e.k, .int .i64 e.o, .string e.s, .int .i64 e.v, .slice sa sn sc]
              have hka := kaPhRow0 HL9.out.ka #[.int .i64 e.k, .int .i64 e.o, .string e.s, .int .i64 e.v, .slice sa sn sc]
              refine bodyPost_ret (v := exV e (.slice sa sn sc)) ?_ rfl ?_
              · exact ret_x1 Tryd.results49 _ w.heap.size e _ _ hgf rfl
              · rw [HRR.out]
                exact ⟨HL9.out.bu.row (Nat.le_refl _) _, _, _, _, rfl, hka, by rw [show i + (j - i) = j by omega]; exact hlast⟩
end Go.Proofs.YtdgphhdkeikbaaaDoor
