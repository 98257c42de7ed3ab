/-
  What the program's Names returns.
-/
import Derived.ArgAppend
import Derived.Test.YtdgphhdkeikbaaaGreatDoorExStrs
import Derived.Test.YtdgphhdkeikbaaaGreatDoorExTiny
import Derived.Test.YtdgphhdkeikbaaaGreatDoorExDevA
namespace Go.Proofs.YtdgphhdkeikbaaaGreatDoor
set_option linter.unusedSimpArgs false
set_option linter.unusedVariables false
open Go.RowKit Go.Shelf
attribute [local go_sem] Oper.semAt_some

theorem infoS : (Tryz.prog.info? TS).map (fun i => (i.zero, i.size, i.bytes)) = some (some (.string .empty), 1, 16) := by kernel_rfl
/-- One string more: into the row itself, or a new one. -/
theorem appendS {B n : Nat} {v u : Value} {vs : List Value} {w : World} (h : w.ownsRow B TS 1 v n vs) (hB : B ≤ w.heap.size) (hu : u.oneCell' = true) (ad : Addr) (had : w.cell? ad = some u) (hn : n ≤ 6000) :
    ∃ (v' : Value) (w' : World) (gn : Nat), (Builtin.append_ #[38, 38] 38 #[v, .slice (some ad) 1 1]).run Tryz.prog w = .ok v' w' ∧ w'.ownsRow B TS 1 v' (n + 1) (vs ++ [u]) ∧ v'.ownBlock = some gn ∧
      ((v.ownBlock = some gn ∧ w.grownBy w' (some gn)) ∨ (w.heap.size ≤ gn ∧ w.grownBy w' none)) := by
  obtain ⟨i1, ji, jz0, jz1, jz2⟩ := info_parts infoS
  have hone : ∀ x ∈ [u], x.oneCell' = true := by
    intro x hx
    simp at hx
    subst hx
    exact hu
  have hnews : ∀ (j : Nat) (x : Value), [u][j]? = some x → w.cell? (ad.add j) = some x := by
    intro j x hj
    match j, hj with
    | 0, hj =>
      simp at hj
      subst hj
      have : ad.add 0 = ad := by obtain ⟨a, b, c⟩ := ad; cases c <;> simp [Addr.add]
      rw [this]
      exact had
  have fresh : ∀ (v' : Value) (w' : World), w'.ownsRow w.heap.size TS 1 v' (n + 1) (vs ++ [u]) → ∃ gn, v'.ownBlock = some gn ∧ w.heap.size ≤ gn := by
    intro v' w' ho
    rcases ho.2 with ⟨_, e⟩ | ⟨g', cap', cur', rfl, hBg, _⟩
    · omega
    · exact ⟨g', rfl, hBg⟩
  have h' := h
  rcases h.2 with ⟨rfl, e⟩ | ⟨g, cap, cur, rfl, hBg, hg, k1, k2, k3, k4⟩
  · subst e
    have hvs : vs = [] := by have := h.1; simpa using this
    subst hvs
    obtain ⟨v', w', hrun, ho, hgw, _⟩ := run_append_own (P := Tryz.prog) w w.heap.size 38 38 TS i1 (.string .empty) 1 16 Tryz.underlying38 ji jz0 jz1 jz2 rfl (by decide) (.slice none 0 0) 0 [] (World.ownsRow_nil _ _ _ _) ad 1 1 [u] rfl hnews hone (by unfold maxLen; omega) (by omega) (Nat.le_refl _)
    obtain ⟨gn, e1, e2⟩ := fresh v' w' ho
    exact ⟨v', w', gn, hrun, ownZ_base hB ho, e1, .inr ⟨e2, hgw⟩⟩
  · by_cases hr : n + 1 ≤ cap
    · obtain ⟨v', w', hrun, ho, hgw, _⟩ := run_append_own (P := Tryz.prog) w B 38 38 TS i1 (.string .empty) 1 16 Tryz.underlying38 ji jz0 jz1 jz2 rfl (by decide) _ n vs h' ad 1 1 [u] rfl hnews hone (by unfold maxLen; omega) (by omega) hB
      have hroom := run_append_room_cells (P := Tryz.prog) w 38 38 TS i1 Tryz.underlying38 ji g 0 n cap ad 1 1 [u] (by rw [jz1]; rfl) hnews hone hr (fun j hj => by
        simp at hj
        subst hj
        rw [jz1, Nat.mul_one, Nat.add_zero, Nat.zero_add, Lib.cell_of_heap hg]
        have : n < cur.size := by omega
        simp [this]) (fun j hj => by rw [Lib.frozen_of_heap hg])
      rw [hroom] at hrun
      injection hrun with e1 e2
      refine ⟨v', w', g, ?_, ho, ?_, .inl ⟨rfl, hgw⟩⟩
      · rw [hroom, e1, e2]
      · rw [← e1]
        rfl
    · obtain ⟨v', w', hrun, ho, hgw⟩ := run_append_arg_grows (P := Tryz.prog) w 38 38 TS i1 (.string .empty) 1 16 Tryz.underlying38 ji jz0 jz1 jz2 rfl (by decide) ⟨g, 0, none⟩ n cap vs (by have := h'.1; omega) (fun j x hj => by
        have hlt := (List.getElem?_eq_some_iff.1 hj).1
        have := World.ownsRow.cellAt h' j (by have := h'.1; omega)
        rw [hj] at this
        rw [Go.WideShapes.add_plain, Nat.zero_add]
        exact this) ad 1 1 [u] rfl hnews (by omega) (by unfold maxLen; omega) (by omega)
      obtain ⟨gn, e1, e2⟩ := fresh v' w' ho
      exact ⟨v', w', gn, hrun, ownZ_base hB ho, e1, .inr ⟨e2, hgw⟩⟩


theorem wpListIn_append_run {F : Fence} {n : Nat} {P : Program} (w : World) {ops : Array Oper} {rest : List Oper} {o : Oper} {a : Act} {Q : Exit → Act → World → Prop}
    (hg : o.guard = none) (s x : Operand) (t : TypeId) (hop : o.op = Op.call { callee := Callee.builtin Builtin.append, args := #[s, x], argTypes := #[t, t] })
    (v u v' : Value) (w' : World) (hs : a.eval s = v) (hx : a.eval x = u) (hrun : (Builtin.append_ #[t, t] o.type #[v, u]).run P w = .ok v' w') (hK : wpListIn F n P ops Q rest (a.put o.dst v') w') :
    wpListIn F n P ops Q (o :: rest) a w := by
  refine wpListIn_plain hg fun K hK' => ?_
  unfold Oper.wpIn
  refine ⟨?_, ?_⟩
  · simp [Oper.about, hop, resolve, Target.leads, Sem.run_pure]
  · rw [Oper.semAt_plain F _ _ (by rw [hop]; intro c hc'; cases hc')]
    simp [execOp, hop, resolve, invoke, builtin, hs, hx, hrun, Result.andThen]
    exact hK' _ _ hK
/-- The names among parts. -/
def nmK (ks : List Key) : List (List UInt8) := (ks.filter fun k => decide (k.1 = 2)).map fun k => k.2.2.1.data.toList
theorem nmK_app (a b : List Key) : nmK (a ++ b) = nmK a ++ nmK b := by simp [nmK]
theorem encStr_data (s : ByteArray) : encStr s.data.toList = .string s := by cases s; rfl
/-- What the body of the loop has gathered: a row of strings, behind a box. -/
structure ColS (w : World) (E : Nat) (Φ : Nat → Prop) (ss : List (List UInt8)) (v : Value) (W : World) : Prop where
  below : Below w.heap.size w W
  hE : w.heap.size ≤ E
  e : W.heap[E]? = some (.cells #[v] TSs (0, 0))
  l : OwnS w.heap.size ss v W
  phi : ∀ b, Φ b ↔ (b = E ∨ v.ownBlock = some b)
theorem OwnS.type {B : Nat} {ss : List (List UInt8)} {v : Value} {W : World} (h : OwnS B ss v W) {b : Nat} (hb : v.ownBlock = some b) : ∃ c, W.heap[b]? = some (.cells c TS (0, 0)) := by
  rcases h.2 with ⟨rfl, _⟩ | ⟨g, cap, cur, rfl, _, hg, _⟩
  · cases hb
  · cases hb
    exact ⟨cur, hg⟩
theorem ColS.cells {w W : World} {E : Nat} {Φ : Nat → Prop} {ss : List (List UInt8)} {v : Value} (h : ColS w E Φ ss v W) : ∀ b, Φ b → ∃ c t z, W.heap[b]? = some (.cells c t z) := by
  intro b hb
  rcases (h.phi b).1 hb with rfl | hv
  · exact ⟨_, _, _, h.e⟩
  · obtain ⟨c, hc⟩ := h.l.type hv
    exact ⟨_, _, _, hc⟩
theorem ColS.keep {w A B : World} {E : Nat} {Φ : Nat → Prop} {ss : List (List UInt8)} {v : Value} (h : ColS w E Φ ss v A) (hb : Below w.heap.size A B) (hk : ∀ b, Φ b → B.heap[b]? = A.heap[b]?) : ColS w E Φ ss v B where
  below := h.below.trans hb
  hE := h.hE
  e := (hk E ((h.phi E).2 (.inl rfl))).trans h.e
  l := ownZ_block h.l (fun b hv => hk b ((h.phi b).2 (.inr hv)))
  phi := h.phi
theorem ColS.own {w A B : World} {E B0 : Nat} {Φ : Nat → Prop} {ss : List (List UInt8)} {v : Value} (h : ColS w E Φ ss v A) (k : Ab B0 Φ A B) (hw : w.heap.size ≤ B0) : ColS w E Φ ss v B := by
  refine h.keep ⟨k.os, k.tape, k.output, k.size, fun b hb => ?_⟩ (fun b hb => ?_)
  · have hlt : b < A.heap.size := by have := h.below.size; omega
    obtain ⟨o, ho⟩ : ∃ o, A.heap[b]? = some o := ⟨_, Array.getElem?_eq_getElem hlt⟩
    rw [ho]
    exact k.keep b o ho (.inl (by omega))
  · obtain ⟨c, t, z, hc⟩ := h.cells b hb
    rw [hc]
    exact k.keep b _ hc (.inr hb)
theorem ColS.turn {w A B : World} {E r : Nat} {o : Obj} {Φ : Nat → Prop} {ss : List (List UInt8)} {v : Value} (h : ColS w E Φ ss v A) (hg : A.grownBy B (some r)) (ho : A.heap[r]? = some o) (hc : o.isCells = false) (hr : w.heap.size ≤ r) : ColS w E Φ ss v B := by
  refine h.keep ⟨hg.os, hg.tape, hg.output, hg.size, fun b hb => hg.block b (by have := h.below.size; omega) (by simp; omega)⟩ (fun b hb => ?_)
  obtain ⟨c, t, z, hcc⟩ := h.cells b hb
  refine hg.block b (lt_of_heap hcc) (fun e => ?_)
  cases e
  rw [hcc] at ho
  cases ho
  simp [Obj.isCells] at hc
/-- What Names returns. -/
def nmF (e : Ex) : List (List UInt8) := if ckE e = 0 then Lib.compact (srt (nmK (ppK 1 e))) else []
theorem keepsOthers_grown {A B : World} {row : Option Nat} (hg : A.grownBy B row) (hr : ∀ r, row = some r → ∃ c t z, A.heap[r]? = some (.cells c t z) ∨ A.heap.size ≤ r) : KeepsOthers A B := by
  refine ⟨hg.size, fun k o hk hc => ?_⟩
  rw [hg.block k (lt_of_heap hk) (fun e => by
    obtain ⟨c, t, z, h⟩ := hr k e.symm
    rcases h with h | h
    · rw [h] at hk
      cases hk
      simp [Obj.isCells] at hc
    · have := lt_of_heap hk
      omega)]
  exact hk

set_option maxRecDepth 100000 in
set_option maxHeartbeats 8000000 in
theorem Names_any (e : Ex) (a : Option Addr) (n c : Nat) (w : World) (hK : KX w e (.slice a n c)) (hf : fitE e) :
    Calls Tryz.prog 16 #[exV e (.slice a n c)] w fun x w' => ∃ v, x = .returned v ∧ KS w' v (nmF e) ∧ Below w.heap.size w w' := by
  obtain ⟨w1, hw1⟩ : ∃ X, w.alloc (.cells #[.int .i64 e.k, .int .i64 e.o, .string e.s, .int .i64 e.v, .slice a n c] TX) = X := ⟨_, rfl⟩
  have hb1 : Below w.heap.size w w1 := by rw [← hw1]; exact below_allocW w _
  have hx1 : AtX w1 w.heap.size 0 e (.slice a n c) := by rw [← hw1]; exact boxX w e.k e.o e.s e.v _ e.es
  have HCK := Lib.hid (check_any e (.slice a n c) w1 (hK.carry hb1) hf)
  have HW := Lib.hid hw1
  have HX1 := Lib.hid hx1
  have HB1 := Lib.hid hb1
  have HK := Lib.hid hK
  have HF := Lib.hid hf
  have HS1 : Hid (w1.heap.size = w.heap.size + 1) := Lib.hid (by rw [← hw1]; simp)
  simp only [exV] at HCK ⊢
  clear hw1 hb1 hx1 hK hf
  refine (callsIn_wide (n := 9)).1 ?_
  refine callsIn_of_wp_marks Tryz.func16 rfl trivial ?_ rfl
  simp only [Tryz.ntmps16, List.size_toArray, List.length_cons, List.length_nil, Nat.reduceAdd, Nat.reduceSub, Array.replicate_succ, Array.replicate_zero, List.push_toArray, List.append_toArray, List.nil_append, List.cons_append]
  gi_wp2_with fail
  rw [HW.out]
  refine ⟨trivial, ?_⟩
  refine (callsIn_wide.2 HCK.out).mono ?_
  rintro x w4 ⟨rfl, b4⟩
  have HB4 := Lib.hid (HB1.out.trans (b4.mono HB1.out.size))
  have HX4 := Lib.hid (HX1.out.keep (b4.block _ HX1.out.lt))
  have HS4 : Hid (w.heap.size + 1 ≤ w4.heap.size) := Lib.hid (by have := b4.size; have := HS1.out; omega)
  clear b4 HCK
  by_cases h : ckE e = 0
  · obtain ⟨q1, q2⟩ := ieq h
    have HH := Lib.hid h
    rw [h] at q1 q2 ⊢
    clear h
    obtain ⟨w5, hw5⟩ : ∃ X, w4.alloc (.cells #[.slice none 0 0] TSs) = X := ⟨_, rfl⟩
    have hb5 : Below w4.heap.size w4 w5 := by rw [← hw5]; exact below_allocW w4 _
    have hE5 : w5.heap[w4.heap.size]? = some (.cells #[.slice none 0 0] TSs (0, 0)) := by rw [← hw5]; exact World.alloc_heap_new w4 _
    have HP := Lib.hid (parts_any e (.slice a n c) w5)
    have HW5 := Lib.hid hw5
    obtain ⟨i0, i1, i2, i3, i4⟩ := HX4.out
    simp only [Nat.zero_add] at i1 i2 i3 i4
    have x0 := Lib.cell?_alloc_some (.cells #[.slice none 0 0] TSs (0, 0)) i0
    have x1 := Lib.cell?_alloc_some (.cells #[.slice none 0 0] TSs (0, 0)) i1
    have x2 := Lib.cell?_alloc_some (.cells #[.slice none 0 0] TSs (0, 0)) i2
    have x3 := Lib.cell?_alloc_some (.cells #[.slice none 0 0] TSs (0, 0)) i3
    have x4 := Lib.cell?_alloc_some (.cells #[.slice none 0 0] TSs (0, 0)) i4
    simp only [exV] at HP
    clear hw5 i0 i1 i2 i3 i4
    gi_wp2_with fail
    rw [HW5.out]
    refine ⟨trivial, ?_⟩
    refine (callsIn_wide.2 HP.out).mono ?_
    rintro x w6 ⟨rfl, hw6⟩
    have hs5 : w5.heap.size = w4.heap.size + 1 := by rw [← HW5.out]; simp
    have hb6 : Below w5.heap.size w5 w6 := by rw [hw6]; exact (Below.refl _ _).alloc (Nat.le_refl _) _
    have hs6 : w6.heap.size = w4.heap.size + 2 := by rw [hw6]; simp [hs5]
    have hE6 : w6.heap[w4.heap.size]? = some (.cells #[.slice none 0 0] TSs (0, 0)) := (hb6.block _ (by omega)).trans hE5
    have hX : AtX w6 (w4.heap.size + 1) 0 e (.slice a n c) := by rw [hw6, ← hs5]; exact boxX w5 e.k e.o e.s e.v _ e.es
    have hbw : Below w.heap.size w w6 := (HB4.out.trans (hb5.mono HB4.out.size)).trans (hb6.mono (by have := HS4.out; omega))
    have hK2 : KA (fun b => b < w.heap.size) w6 e.es (.slice a n c) := KA.keep HK.out hbw.size (fun b h1 _ => ⟨h1, hbw.block b h1⟩)
    have HI0 : Hid (∃ v, ColS w w4.heap.size (fun b => b = w4.heap.size ∨ (Value.slice none 0 0).ownBlock = some b) (nmK (([] : List Pt).map Pt.key)) v w6) := Lib.hid ⟨.slice none 0 0, hbw, by have := HS4.out; omega, hE6, OwnS.nil _ _, fun b => Iff.rfl⟩
    have HLOW : Hid (∀ b, (b = w4.heap.size ∨ (Value.slice none 0 0).ownBlock = some b) → w.heap.size ≤ b) := Lib.hid (fun b hb => by
      rcases hb with rfl | hb
      · have := HS4.out; omega
      · simp [Value.ownBlock] at hb)
    have HX := Lib.hid hX
    have HK2 := Lib.hid hK2
    have HS6 := Lib.hid hs6
    rw [hs5]
    clear hE5 hE6 hX hK2 hbw hb5 hb6 hw6 hs5 hs6 x0 x1 x2 x3 x4 HP
    gi_wp2_with fail
    refine wpIn_range_pt (w := w6) (gf := 70) (lb := #[ptrV (w4.heap.size + 1)]) (X := fun xs => xs.map Pt.key = (ppK 1 e).take 101) rfl (enters_of Tryz.func70 (by kernel_rfl) rfl)
      (fun b => b = w4.heap.size ∨ (Value.slice none 0 0).ownBlock = some b) (fun Φ pre W => ∃ v, ColS w w4.heap.size Φ (nmK (pre.map Pt.key)) v W)
      (fun Φ pre A B h k => by obtain ⟨v, h⟩ := h; exact ⟨v, h.own k (by have := HS4.out; have := HS6.out; omega)⟩) (fun Φ pre A B r o h hg ho hc hr => by obtain ⟨v, h⟩ := h; exact ⟨v, h.turn hg ho hc (by have := HS4.out; have := HS6.out; omega)⟩) (fun Φ pre A h => by obtain ⟨v, h⟩ := h; exact h.cells) HI0.out
      (fun J W1 hC g1 s1 hJ => (iter_any hC e (.slice a n c) _ W1 (HX.out.keep (g1.block _ HX.out.lt (by simp))) (HK2.out.keep g1.size (fun b h1 h2 => ⟨h2, g1.block b h1 (by simp)⟩)) HF.out hJ HLOW.out (by have := HS4.out; have := HS6.out; omega) (by have := HS6.out; omega)).mono (fun e' W' h => h))
      (fun x m => { tmps := #[.agg #[.int .i64 e.k, .int .i64 e.o, .string e.s, .int .i64 e.v, .slice a n c], .pointer (some ⟨w.heap.size, 0, none⟩), .slice none 0 0, .pointer (some ⟨w4.heap.size, 0, none⟩), .pointer (some ⟨m, 0, none⟩), .agg #[.int .i64 e.k, .int .i64 e.o, .string e.s, .int .i64 e.v, .slice a n c], .int .i64 0, .bool false, .agg #[.int .i64 e.k, .int .i64 e.o, .string e.s, .int .i64 e.v, .slice a n c], .func (.func 70) #[] #[ptrV (w4.heap.size + 1)], .agg #[.int .i64 x.k, .int .i64 x.o, .string x.s, .int .i64 x.v, .slice x.a x.n x.c], .int .i64 (x.d : Int), undef, undef, undef, undef, undef, undef, undef, undef, undef, undef, undef, undef], defers := [] })
      (fun x W => W.alloc (.cells #[.int .i64 x.k, .int .i64 x.o, .string x.s, .int .i64 x.v, .slice x.a x.n x.c] TX))
      (fun x m W => W.heap[m]? = some (.cells #[.int .i64 x.k, .int .i64 x.o, .string x.s, .int .i64 x.v, .slice x.a x.n x.c] TX)) (fun x W => (Below.refl _ _).alloc (Nat.le_refl _) _) (fun x W => World.alloc_heap_new W _)
      (fun x m A B r o h hg ho hc => (hg.block _ (lt_of_heap h) (fun e => by cases e; rw [h] at ho; cases ho; simp [Obj.isCells] at hc)).trans h) ?assign ?body ?done
    case assign =>
      intro l x W K hK
      unfold ptV
      gi_wp2
      exact hK
    case body =>
      intro l Φ pre x M m W hI hbp hM hsz hlen
      obtain ⟨v, hI⟩ := hI
      obtain ⟨b0, b1, b2, b3, b4⟩ : AtX W m 0 (.mk x.k x.o x.s x.v []) (.slice x.a x.n x.c) := by refine ⟨?_, ?_, ?_, ?_, ?_⟩ <;> simp [World.cell?, hbp, Ex.k, Ex.o, Ex.s, Ex.v]
      simp only [Ex.k, Ex.o, Ex.s, Ex.v, Nat.zero_add] at b0 b1 b2 b3 b4
      by_cases hk : x.k = 2
      · obtain ⟨z1, z2⟩ := ieq hk
        have HN : Hid (nmK ((pre ++ [x]).map Pt.key) = nmK (pre.map Pt.key) ++ [x.s.data.toList]) := Lib.hid (by rw [List.map_append, nmK_app]; simp [nmK, Pt.key, hk])
        obtain ⟨S, hS⟩ : ∃ S, nmK (pre.map Pt.key) = S := ⟨_, rfl⟩
        rw [hS] at hI HN
        have hSl : S.length ≤ 101 := by
          rw [← hS]
          unfold nmK
          rw [List.length_map]
          have := List.length_filter_le (fun k : Key => decide (k.1 = 2)) (pre.map Pt.key)
          rw [List.length_map] at this
          omega
        have hE := hI.e
        have cE := box_cell hE
        have fE : W.frozen? ⟨w4.heap.size, 0, none⟩ = false := by rw [Lib.frozen_of_heap hE]
        obtain ⟨va, vc, hva, _, _⟩ := ownZ_slice hI.l
        obtain ⟨vn, hvn⟩ : ∃ q, S.length = q := ⟨_, rfl⟩
        rw [hvn] at hva
        subst hva
        have HIe := Lib.hid hI
        obtain ⟨W2, hW2⟩ : ∃ X, W.alloc (.cells #[.string x.s] TS) = X := ⟨_, rfl⟩
        have gA : W.grownBy W2 none := by rw [← hW2]; exact World.grownBy_alloc W _ none
        have hs2 : W2.heap.size = W.heap.size + 1 := by rw [← hW2]; simp
        have had : W2.cell? ⟨W.heap.size, 0, none⟩ = some (.string x.s) := by rw [← hW2, Lib.cell_of_heap (World.alloc_heap_new W _)]; rfl
        have hO2 : W2.ownsRow w.heap.size TS 1 (.slice va vn vc) S.length (S.map encStr) := World.ownsRow.kept (show W.ownsRow w.heap.size TS 1 (.slice va vn vc) S.length (S.map encStr) from hI.l) gA (by cases (Value.slice va vn vc).ownBlock <;> simp)
        obtain ⟨v', W3, gn, hrun, ho', hv', hgn⟩ := appendS hO2 (by have := hI.below.size; omega) rfl ⟨W.heap.size, 0, none⟩ had (by omega)
        have hEl := lt_of_heap hE
        have hgnE : gn ≠ w4.heap.size := by
          rintro rfl
          rcases hgn with ⟨h1, _⟩ | ⟨h1, _⟩
          · obtain ⟨cc, hcc⟩ := hI.l.type h1
            rw [hE] at hcc
            injection hcc with hcc
            injection hcc with _ hcc _
            exact absurd hcc (by decide)
          · omega
        have hgnr : ∃ row, W2.grownBy W3 row ∧ ∀ r, row = some r → r = gn := by
          rcases hgn with ⟨_, h2⟩ | ⟨_, h2⟩
          · exact ⟨_, h2, fun r e => by cases e; rfl⟩
          · exact ⟨_, h2, fun r e => by cases e⟩
        obtain ⟨row, gB, hrow⟩ := hgnr
        have hE3 : W3.heap[w4.heap.size]? = some (.cells #[.slice va vn vc] TSs (0, 0)) := (gB.block _ (by omega) (fun e => hgnE (hrow _ e.symm).symm)).trans ((gA.block _ hEl (by simp)).trans hE)
        have cE3 : W3.cell? ⟨w4.heap.size, 0, none⟩ = some (.slice va vn vc) := box_cell hE3
        have fE3 : W3.frozen? ⟨w4.heap.size, 0, none⟩ = false := by rw [Lib.frozen_of_heap hE3]
        obtain ⟨hEc, gC⟩ := setBox (v := v') hE3
        obtain ⟨ua, uc, hua, _, _⟩ := ownZ_slice ho'
        obtain ⟨Wc, hWc⟩ : ∃ X, W3.setCell ⟨w4.heap.size, 0, none⟩ v' = X := ⟨_, rfl⟩
        rw [hWc] at hEc gC
        have kk : ∀ b, b < W.heap.size → b ≠ gn → b ≠ w4.heap.size → Wc.heap[b]? = W.heap[b]? := fun b h1 h2 h3 => (gC.block b (by have := gB.size; omega) (by simp; omega)).trans ((gB.block b (by omega) (fun e => h2 (hrow _ e.symm))).trans (gA.block b h1 (by simp)))
        have hsz2 : W.heap.size ≤ Wc.heap.size := by have := gC.size; have := gB.size; omega
        have hgnPhi : gn < W.heap.size → Φ gn := fun hlt => by
          rcases hgn with ⟨h1, _⟩ | ⟨h1, _⟩
          · exact (hI.phi gn).2 (.inr h1)
          · omega
        have hEPhi : Φ w4.heap.size := (hI.phi _).2 (.inl rfl)
        have hgw : w.heap.size ≤ gn := (World.ownsRow.lt ho' gn hv').1
        have hOc : OwnS w.heap.size (S ++ [x.s.data.toList]) v' Wc := by
          have h1 : W3.ownsRow w.heap.size TS 1 v' (S ++ [x.s.data.toList]).length ((S ++ [x.s.data.toList]).map encStr) := by
            rw [List.length_append, List.map_append]
            simp only [List.length_cons, List.length_nil, Nat.zero_add, List.map_cons, List.map_nil]
            rw [encStr_data]
            exact ho'
          exact ownZ_block h1 (fun b hb => by
            rw [hv'] at hb
            cases hb
            exact gC.block gn (World.ownsRow.lt ho' gn hv').2 (by simpa using hgnE))
        have HI2 : Hid (ColS w w4.heap.size (fun b => b = w4.heap.size ∨ v'.ownBlock = some b) (S ++ [x.s.data.toList]) v' Wc) := Lib.hid {
          below := hI.below.trans ⟨gC.os.trans (gB.os.trans gA.os), gC.tape.trans (gB.tape.trans gA.tape), gC.output.trans (gB.output.trans gA.output), hsz2, fun b hb => kk b (by have := hI.below.size; omega) (by omega) (by have := hI.hE; omega)⟩
          hE := hI.hE
          e := hEc
          l := hOc
          phi := fun b => Iff.rfl }
        have HFr : Hid (Fr (w6.heap.size + 2) M Φ (fun b => b = w4.heap.size ∨ v'.ownBlock = some b) none W Wc) := Lib.hid ⟨gC.os.trans (gB.os.trans gA.os), gC.tape.trans (gB.tape.trans gA.tape), gC.output.trans (gB.output.trans gA.output), hsz2, fun b o hbM hb hn _ _ => (kk b (lt_of_heap hb) (fun e => by
          subst e
          exact hn (hgnPhi (lt_of_heap hb))) (fun e => by
          subst e
          exact hn hEPhi)).trans hb, fun b hb => by
          rcases hb with rfl | hb
          · exact .inl hEPhi
          · rw [hv'] at hb
            cases hb
            by_cases hlt : gn < W.heap.size
            · exact .inl (hgnPhi hlt)
            · exact .inr (by omega)⟩
        have HKO : Hid (KeepsOthers W Wc) := Lib.hid ⟨hsz2, fun k o hk hc => by
          refine (kk k (lt_of_heap hk) (fun e => ?_) (fun e => ?_)).trans hk
          · subst e
            rcases hgn with ⟨h1, _⟩ | ⟨h1, _⟩
            · obtain ⟨cc, hcc⟩ := hI.l.type h1
              rw [hk] at hcc
              cases hcc
              simp [Obj.isCells] at hc
            · have := lt_of_heap hk
              omega
          · subst e
            rw [hE] at hk
            cases hk
            simp [Obj.isCells] at hc⟩
        have HWc := Lib.hid hWc
        have HW2 := Lib.hid hW2
        rw [← hW2] at hrun
        have HRUN := Lib.hid hrun
        subst hua
        clear hrun hI hS hSl hE hEc gC gB gA ho' hO2 hE3 hgn hrow kk hsz2 hgnPhi hEPhi hgw hOc hWc hW2 had hs2 hbp hk hEl hv' hvn
        gi_wp2_with (gi_at_builtin; refine wpListIn_append_run _ rfl _ _ 38 rfl _ _ _ _ rfl rfl HRUN.out ?_)
        rw [HWc.out]
        exact ⟨HKO.out, _, HFr.out, _, by rw [HN.out]; exact HI2.out⟩
      · obtain ⟨z1, z2⟩ := ine hk
        have HN : Hid (nmK ((pre ++ [x]).map Pt.key) = nmK (pre.map Pt.key)) := Lib.hid (by rw [List.map_append, nmK_app]; simp [nmK, Pt.key, hk])
        have HI := Lib.hid hI
        clear hI hk hbp
        gi_wp2
        exact ⟨KeepsOthers.refl _, Φ, ⟨rfl, rfl, rfl, Nat.le_refl _, fun b o _ hb _ _ _ => hb, fun b hb => .inl hb⟩, v, by rw [HN.out]; exact HI.out⟩
    case done =>
      intro D Φ xs W hD hX hI hK
      obtain ⟨v, hI⟩ := hI
      have hsz := (ckE_ok.1 HH.out).1
      have hks : xs.map Pt.key = ppK 1 e := by rw [hX, List.take_of_length_le (by rw [ppK_length]; omega)]
      rw [hks] at hI
      obtain ⟨S, hS⟩ : ∃ S, nmK (ppK 1 e) = S := ⟨_, rfl⟩
      have hSl : S.length ≤ 100 := by
        rw [← hS]
        unfold nmK
        rw [List.length_map]
        have := List.length_filter_le (fun k : Key => decide (k.1 = 2)) (ppK 1 e)
        rw [ppK_length] at this
        omega
      have HNF : Hid (nmF e = Lib.compact (srt S)) := Lib.hid (by unfold nmF; rw [if_pos HH.out, hS])
      rw [hS] at hI
      have hE := hI.e
      obtain ⟨va, vc, hva, _, _⟩ := ownZ_slice hI.l
      obtain ⟨vn, hvn⟩ : ∃ q, S.length = q := ⟨_, rfl⟩
      rw [hvn] at hva
      subst hva
      have cE := box_cell hE
      have hneE : (Value.slice va vn vc).ownBlock ≠ some w4.heap.size := fun e => by
        obtain ⟨cc, hcc⟩ := hI.l.type e
        rw [hE] at hcc
        injection hcc with hcc
        injection hcc with _ hcc _
        exact absurd hcc (by decide)
      have hneD : (Value.slice va vn vc).ownBlock ≠ some D := fun e => by
        obtain ⟨cc, hcc⟩ := hI.l.type e
        rw [hK] at hcc
        cases hcc
      have HSO := Lib.hid (sortS_any w.heap.size _ S W hI.l (by omega) hI.below.size)
      have HI := Lib.hid hI
      have HK3 := Lib.hid hK
      have HNE := Lib.hid hneE
      have HND := Lib.hid hneD
      have HSL := Lib.hid hSl
      clear hI hX hks hS hE hK hneE hneD hsz hSl hvn
      gi_wp2_with fail
      refine ⟨trivial, ?_⟩
      refine (callsIn_wide.2 HSO.out).mono ?_
      rintro x w7 ⟨rfl, ho7, g7, b7⟩
      have hE7 := (g7.block _ (lt_of_heap HI.out.e) (fun e => HNE.out e.symm)).trans HI.out.e
      have HD7 := Lib.hid ((g7.block _ (lt_of_heap HK3.out) (fun e => HND.out e.symm)).trans HK3.out)
      have HB7 := Lib.hid (HI.out.below.trans b7)
      have cE7 := box_cell hE7
      have HO7 := Lib.hid ho7
      have HCO := Lib.hid (compactS_any w.heap.size _ (srt S) w7 ho7 (by rw [srt_len]; have := HSL.out; omega) HB7.out.size)
      clear hE7 ho7 g7 b7 cE HSO
      gi_wp2_with fail
      refine ⟨trivial, ?_⟩
      refine (callsIn_wide.2 HCO.out).mono ?_
      rintro x w8 ⟨v8, rfl, ho8, g8, b8⟩
      have HD8 := Lib.hid ((g8.block _ (lt_of_heap HD7.out) (fun e => HND.out e.symm)).trans HD7.out)
      have HB8 := Lib.hid (HB7.out.trans b8)
      have HO8 := Lib.hid ho8
      clear ho8 g8 b8 cE7
      gi_wp2
      refine ⟨by simp, .inl ⟨_, _, rfl, run_takeDeferred HD8.out, ?_⟩⟩
      have gD := grownBy_putObj' w8 D (.deferred none)
      have hOD : OwnS w.heap.size (Lib.compact (srt S)) v8 (w8.putObj D (.deferred none)) := World.ownsRow.kept (show w8.ownsRow w.heap.size TS 1 v8 _ _ from HO8.out) gD (.inr (fun e1 => by
        obtain ⟨cc, hcc⟩ := HO8.out.type e1
        rw [HD8.out] at hcc
        cases hcc))
      exact ⟨_, results_tmp rfl _ _ _, v8, rfl, by rw [HNF.out]; exact hOD.ks, HB8.out.trans ((Below.refl _ w8).grown gD HB8.out.size (fun k e => by cases e; have := HS4.out; have := HS6.out; omega))⟩
  · obtain ⟨q1, q2⟩ := ine h
    have HE : Hid (nmF e = []) := Lib.hid (by unfold nmF; rw [if_neg h])
    clear h
    gi_wp2
    exact ⟨_, results_tmp rfl _ _ _, .slice none 0 0, rfl, by rw [HE.out]; exact ⟨none, 0, rfl, Nat.le_refl _, by decide, fun j hj => by simp at hj⟩, HB4.out⟩

end Go.Proofs.YtdgphhdkeikbaaaGreatDoor
