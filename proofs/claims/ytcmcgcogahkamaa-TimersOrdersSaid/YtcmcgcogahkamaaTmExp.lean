/-
  What the program's Expire of timers returns.
-/
import Derived.RangeFuncBox
import Derived.Test.YtcmcgcogahkamaaTmDue
namespace Go.Proofs.Ytcmcgcogahkamaa
open Go.RowKit Go.Shelf
attribute [local go_sem] Oper.semAt_some

/-- A call that returns two lists of timers in blocks of its own. -/
def RetTT (xs ys : List Tm) (w : World) (e : Ending) (w' : World) : Prop := ∃ u v, e = .returned (.tuple #[u, v]) ∧ FtC w.heap.size w' u xs ∧ FtC w.heap.size w' v ys ∧ Below w.heap.size w w'

theorem restT (φ : Nat → Prop) (i : Nat) (ad : Option Addr) (cap : Nat) (ts : List Tm) (W : World) (hA : TmA φ W ad ts) (hcap : ts.length ≤ cap) (hi : i ≤ ts.length) :
    ∃ (ao : Option Addr) (c2 : Nat), TmA φ W ao (ts.drop i) ∧ ts.length - i ≤ c2 ∧ c2 ≤ cap ∧ ∀ w, (Instr.slice 22 (.slice ad ts.length cap) (some (.int .i64 (i : Int))) none none).run Try.prog w = .ok (.slice ao (ts.length - i) c2) w := by
  refine ⟨if cap = i then ad else ad.map (·.add (i * 3)), cap - i, fun j hj => ?_, by omega, by omega, fun w => ?_⟩
  · simp only [List.length_drop] at hj
    obtain ⟨b, off, rfl, hp, hb, h⟩ := hA.some_ (by omega)
    obtain ⟨h1, h2, h3⟩ := h (i + j) (by omega)
    rw [gt_drop]
    refine ⟨b, off + i * 3, by rw [if_neg (by omega)]; simp [Addr.add], hp, hb, ?_, ?_, ?_⟩
    · rw [show off + i * 3 + j * 3 = off + (i + j) * 3 by omega, h1]
    · rw [show off + i * 3 + j * 3 + 1 = off + (i + j) * 3 + 1 by omega, h2]
    · rw [show off + i * 3 + j * 3 + 2 = off + (i + j) * 3 + 2 by omega, h3]
  · rw [run_slice_l w 22 ad ts.length cap (by kernel_rfl) .i64 (i : Int) (by omega) (by omega)]
    have hz : (sizeOf (Try.prog.elem 22)).run Try.prog w = .ok 3 w := by kernel_rfl
    rw [hz]
    simp [Result.andThen, sliced]
theorem TmP.putD {φ : Nat → Prop} {w : World} {v : Value} {ts : List Tm} (h : TmP φ w v ts) {D : Nat} {x : Option (List Deferred)} (hD : w.heap[D]? = some (.deferred x)) (o : Obj) : TmP φ (w.putObj D o) v ts := by
  obtain ⟨a, c, e, h1, h2, h3⟩ := h
  refine ⟨a, c, e, h1, h2, fun j hj => ?_⟩
  obtain ⟨b, off, e1, e2, e3, e4, e5, e6⟩ := h3 j hj
  have hne : b ≠ D := by
    rintro rfl
    simp [World.cell?, hD] at e4
  have hb : (w.putObj D o).heap[b]? = w.heap[b]? := World.putObj_heap_other hne
  exact ⟨b, off, e1, e2, by simpa using e3, (World.cell?_of_block (a := ⟨b, off + j * 3, none⟩) hb).trans e4, (World.cell?_of_block (a := ⟨b, off + j * 3 + 1, none⟩) hb).trans e5, (World.cell?_of_block (a := ⟨b, off + j * 3 + 2, none⟩) hb).trans e6⟩
theorem newCellT (w : World) (t : Tm) : ∀ (j : Nat) (u : Value), (encT t)[j]? = some u → (w.alloc (.cells #[.int .i64 t.1, .int .i64 t.2.1, .int .i64 t.2.2] TT)).cell? ((⟨w.heap.size, 0, none⟩ : Addr).add j) = some u := by
  intro j u hj
  rw [Addr.add_lit, Lib.cell_of_heap (World.alloc_heap_new w _)]
  match j, hj with
  | 0, hj => simpa [encT] using hj
  | 1, hj => simpa [encT] using hj
  | 2, hj => simpa [encT] using hj

set_option maxRecDepth 100000 in
set_option maxHeartbeats 4000000 in
/-- Expire of a queue. -/
theorem exp_ok (ad : Option Addr) (cap : Nat) (ts : List Tm) (now : Int) (w : World) (hA : LowT w.heap.size w ad ts) (hl : ts.length ≤ 1000) (hcap : ts.length ≤ cap) (hcm : cap ≤ 9223372036854775807) (hc : chkE ts = 0) :
    Calls Try.prog 22 #[.slice ad ts.length cap, .int .i64 now] w (RetTT (ts.take (dueN ts now)) (ts.drop (dueN ts now)) w) := by
  have hCK := tCheck_any _ ad cap ts w hA hl hcap
  rw [hc] at hCK
  have HCK := Lib.hid hCK
  have HA := Lib.hid hA
  clear hCK hA hc
  refine (callsIn_wide (n := 9)).1 ?_
  refine callsIn_of_wp_marks Try.func22 rfl trivial ?_ rfl
  simp only [Try.ntmps22, List.size_toArray, List.length_cons, List.length_nil, Nat.reduceAdd, Nat.reduceSub, Array.replicate_succ, Array.replicate_zero, List.push_toArray, List.append_toArray, List.nil_append, List.cons_append]
  gi_wp2_with fail
  refine ⟨trivial, ?_⟩
  refine (callsIn_wide.2 HCK.out).mono ?_
  rintro e w1 ⟨rfl, b1⟩
  have HB1 := Lib.hid b1
  clear b1
  gi_wp2_with (refine ⟨trivial, ?_⟩; gi_at_call 49; refine (callsIn_wide.2 (due_any ad ts.length cap now _)).mono ?_; rintro e w' ⟨rfl, rfl⟩)
  obtain ⟨i3, ki, kz0, kz1, kz2⟩ := info_parts infoT
  have hsz1 := HB1.out.size
  have hbE := ((Boxed.new w1 22 (.slice none 0 0)).alloc (.cells #[.slice ad ts.length cap] 22)).alloc (.cells #[.int .i64 now] 3)
  have hbL := (Boxed.new (w1.alloc (.cells #[.slice none 0 0] 22)) 22 (.slice ad ts.length cap)).alloc (.cells #[.int .i64 now] 3)
  have hbN := Boxed.new ((w1.alloc (.cells #[.slice none 0 0] 22)).alloc (.cells #[.slice ad ts.length cap] 22)) 3 (.int .i64 now)
  simp only [World.size_alloc] at hbL hbN
  have hbw : Below w.heap.size w (((w1.alloc (.cells #[.slice none 0 0] 22)).alloc (.cells #[.slice ad ts.length cap] 22)).alloc (.cells #[.int .i64 now] 3)) := ((HB1.out.alloc hsz1 _).alloc (by simp; omega) _).alloc (by simp; omega) _
  have hszw : (((w1.alloc (.cells #[.slice none 0 0] 22)).alloc (.cells #[.slice ad ts.length cap] 22)).alloc (.cells #[.int .i64 now] 3)).heap.size = w1.heap.size + 3 := by simp
  obtain ⟨W0, hW0⟩ : ∃ W0, (((w1.alloc (.cells #[.slice none 0 0] 22)).alloc (.cells #[.slice ad ts.length cap] 22)).alloc (.cells #[.int .i64 now] 3)) = W0 := ⟨_, rfl⟩
  rw [hW0] at hbE hbL hbN hbw hszw ⊢
  clear hW0
  refine wpIn_rangeFunc_ownH (w0 := W0) rfl (by omega) (gf := 62) (lb := #[.pointer (some ⟨w1.heap.size + 1, 0, none⟩), .pointer (some ⟨w1.heap.size + 1 + 1, 0, none⟩)]) rfl trivial (enters_of Try.func62 (by kernel_rfl) rfl)
    (due_stops (9 - 1) (by omega) w.heap.size (w1.heap.size + 1) (w1.heap.size + 1 + 1) ad cap ts now hl W0 hbL hbN (HA.out.below hbw) hbw.size)
    (fun h k => ⟨h.1.trans k.1, k.2.trans h.2⟩) (fun W l o o' hl h h1 h2 => ⟨belowK_b (w := W0) hbw.size W l o o' hl h h1 h2, World.putObj_heap_other (by omega)⟩) (Below.refl _ _) (fun _ => rfl)
    (fun pre W => ((∃ v, Boxed W w1.heap.size 22 v ∧ W.ownsRow w.heap.size TT 3 v pre.length (tmV pre) ∧ True) ∧ Boxed W (w1.heap.size + 1 + 1) 3 (.int .i64 now)) ∧ Below w.heap.size w W)
    (fun _ _ _ => False)
    (OwnFrom.and (OwnFrom.and (Own.from (holdsRow_own w.heap.size w1.heap.size 22 TT 3 (fun pre : List Tm => pre.length) (fun pre => tmV pre) (fun _ _ => True)) _) (Own.from (boxed_own _ _ _) _)) (ownFrom_below (Nat.le_refl _) hbw.size))
    (fun _ _ _ _ _ hs _ _ => hs)
    ⟨⟨⟨_, hbE, World.ownsRow_nil _ _ _ _, trivial⟩, hbN⟩, hbw⟩
    (fun x a' W => ∃ Bx, W.heap[Bx]? = some (.cells #[.int .i64 x.1, .int .i64 x.2.1, .int .i64 x.2.2] TT (0, 0)) ∧ a' = { tmps := #[.slice ad ts.length cap, .int .i64 now, undef, undef, .slice none 0 0, .slice none 0 0, .pointer (some ⟨w1.heap.size, 0, none⟩), .pointer (some ⟨Bx, 0, none⟩), .slice ad ts.length cap, .int .i64 0, .bool false, .slice ad ts.length cap, .int .i64 now, .func (.func 62) #[] #[.pointer (some ⟨w1.heap.size + 1, 0, none⟩), .pointer (some ⟨w1.heap.size + 1 + 1, 0, none⟩)], .agg #[.int .i64 x.1, .int .i64 x.2.1, .int .i64 x.2.2], undef, undef, undef, undef, undef, undef, undef, undef, undef, undef], defers := [] })
    (fun x a' _ X Y row hs hg hr => by
      obtain ⟨Bx, h1, h2⟩ := hs
      refine ⟨Bx, (hg.block Bx (Array.getElem?_eq_some_iff.1 h1).1 (fun e => ?_)).trans h1, h2⟩
      obtain ⟨_, o, ho, hc⟩ := hr Bx e.symm
      rw [h1] at ho
      cases ho
      cases hc)
    ?assign ?body ?done ?stop
  case assign =>
    rintro l pre x W K ⟨⟨⟨v, hv, hr, _⟩, hbN1⟩, hB⟩ hK
    gi_wp2
    exact hK _ _ ((KeepsOthers.alloc _ _).from _) ⟨(Below.refl _ W).alloc hB.size _, Below.heap_alloc _ _ _ hbN1.lt⟩ ⟨⟨⟨v, hv.alloc _, hr.alloc _, trivial⟩, hbN1.alloc _⟩, hB.alloc hB.size _⟩ ⟨W.heap.size, World.alloc_heap_new W _, rfl⟩
  case body =>
    rintro l pre x a' W hl' ⟨r, hr0⟩ ⟨⟨⟨v, hv, hr, _⟩, hbN1⟩, hB⟩ ⟨Bx, hbx, rfl⟩ hlt
    obtain ⟨x0, x1, x2⟩ := x
    dsimp only at hbx ⊢
    have c0 : W.cell? ⟨Bx, 0, none⟩ = some (.int .i64 x0) := by rw [Lib.cell_of_heap hbx]; rfl
    have c1 : W.cell? ⟨Bx, 1, none⟩ = some (.int .i64 x1) := by rw [Lib.cell_of_heap hbx]; rfl
    have c2 : W.cell? ⟨Bx, 2, none⟩ = some (.int .i64 x2) := by rw [Lib.cell_of_heap hbx]; rfl
    have c3 := hv.cell
    have HNC := Lib.hid (newCellT W (x0, x1, x2))
    have HR := Lib.hid hr
    have HV := Lib.hid hv
    have HN := Lib.hid hbN1
    have HBW := Lib.hid hB
    have HKN : Hid (∀ w4, (W.alloc (.cells #[.int .i64 x0, .int .i64 x1, .int .i64 x2] TT)).grownBy w4 v.ownBlock → Boxed w4 (w1.heap.size + 1 + 1) 3 (.int .i64 now)) := Lib.hid (fun w4 hg => (hbN1.alloc _).kept hg (hbN1.not_row (by decide) hr))
    have HL : Hid ((pre ++ [(x0, x1, x2)]).length = pre.length + 1) := Lib.hid (by simp)
    have HT : Hid (tmV pre ++ encT (x0, x1, x2) = tmV (pre ++ [(x0, x1, x2)])) := Lib.hid (tmV_snoc _ _).symm
    clear hr hv hbN1 hB hr0 hbx
    gi_wp2_with (gi_at_builtin; refine wpListIn_append_own _ rfl _ _ 22 rfl w.heap.size TT i3 (.agg #[.int .i64 0, .int .i64 0, .int .i64 0]) 3 24 Try.underlying22 ki kz0 kz1 kz2 rfl (by decide) _ _ _ rfl (HR.out.alloc _) ⟨W.heap.size, 0, none⟩ 1 1 (encT (x0, x1, x2)) rfl rfl HNC.out (encT_one _) (by unfold maxLen; omega) (by omega) (by have := HBW.out.size; simp; omega) ?_; intro v' w4 hown' hgrow _; obtain ⟨g', cap', rfl⟩ := ownsRow_succ hown'; obtain ⟨hv1, hv2, hr2, hk2, hb2⟩ := HV.out.appended (by decide) HR.out HBW.out.size hsz1 hown' hgrow; have hc1 := hv1.cell; have hf1 := hv1.frozen; have hn2 := HKN.out _ hgrow)
    have hn3 := hn2.other (show w1.heap.size + 1 + 1 ≠ w1.heap.size by omega) (Value.slice (some ⟨g', 0, none⟩) (pre.length + 1) cap')
    refine ⟨hk2.from _, ⟨hb2, ?_⟩, ⟨⟨⟨_, hv2, ?_⟩, hn3⟩, HBW.out.trans hb2⟩⟩
    · exact (show _ = _ from hn3).trans (show _ = _ from HN.out).symm
    · rw [HL.out, ← HT.out]
      exact hr2
  case done =>
    rintro D xs W hD hx ⟨⟨⟨v, hv, hr, _⟩, hbN1⟩, hB⟩ hK
    have hxl : xs.length = dueN ts now := by rw [hx, List.length_take]; have := dueN_le ts now; omega
    have hdl := dueN_le ts now
    have HX := Lib.hid hx
    have HXL := Lib.hid hxl
    obtain ⟨ad2, c2, rfl, hc21, hc22⟩ := ownZ_slice hr
    obtain ⟨ao, c3, hA3, hc31, hc32, hrun⟩ := restT _ (dueN ts now) ad cap ts W (HA.out.below hB) hcap hdl
    have hrun' : ∀ w', (Instr.slice 22 (.slice ad ts.length cap) (some (.int .i64 (xs.length : Int))) none none).run Try.prog w' = .ok (.slice ao (ts.length - xs.length) c3) w' := by rw [hxl]; exact hrun
    have hCL := tClone_any _ ao c3 (ts.drop (dueN ts now)) W.drew (by rw [List.length_drop]; omega) (show TmA _ W.drew ao _ from hA3)
    rw [List.length_drop, ← hxl] at hCL
    have HCL := Lib.hid hCL
    have HF : Hid (FtC w.heap.size W (.slice ad2 xs.length c2) (ts.take (dueN ts now))) := Lib.hid (by rw [← hx]; exact OwnT.fresh (show OwnT w.heap.size xs _ W from hr))
    have HB := Lib.hid hB
    have HK := Lib.hid hK
    have HV := Lib.hid hv
    clear hr hbN1 hB hK hrun hA3 hCL hv hx hxl hdl
    have cE := HV.out.cell
    gi_wp2
    refine AnyS.calm (S := fun W' => W'.cell? ⟨w1.heap.size, 0, none⟩ = some (.slice ad2 xs.length c2)) (by kernel_rfl) ?_
    refine AnyS.take (i := 0) (v := .slice ad2 xs.length c2) (open_wide 9 _) (by kernel_rfl) rfl (by kernel_rfl) (by kernel_rfl) (fun _ _ _ h => h) (Or.inl ⟨by rfl, ?_⟩) cE ?_
    · rintro w' h1
      go_simp
    simp only [Act.put, List.setIfInBounds_toArray, List.set_cons_zero, List.set_cons_succ]
    refine AnyS.take (i := 1) (v := .slice ad ts.length cap) (open_wide 9 _) (by kernel_rfl) rfl (by kernel_rfl) (by kernel_rfl) (fun _ _ _ h => h) (Or.inl ⟨by rfl, fun _ _ => rfl⟩) cE ?_
    simp only [Act.put, List.setIfInBounds_toArray, List.set_cons_zero, List.set_cons_succ]
    refine AnyS.take (i := 2) (v := .slice ad2 xs.length c2) (open_wide 9 _) (by kernel_rfl) rfl (by kernel_rfl) (by kernel_rfl) (fun _ _ _ h => h) (Or.inl ⟨by rfl, ?_⟩) cE ?_
    · rintro w' h1
      go_simp
    simp only [Act.put, List.setIfInBounds_toArray, List.set_cons_zero, List.set_cons_succ]
    refine AnyS.take (i := 3) (v := .int .i64 (xs.length : Int)) (open_wide 9 _) (by kernel_rfl) rfl (by kernel_rfl) (by kernel_rfl) (fun _ _ _ h => h) (Or.inl ⟨by rfl, ?_⟩) cE ?_
    · rintro w' -
      go_simp
    simp only [Act.put, List.setIfInBounds_toArray, List.set_cons_zero, List.set_cons_succ]
    refine AnyS.take (i := 4) (v := .slice ao (ts.length - xs.length) c3) (open_wide 9 _) (by kernel_rfl) rfl (by kernel_rfl) (by kernel_rfl) (fun _ _ _ h => h) (Or.inl ⟨by rfl, ?_⟩) cE ?_
    · rintro w' -
      go_simp
    simp only [Act.put, List.setIfInBounds_toArray, List.set_cons_zero, List.set_cons_succ]
    refine AnyS.next (i := 5) rfl (by kernel_rfl) ?_
    gi_wp2_with fail
    refine ⟨trivial, ?_⟩
    refine (callsIn_wide.2 HCL.out).mono ?_
    rintro e w5 ⟨v5, rfl, ho5, b5⟩
    have b5' : Below W.heap.size W w5 := ⟨b5.os, b5.tape, b5.output, b5.size, b5.block⟩
    have HF5 := Lib.hid (HF.out.below b5')
    have HG5 := Lib.hid (ho5.fresh.mono (show w.heap.size ≤ W.drew.heap.size from HB.out.size))
    have HB5 := Lib.hid (HB.out.trans (b5'.mono HB.out.size))
    have hK5 : w5.heap[D]? = some (.deferred (some [])) := (b5'.block D (Array.getElem?_eq_some_iff.1 HK.out).1).trans HK.out
    have HE5 := Lib.hid ((b5'.cell (p := ⟨w1.heap.size, 0, none⟩) HV.out.lt).trans cE)
    have HK5 := Lib.hid hK5
    clear ho5 b5 b5' hK5
    gi_wp2
    refine ⟨HE5.out, ?_⟩
    refine AnyS.next (i := 6) rfl (by kernel_rfl) ?_
    gi_wp2
    refine ⟨HE5.out, ?_⟩
    refine AnyS.next (i := 7) rfl (by kernel_rfl) ?_
    gi_wp2
    refine ⟨HE5.out, ?_⟩
    refine AnyS.done (by kernel_rfl) ?_ _
    dsimp only [calmQ]
    gi_wp2
    refine ⟨by simp, .inl ⟨_, _, rfl, run_takeDeferred HK5.out, ?_⟩⟩
    refine ⟨_, results_tmp2 rfl _ _ _, ?_⟩
    refine ⟨_, _, rfl, TmP.putD HF5.out HK5.out _, ?_, HB5.out.trans (belowK_b (w := w) (Nat.le_refl _) w5 D _ _ (by omega) HK5.out rfl rfl)⟩
    rw [← HXL.out]
    exact TmP.putD HG5.out HK5.out _
  case stop =>
    rintro D c pre W _ _ hf _
    exact hf.elim

set_option maxRecDepth 100000 in
set_option maxHeartbeats 2000000 in
/-- Expire. -/
theorem tExpire_any (v : Value) (ts : List Tm) (now : Int) (w : World) (hK : KtC w v ts) (hl : ts.length ≤ 1000) :
    Calls Try.prog 22 #[v, .int .i64 now] w (RetTT (dueL ts now) (rstL ts now) w) := by
  obtain ⟨ad, cap, rfl, hc1, hc2, hA⟩ := hK
  by_cases hc : chkE ts = 0
  · unfold dueL rstL
    rw [if_pos hc, if_pos hc]
    exact exp_ok ad cap ts now w (hA.mono fun b hb _ => hb) hl hc1 hc2 hc
  · unfold dueL rstL
    rw [if_neg hc, if_neg hc]
    have hCK := tCheck_any _ ad cap ts w hA hl hc1
    obtain ⟨x, hx⟩ : ∃ x, chkE ts = x := ⟨_, rfl⟩
    rw [hx] at hc hCK
    have hxb : (x != 0) = true := by simpa using hc
    have HCK := Lib.hid hCK
    clear hc hCK hx hA
    go_enter Try.func22, Try.ntmps22
    go_wp2_with fail
    refine HCK.out.mono ?_
    rintro e w2 ⟨rfl, b2⟩
    have HB2 := Lib.hid b2
    clear b2
    go_wp2
    go_ret2
    exact ⟨_, _, rfl, FtC.nil _ _ _ _ (by omega), FtC.nil _ _ _ _ (by omega), HB2.out⟩

end Go.Proofs.Ytcmcgcogahkamaa
