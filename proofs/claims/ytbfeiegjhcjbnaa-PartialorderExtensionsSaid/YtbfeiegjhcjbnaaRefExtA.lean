/-
  What the reference's extend does to the memory.
-/
import Derived.Test.YtbfeiegjhcjbnaaRefLeast
namespace Go.Proofs.Ytbfeiegjhcjbnaa
open Go.RowKit

/-- The built-in append by a run equation. -/
theorem append_by_run {P : Program} (w : World) {ops : Array Oper} {rest : List Oper} {o : Oper} {a : Act} {Q : Exit → Act → World → Prop} (hgd : o.guard = none) (s x : Operand) (t : TypeId)
    (ho : o.op = .call { callee := .builtin .append, args := #[s, x], argTypes := #[t, t] }) (vs vx : Value) (hs : a.eval s = vs) (hx : a.eval x = vx) (v' : Value) (w' : World)
    (hrun : (Builtin.append_ #[t, t] o.type #[vs, vx]).run P w = .ok v' w') (h : wpList P ops Q rest (a.put o.dst v') w') : wpList P ops Q (o :: rest) a w := by
  refine wpList_plain hgd fun K hK => ?_
  unfold Oper.wp
  simp [execOp, ho, resolve, invoke, builtin, hs, hx, hrun, Result.andThen]
  exact hK _ _ h
/-- Steps that turn the row of marks, the list's own row and new blocks alone. -/
structure XsK (U : Nat) (v : Value) (w : World) (v' : Value) (w' : World) : Prop where
  os : w'.os = w.os
  tape : w'.tape = w.tape
  output : w'.output = w.output
  size : w.heap.size ≤ w'.heap.size
  block : ∀ k, k < w.heap.size → k ≠ U → v.ownBlock ≠ some k → w'.heap[k]? = w.heap[k]?
  own : ∀ k, v'.ownBlock = some k → v.ownBlock = some k ∨ w.heap.size ≤ k
theorem XsK.refl (U : Nat) (v : Value) (w : World) : XsK U v w v w := ⟨rfl, rfl, rfl, Nat.le_refl _, fun _ _ _ _ => rfl, fun _ h => .inl h⟩
theorem XsK.trans {U : Nat} {v v' v'' : Value} {w w' w'' : World} (h : XsK U v w v' w') (k : XsK U v' w' v'' w'') : XsK U v w v'' w'' :=
  ⟨k.os.trans h.os, k.tape.trans h.tape, k.output.trans h.output, Nat.le_trans h.size k.size, fun i hi hu hv => (k.block i (Nat.lt_of_lt_of_le hi h.size) hu (fun e => by
    rcases h.own i e with h1 | h1
    · exact hv h1
    · omega)).trans (h.block i hi hu hv), fun i hi => by
    rcases k.own i hi with h1 | h1
    · exact h.own i h1
    · exact .inr (Nat.le_trans h.size h1)⟩
theorem XsK.row {U : Nat} (v : Value) {w w' : World} (g : w.grownBy w' (some U)) : XsK U v w v w' := ⟨g.os, g.tape, g.output, g.size, fun k hk hu _ => g.block k hk (by simpa using hu), fun _ h => .inl h⟩
theorem XsK.new (U : Nat) (v : Value) {w w' : World} (g : w.grownBy w' none) : XsK U v w v w' := XsK.row v (grown_weak g (some U))
theorem XsK.below {U B : Nat} {v v' : Value} {w w' : World} (h : XsK U v w v' w') (hU : B ≤ U) (hv : ∀ b, v.ownBlock = some b → B ≤ b) (hB : B ≤ w.heap.size) : Below B w w' :=
  ⟨h.os, h.tape, h.output, h.size, fun k hk => h.block k (by omega) (by omega) (fun e => by have := hv k e; omega)⟩
/-- Rows with elements of different types are different rows. -/
theorem own_diff {W : World} {B C n m s t : Nat} {v u : Value} {S T : TypeId} {xs ys : List Value} (h : W.ownsRow B T s v n xs) (h2 : W.ownsRow C S t u m ys) (hST : S ≠ T) : ∀ b, v.ownBlock = some b → u.ownBlock ≠ some b := by
  intro b h3 h4
  obtain ⟨_, c, hc⟩ := own_nilType h b h3
  obtain ⟨_, c2, hc2⟩ := own_nilType h2 b h4
  rw [hc] at hc2
  injection hc2 with hc2
  injection hc2 with _ hc2 _
  exact hST hc2.symm
theorem XsK.keep {U B C n m N s t : Nat} {v v' u : Value} {w w' : World} {S T : TypeId} {xs ys zs : List Value} (h : XsK U v w v' w') (hu : w.ownsRow B T s u n xs) (hv : w.ownsRow C S t v m ys) (hST : S ≠ T) (hU : w.ownsRow C TBool 1 (.slice (some ⟨U, 0, none⟩) N N) N zs) (hT : TBool ≠ T) : w'.ownsRow B T s u n xs :=
  own_nilkeep hu (fun b hb => h.block b (World.ownsRow.lt hu b hb).2 (fun e => own_diff hu hU hT b hb (by rw [e]; rfl)) (own_diff hu hv hST b hb))
theorem take_take_append {α : Type} (a b : List α) (n : Nat) : (a.take n ++ b).take n = (a ++ b).take n := by
  by_cases h : a.length ≤ n
  · rw [List.take_of_length_le h]
  · have h1 : (a.take n).length = n := by rw [List.length_take]; omega
    rw [List.take_append_of_le_length (by omega), List.take_append_of_le_length (by omega), List.take_of_length_le (by omega)]

/-- The list with one number more, in a new row. -/
theorem appendMore {B : Nat} {done : List Nat} {da : Option Addr} {dc : Nat} {w : World} (h : OwnN B done (.slice da done.length dc) w) (x : Nat) (ad : Addr) (had : w.cell? ad = some (.int .i64 (x : Int))) (hl : done.length ≤ 1000) :
    ∃ (a' : Option Addr) (c' : Nat) (w' : World), (Builtin.append_ #[23, 23] 23 #[.slice da done.length done.length, .slice (some ad) 1 1]).run Try.prog w = .ok (.slice a' (done ++ [x]).length c') w' ∧ OwnN w.heap.size (done ++ [x]) (.slice a' (done ++ [x]).length c') w' ∧ w.grownBy w' none := by
  obtain ⟨i1, ji, jz0, jz1, jz2⟩ := info_parts infoI
  have hnews : ∀ (j : Nat) (u : Value), [Value.int .i64 (x : Int)][j]? = some u → w.cell? (ad.add j) = some u := by
    intro j u hj
    match j, hj with
    | 0, hj =>
      simp at hj
      subst hj
      have : ad.add 0 = ad := by obtain ⟨a, b, c⟩ := ad; cases c <;> simp [Addr.add]
      rw [this]
      exact had
  have h : w.ownsRow B TI 1 (.slice da done.length dc) done.length (natV done) := h
  have fin : ∀ (v' : Value) (w' : World), w'.ownsRow w.heap.size TI 1 v' (done.length + 1) (natV done ++ [.int .i64 (x : Int)]) → ∃ a' c', v' = .slice a' (done ++ [x]).length c' ∧ OwnN w.heap.size (done ++ [x]) (.slice a' (done ++ [x]).length c') w' := by
    intro v' w' ho
    obtain ⟨a', c', rfl, _, _⟩ := own_sliceS ho
    have hlen : (done ++ [x]).length = done.length + 1 := by simp
    refine ⟨a', c', by rw [hlen], ?_⟩
    unfold OwnN
    rw [natV_snoc, hlen]
    exact ho
  rcases h.2 with ⟨e, hz⟩ | ⟨g, cap, cur, e, hB, hg, k1, k2, k3, k4⟩
  · injection e with e1 e2 e3
    subst e1
    have hd : done = [] := List.eq_nil_of_length_eq_zero hz
    subst hd
    obtain ⟨v', w', hrun, ho, hgw, _⟩ := run_append_own (P := Try.prog) w w.heap.size 23 23 TI i1 (.int .i64 0) 1 8 Try.underlying23 ji jz0 jz1 jz2 rfl (by decide) (.slice none 0 0) 0 [] (World.ownsRow_nil _ _ _ _) ad 1 1 [.int .i64 (x : Int)] rfl hnews (one_one _) (by unfold maxLen; omega) (by omega) (Nat.le_refl _)
    obtain ⟨a', c', rfl, ho'⟩ := fin v' w' (by simpa [natV] using ho)
    exact ⟨a', c', w', hrun, ho', hgw⟩
  · injection e with e1 e2 e3
    subst e1
    obtain ⟨v', w', hrun, ho, hgw⟩ := run_append_arg_grows (P := Try.prog) w 23 23 TI i1 (.int .i64 0) 1 8 Try.underlying23 ji jz0 jz1 jz2 rfl (by decide) ⟨g, 0, none⟩ done.length done.length (natV done) (by rw [natV_length]; omega) (World.ownsRow.cells h rfl) ad 1 1 [.int .i64 (x : Int)] rfl hnews (by omega) (by unfold maxLen; omega) (by omega)
    obtain ⟨a', c', rfl, ho'⟩ := fin v' w' ho
    exact ⟨a', c', w', hrun, ho', hgw⟩

/-- A copy of the list, in a new row. -/
theorem appendCopy {B : Nat} {done : List Nat} {da : Option Addr} {dc : Nat} {w : World} (h : OwnN B done (.slice da done.length dc) w) (hl : done.length ≤ 1000) :
    ∃ (u : Value) (w' : World), (Builtin.append_ #[23, 23] 23 #[.slice (some ⟨w.heap.size, 0, none⟩) 0 0, .slice da done.length dc]).run Try.prog (w.alloc (.cells #[] TI)) = .ok u w' ∧ ElR w.heap.size done u w' ∧ w.grownBy w' none ∧ u.oneCell' = true ∧ w.heap.size < w'.heap.size := by
  obtain ⟨i1, ji, jz0, jz1, jz2⟩ := info_parts infoI
  have h' : (w.alloc (.cells #[] TI)).ownsRow B TI 1 (.slice da done.length dc) done.length (natV done) := World.ownsRow.alloc h _
  have hm : (w.alloc (.cells #[] TI)).ownsRow w.heap.size TI 1 (.slice (some ⟨w.heap.size, 0, none⟩) 0 0) 0 [] := World.ownsRow_made w #[] 0 (Nat.le_refl _) (Nat.zero_le _) rfl
  have hsz : (w.alloc (.cells #[] TI)).heap.size = w.heap.size + 1 := by simp
  rcases h'.2 with ⟨e, hz⟩ | ⟨g, cap, cur, e, hB, hg, k1, k2, k3, k4⟩
  · injection e with e1 e2 e3
    subst e1
    subst e3
    have hd : done = [] := List.eq_nil_of_length_eq_zero hz
    subst hd
    refine ⟨_, _, run_append_owned_none (P := Try.prog) (w := w.alloc (.cells #[] TI)) w.heap.size 23 23 TI i1 1 Try.underlying23 ji _ 0 [] hm, .inr ⟨_, 0, rfl, hm⟩, World.grownBy_alloc _ _ _, rfl, by omega⟩
  · injection e with e1 e2 e3
    subst e1
    obtain ⟨v', w', hrun, ho, hgw, _⟩ := run_append_own (P := Try.prog) (w.alloc (.cells #[] TI)) w.heap.size 23 23 TI i1 (.int .i64 0) 1 8 Try.underlying23 ji jz0 jz1 jz2 rfl (by decide) (.slice (some ⟨w.heap.size, 0, none⟩) 0 0) 0 [] hm ⟨g, 0, none⟩ done.length dc (natV done) (by rw [natV_length]; omega) (World.ownsRow.cells h' rfl) (by
      intro u hu
      obtain ⟨x, _, rfl⟩ := List.mem_map.1 hu
      rfl) (by unfold maxLen; omega) (by omega) (by omega)
    have ho : w'.ownsRow w.heap.size TI 1 v' done.length (natV done) := by simpa using ho
    obtain ⟨a', c', rfl, _, _⟩ := own_sliceS ho
    have hgn : w.grownBy w' none := by
      refine ⟨hgw.os, hgw.tape, hgw.output, by have := hgw.size; omega, fun k hk _ => ?_⟩
      rw [hgw.block k (by omega) (fun e => by simp [Value.ownBlock] at e; omega)]
      exact Below.heap_alloc w _ k hk
    refine ⟨_, w', hrun, ?_, hgn, rfl, by have := hgw.size; omega⟩
    by_cases hv : (Value.slice a' done.length c') = .slice none 0 0
    · have hv2 := hv
      injection hv2 with _ e2 _
      left
      exact ⟨hv, List.eq_nil_of_length_eq_zero e2⟩
    · obtain ⟨g', cap', e⟩ := ownsRow_some ho hv
      injection e with e1 e2 e3
      subst e1
      exact .inr ⟨g', c', rfl, ho⟩

/-- One list more in the row of lists. -/
theorem LisR.snoc {B : Nat} {ll : List (List Nat)} {v u : Value} {vs : List Value} {x : List Nat} {w : World} (h : LisR B ll v vs w) (hu : ElR B x u w) (hB : B ≤ w.heap.size) (ad : Addr) (had : w.cell? ad = some u) (hn : ll.length ≤ 5000) (U : Nat) :
    ∃ (v' : Value) (w' : World), (Builtin.append_ #[36, 36] 36 #[v, .slice (some ad) 1 1]).run Try.prog w = .ok v' w' ∧ LisR B (ll ++ [x]) v' (vs ++ [u]) w' ∧ XsK U v w v' w' ∧ (∀ (b : Nat) (c : Array Value) (t : TypeId), w.heap[b]? = some (.cells c t (0, 0)) → t ≠ TL → w'.heap[b]? = w.heap[b]?) := by
  have hone : u.oneCell' = true := by
    rcases hu with ⟨rfl, _⟩ | ⟨G, c, rfl, _⟩ <;> rfl
  obtain ⟨v', w', gn, hrun, ho, hgn, hc⟩ := appendL h.1 hB hone ad had (by omega)
  have hkeep : ∀ (b : Nat) (c : Array Value) (t : TypeId), w.heap[b]? = some (.cells c t (0, 0)) → t ≠ TL → w'.heap[b]? = w.heap[b]? := by
    intro b c t hb ht
    rcases hc with ⟨hv, hg⟩ | ⟨_, hg⟩
    · refine hg.block b (lt_of_heap hb) (fun e => ?_)
      cases e
      obtain ⟨_, c2, hc2⟩ := own_nilType h.1 _ hv
      rw [hb] at hc2
      injection hc2 with hc2
      injection hc2 with _ hc2 _
      exact ht hc2
    · exact hg.block b (lt_of_heap hb) (by simp)
  have hel : ∀ (y : List Nat) (q : Value), ElR B y q w → ElR B y q w' := fun y q hq => hq.keep (fun b hb => by
    obtain ⟨c, hcc⟩ := hq.type b hb
    exact hkeep b c TI hcc (by decide))
  have hl2 := h.2.1
  refine ⟨v', w', hrun, ⟨?_, by simp [hl2], fun i y q hy hq => ?_⟩, ?_, hkeep⟩
  · rw [List.length_append]
    exact ho
  · by_cases hi : i < ll.length
    · rw [List.getElem?_append_left hi] at hy
      rw [List.getElem?_append_left (by omega)] at hq
      exact hel y q (h.2.2 i y q hy hq)
    · have hi2 : i = ll.length := by
        have := (List.getElem?_eq_some_iff.1 hy).1
        simp at this
        omega
      subst hi2
      rw [List.getElem?_append_right (Nat.le_refl _), Nat.sub_self] at hy
      rw [List.getElem?_append_right (by omega), show ll.length - vs.length = 0 by omega] at hq
      cases hy
      cases hq
      exact hel x u hu
  · rcases hc with ⟨hv, hg⟩ | ⟨hs, hg⟩
    · exact ⟨hg.os, hg.tape, hg.output, hg.size, fun k hk _ hne => hg.block k hk (fun e => hne (by rw [hv, e])), fun k hk => .inl (by rw [hv, ← hgn, hk])⟩
    · exact ⟨hg.os, hg.tape, hg.output, hg.size, fun k hk _ _ => hg.block k hk (by simp), fun k hk => .inr (by rw [hgn] at hk; cases hk; exact hs)⟩
theorem LisR.kept {B : Nat} {ll : List (List Nat)} {v : Value} {vs : List Value} {w w' : World} (h : LisR B ll v vs w) (hk : ∀ (b : Nat) (c : Array Value) (t : TypeId), w.heap[b]? = some (.cells c t (0, 0)) → t = TL ∨ t = TI → w'.heap[b]? = w.heap[b]?) : LisR B ll v vs w' :=
  ⟨own_nilkeep h.1 (fun b hb => by obtain ⟨_, c, hc⟩ := own_nilType h.1 b hb; exact hk b c _ hc (.inl rfl)), h.2.1, fun i x u hx hu => (h.2.2 i x u hx hu).keep (fun b hb => by obtain ⟨c, hc⟩ := (h.2.2 i x u hx hu).type b hb; exact hk b c _ hc (.inr rfl))⟩
theorem LisR.new {B : Nat} {ll : List (List Nat)} {v : Value} {vs : List Value} {w w' : World} (h : LisR B ll v vs w) (hg : w.grownBy w' none) : LisR B ll v vs w' := h.kept (fun b c t hb _ => hg.block b (lt_of_heap hb) (by simp))
theorem LisR.row {B C N U : Nat} {ll : List (List Nat)} {v : Value} {vs xs : List Value} {w w' : World} (h : LisR B ll v vs w) (hU : w.ownsRow C TBool 1 (.slice (some ⟨U, 0, none⟩) N N) N xs) (hg : w.grownBy w' (some U)) : LisR B ll v vs w' := h.kept (fun b c t hb ht => hg.block b (lt_of_heap hb) (fun e => by
  cases e
  obtain ⟨c2, hc2⟩ := own_typeS hU
  rw [hb] at hc2
  injection hc2 with hc2
  injection hc2 with _ hc2 _
  subst hc2
  rcases ht with ht | ht <;> exact absurd ht (by decide)))

end Go.Proofs.Ytbfeiegjhcjbnaa
