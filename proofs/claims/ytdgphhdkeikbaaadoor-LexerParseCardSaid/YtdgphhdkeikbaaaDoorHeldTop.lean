/-
  A region that draws its order, outside of rounds: one operation that alone can come up; a call and a making of a slice whose order is drawn.
-/
import Derived.OrdersHeld
import Derived.RegionTactic
import Derived.Test.YtdgphhdkeikbaaaDoorHeldIn
namespace Go.Proofs.YtdgphhdkeikbaaaDoor
open Go.RowKit

section
variable {P : Program} {ops : Array Oper} {Q : Exit → Act → World → Prop} {md : Region.Mode} {S : World → Prop}

theorem wpOp_of_list {i : Nat} {o : Oper} {K : Act → World → Prop} {a : Act} {w : World} (hi : ops.toList[i]? = some o) (h : wpList P ops (nextQ Q K) [o] a w) : wpOp P ops Q i K a w := by
  have hi : ops[i]? = some o := by rw [← hi]; exact Array.getElem?_toList.symm
  unfold wpList at h
  unfold wpOp
  simp only [hi]
  split
  · rename_i hw
    rw [if_pos hw] at h
    refine h.imp (fun h => ?_) (fun h => ⟨h.1, h.2⟩)
    unfold Oper.wp at *
    generalize (execOp a.eval o).run P w = r at *
    cases r with
    | ok x w' =>
      cases x <;> simp only [Oper.upon] at h ⊢ <;>
        first
          | exact h
          | exact Calls.mono h (fun e w'' he => by cases e <;> exact he)
          | exact Rows.mono h (fun _ _ he => he)
    | halt x w' => cases x <;> simp only [Oper.upon] at h ⊢ <;> exact h
  · rename_i hw
    rw [if_neg hw] at h
    exact h
theorem wpAnyH_next {i : Nat} {o : Oper} {fuel : Nat} {listed : Array Bool} {a : Act} {w : World} (hi : ops.toList[i]? = some o) (hr : Region.ready md ops listed = [i])
    (h : wpList P ops (nextQ Q fun a' w' => S w' ∧ wpAnyH P md ops Q S fuel (listed.setIfInBounds i true) a' w') [o] a w) : wpAnyH P md ops Q S (fuel + 1) listed a w :=
  wpAnyH_all hr (by simp) (fun j hj => by
    obtain rfl : j = i := by simpa using hj
    exact wpOp_of_list hi h)
theorem wpAnyH_read {i : Nat} {oi : Oper} {v : Value} {fuel : Nat} {listed : Array Bool} {a : Act} {w : World} (hi : ops.toList[i]? = some oi)
    (hs : Region.noSelect ops = true) (hf : Region.free md ops listed i = true) (hr : (Region.ready md ops listed).contains i = true)
    (hQ : ∀ c a w, Q (.panic c) (a.put oi.dst v) w → Q (.panic c) a w) (hw : Region.wanted oi (yielded ops a.tmps) = true) (hy : ∀ w, S w → (execOp a.eval oi).run P w = .ok (.value v) w) (hS : S w)
    (h : wpAnyH P md ops Q S fuel (listed.setIfInBounds i true) (a.put oi.dst v) w) : wpAnyH P md ops Q S (fuel + 1) listed a w :=
  wpAnyH_take (by rw [← hi]; exact Array.getElem?_toList.symm) hs hf hr hQ (Or.inl ⟨hw, hy⟩) hS h

/-- A call and a making of a slice: either may come first. -/
theorem wpAnyH_two {i j f : Nat} {oi oj : Oper} {args : Array Value} {ob : Obj} {m : Nat} {R : Value → Value → World → Prop} {fuel : Nat} {listed : Array Bool} {a : Act} {w : World} (hi : ops.toList[i]? = some oi) (hj : ops.toList[j]? = some oj)
    (hr : Region.ready md ops listed = [i, j]) (hri : Region.ready md ops (listed.setIfInBounds i true) = [j]) (hrj : Region.ready md ops (listed.setIfInBounds j true) = [i])
    (wi : Region.wanted oi (yielded ops a.tmps) = true) (wi' : ∀ y, Region.wanted oi (yielded ops (a.put oj.dst y).tmps) = true)
    (wj : Region.wanted oj (yielded ops a.tmps) = true) (wj' : ∀ y, Region.wanted oj (yielded ops (a.put oi.dst y).tmps) = true)
    (ei : ∀ w', (execOp a.eval oi).run P w' = .ok (.enter f args) w') (ei' : ∀ y w', (execOp (a.put oj.dst y).eval oi).run P w' = .ok (.enter f args) w')
    (ej : (execOp a.eval oj).run P w = .ok (.value (.slice (some ⟨w.heap.size, 0, none⟩) m m)) (w.alloc ob)) (ej' : ∀ y w', S w' → (execOp (a.put oi.dst y).eval oj).run P w' = .ok (.value (.slice (some ⟨w'.heap.size, 0, none⟩) m m)) (w'.alloc ob))
    (hput : ∀ x y, (a.put oj.dst y).put oi.dst x = (a.put oi.dst x).put oj.dst y)
    (hS : S (w.alloc ob))
    (hc1 : Calls P f args w fun e w1 => ∃ x, e = .returned x ∧ S w1 ∧ S (w1.alloc ob) ∧ R x (.slice (some ⟨w1.heap.size, 0, none⟩) m m) (w1.alloc ob))
    (hc2 : Calls P f args (w.alloc ob) fun e w1 => ∃ x, e = .returned x ∧ S w1 ∧ R x (.slice (some ⟨w.heap.size, 0, none⟩) m m) w1)
    (h : ∀ x y w', S w' → R x y w' → wpAnyH P md ops Q S fuel ((listed.setIfInBounds i true).setIfInBounds j true) ((a.put oi.dst x).put oj.dst y) w') : wpAnyH P md ops Q S (fuel + 2) listed a w := by
  have hi : ops[i]? = some oi := by rw [← hi]; exact Array.getElem?_toList.symm
  have hj : ops[j]? = some oj := by rw [← hj]; exact Array.getElem?_toList.symm
  have hij : i ≠ j := by
    intro e
    subst e
    have h1 : i ∈ Region.ready md ops (listed.setIfInBounds i true) := by rw [hri]; simp
    have h2 := (mem_ready.1 h1).1
    by_cases hlt : i < listed.size
    · simp [hlt] at h2
    · simp at h2
  refine wpAnyH_all hr (by simp) (fun k hk => ?_)
  rcases List.mem_cons.1 hk with rfl | hk
  · refine wpOp_step hi fun K' hK => ?_
    rw [if_pos wi]
    unfold Oper.wp
    rw [ei]
    simp only [Oper.upon]
    refine hc1.mono ?_
    rintro e w1 ⟨x, rfl, s1, s2, r⟩
    refine hK _ _ ⟨s1, wpAnyH_all hri (by simp) (fun k hk => ?_)⟩
    obtain rfl : k = j := by simpa using hk
    refine wpOp_step hj fun K' hK => ?_
    rw [if_pos (wj' x)]
    unfold Oper.wp
    rw [ej' x w1 s1]
    simp only [Oper.upon]
    exact hK _ _ ⟨s2, h _ _ _ s2 r⟩
  · obtain rfl : k = j := by simpa using hk
    refine wpOp_step hj fun K' hK => ?_
    rw [if_pos wj]
    unfold Oper.wp
    rw [ej]
    simp only [Oper.upon]
    refine hK _ _ ⟨hS, wpAnyH_all hrj (by simp) (fun k' hk => ?_)⟩
    obtain rfl : k' = i := by simpa using hk
    refine wpOp_step hi fun K' hK => ?_
    rw [if_pos (wi' _)]
    unfold Oper.wp
    rw [ei']
    simp only [Oper.upon]
    refine hc2.mono ?_
    rintro e w1 ⟨x, rfl, s1, r⟩
    refine hK _ _ ⟨s1, ?_⟩
    rw [hput, Array.setIfInBounds_comm _ _ (Ne.symm hij)]
    exact h _ _ _ s1 r
end

end Go.Proofs.YtdgphhdkeikbaaaDoor
