/-
  A region that draws its order: what holds behind each of its operations, whichever have come up.
-/
import Derived.OrdersHeld
import Derived.StillTail
import Derived.RegionTactic
import Derived.Test.YtpkmdonejmbnoaaIntsA
namespace Go.Proofs.Ytpkmdonejmbnoaa
open Go.RowKit

section
variable {P : Program} {ops : Array Oper} {Q : Exit → Act → World → Prop} {md : Region.Mode}

/-- The number of operations that have not come up. -/
def unl (L : Array Bool) : Nat := (L.toList.filter fun b => !b).length
theorem filter_set {l : List Bool} {j : Nat} (h : l[j]? = some false) : ((l.set j true).filter fun b => !b).length + 1 = (l.filter fun b => !b).length := by
  induction l generalizing j with
  | nil => simp at h
  | cons x l ih =>
    cases j with
    | zero => simp at h; subst h; simp
    | succ j =>
      simp at h
      have := ih h
      cases x <;> simp_all
theorem unl_set {L : Array Bool} {j : Nat} (h : L.getD j true = false) : unl (L.setIfInBounds j true) + 1 = unl L := by
  have hj : L.toList[j]? = some false := by
    rw [Array.getElem?_toList]
    by_cases hlt : j < L.size
    · simp [hlt] at h ⊢; exact h
    · simp [hlt] at h
  unfold unl
  rw [Array.toList_setIfInBounds]
  exact filter_set hj
theorem unl_zero {L : Array Bool} (h : unl L = 0) (j : Nat) : L.getD j true = true := by
  by_cases hlt : j < L.size
  · have hm : L[j] ∈ L.toList := by simp
    unfold unl at h
    have h2 := List.eq_nil_of_length_eq_zero h
    rw [List.filter_eq_nil_iff] at h2
    have := h2 _ hm
    simp at this
    simp [hlt, this]
  · simp [hlt]
def ordB (md : Region.Mode) (ops : Array Oper) : Bool := (List.range ops.size).all fun j => match ops[j]? with
  | some o => o.after.all fun e => !Region.binds md e || decide (e.on < j)
  | none => true
theorem ordB_spec (h : ordB md ops = true) {j : Nat} {o : Oper} (hj : ops[j]? = some o) {e : Edge} (he : e ∈ o.after) (hb : Region.binds md e = true) : e.on < j := by
  unfold ordB at h
  rw [List.all_eq_true] at h
  have hlt := (Array.getElem?_eq_some_iff.1 hj).1
  have := h j (by simpa using hlt)
  rw [hj] at this
  simp only [Array.all_eq_true'] at this
  have h2 := this e he
  rw [hb] at h2
  simpa using h2
/-- Where nothing may come up, all has. -/
theorem all_up (h : ordB md ops = true) {L : Array Bool} (hs : L.size = ops.size) (hr : Region.ready md ops L = []) : ∀ j, L.getD j true = true := by
  intro j
  induction j using Nat.strongRecOn with
  | _ j ih =>
    cases e : L.getD j true with
    | true => rfl
    | false =>
      exfalso
      have hlt : j < ops.size := by
        by_cases hlt : j < L.size
        · omega
        · simp [hlt] at e
      have hm : j ∈ Region.ready md ops L := mem_ready.2 ⟨e, ops[j], by simp [hlt], fun e' he' hb' => by
        have h1 := ordB_spec h (show ops[j]? = some ops[j] by simp [hlt]) he' hb'
        have h2 := ih e'.on h1
        have h3 : e'.on < L.size := by omega
        simp [h3] at h2 ⊢
        exact h2⟩
      rw [hr] at hm
      cases hm
theorem any_states {I : Array Bool → Act → World → Prop} (ho : ordB md ops = true) (hs : ∀ L a w, I L a w → L.size = ops.size)
    (step : ∀ L a w j, I L a w → j ∈ Region.ready md ops L → wpOp P ops Q j (fun a' w' => I (L.setIfInBounds j true) a' w') a w)
    (done : ∀ L a w, I L a w → (∀ j, L.getD j true = true) → Q .normal a w) : ∀ fuel L a w, I L a w → unl L ≤ fuel → wpAny P md ops Q fuel L a w := by
  intro fuel
  induction fuel with
  | zero =>
    intro L a w h hf
    have h0 := unl_zero (show unl L = 0 by omega)
    refine ⟨?_, done L a w h h0⟩
    cases e : Region.ready md ops L with
    | nil => rfl
    | cons j r =>
      have hm : j ∈ Region.ready md ops L := by rw [e]; exact List.mem_cons_self ..
      have := (mem_ready.1 hm).1
      rw [h0 j] at this
      cases this
  | succ fuel ih =>
    intro L a w h hf
    refine ⟨fun hr => done L a w h (all_up ho (hs L a w h) hr), fun j hj => ?_⟩
    have hu := unl_set (mem_ready.1 hj).1
    exact wpOp_mono (fun a' w' h' => ih _ a' w' h' (by omega)) (step L a w j h hj)
theorem unl_start (n : Nat) : unl (Array.replicate n false) ≤ n := by
  unfold unl
  exact Nat.le_trans (List.length_filter_le _ _) (by simp)
theorem region_states {I : Array Bool → Act → World → Prop} {id : Nat} {a : Act} {w : World} (hm : P.follows .mixedOrders = true) (ho : ordB .any ops = true) (hs : ∀ L a w, I L a w → L.size = ops.size)
    (step : ∀ L a w j, I L a w → j ∈ Region.ready .any ops L → wpOp P ops Q j (fun a' w' => I (L.setIfInBounds j true) a' w') a w)
    (done : ∀ L a w, I L a w → (∀ j, L.getD j true = true) → Q .normal a w) (h : I (Array.replicate ops.size false) a { w with drawn := w.drawn + 1 }) : (Code.region id ops true).wp P Q a w :=
  wp_region_any hm (any_states ho hs step done _ _ _ _ h (unl_start _))

theorem wpOp_val {j : Nat} {o : Oper} {a : Act} {w w' : World} {v : Value} {K : Act → World → Prop} (hj : ops[j]? = some o) (hg : o.guard = none) (hr : (execOp a.eval o).run P w = .ok (.value v) w') (hK : K (a.put o.dst v) w') : wpOp P ops Q j K a w := by
  unfold wpOp
  simp only [hj]
  rw [if_pos (by unfold Region.wanted; rw [hg])]
  left
  unfold Oper.wp
  rw [hr]
  exact hK
theorem wpOp_skip {j : Nat} {o : Oper} {a : Act} {w w' : World} {K : Act → World → Prop} (hj : ops[j]? = some o) (hg : o.guard = none) (hr : (execOp a.eval o).run P w = .ok .skip w') (hK : K (a.put o.dst undef) w') : wpOp P ops Q j K a w := by
  unfold wpOp
  simp only [hj]
  rw [if_pos (by unfold Region.wanted; rw [hg])]
  left
  unfold Oper.wp
  rw [hr]
  exact hK
/-- What the one operation that is next leaves. -/
def nextV (Q : Exit → Act → World → Prop) (K : Act → World → Prop) : Exit → Act → World → Prop
  | .normal, a, w => K a w
  | e, a, w => Q e a w
section
variable {S : World → Prop}
theorem wpOp_of_listV {i : Nat} {o : Oper} {K : Act → World → Prop} {a : Act} {w : World} (hi : ops.toList[i]? = some o) (h : wpList P ops (nextV Q K) [o] a w) : wpOp P ops Q i K a w := by
  have hi : ops[i]? = some o := by rw [← hi]; exact Array.getElem?_toList.symm
  unfold wpList at h
  unfold wpOp
  simp only [hi]
  split
  · rename_i hw
    rw [if_pos hw] at h
    refine h.imp (fun h => ?_) (fun h => ⟨h.1, h.2⟩)
    unfold Oper.wp at *
    generalize (execOp a.eval o).run P w = r at *
    cases r with
    | ok x w' =>
      cases x <;> simp only [Oper.upon] at h ⊢ <;>
        first
          | exact h
          | exact Calls.mono h (fun e w'' he => by cases e <;> exact he)
          | exact Rows.mono h (fun _ _ he => he)
    | halt x w' => cases x <;> simp only [Oper.upon] at h ⊢ <;> exact h
  · rename_i hw
    rw [if_neg hw] at h
    exact h
theorem wpAnyH_nextV {i : Nat} {o : Oper} {fuel : Nat} {listed : Array Bool} {a : Act} {w : World} (hi : ops.toList[i]? = some o) (hr : Region.ready md ops listed = [i])
    (h : wpList P ops (nextV Q fun a' w' => S w' ∧ wpAnyH P md ops Q S fuel (listed.setIfInBounds i true) a' w') [o] a w) : wpAnyH P md ops Q S (fuel + 1) listed a w :=
  wpAnyH_all hr (by simp) (fun j hj => by
    obtain rfl : j = i := by simpa using hj
    exact wpOp_of_listV hi h)
theorem wpAnyH_readV {i : Nat} {oi : Oper} {v : Value} {fuel : Nat} {listed : Array Bool} {a : Act} {w : World} (hi : ops.toList[i]? = some oi)
    (hs : Region.noSelect ops = true) (hf : Region.free md ops listed i = true) (hr : (Region.ready md ops listed).contains i = true)
    (hQ : ∀ c a w, Q (.panic c) (a.put oi.dst v) w → Q (.panic c) a w) (hw : Region.wanted oi (yielded ops a.tmps) = true) (hy : ∀ w, S w → (execOp a.eval oi).run P w = .ok (.value v) w) (hS : S w)
    (h : wpAnyH P md ops Q S fuel (listed.setIfInBounds i true) (a.put oi.dst v) w) : wpAnyH P md ops Q S (fuel + 1) listed a w :=
  wpAnyH_take (by rw [← hi]; exact Array.getElem?_toList.symm) hs hf hr hQ (Or.inl ⟨hw, hy⟩) hS h
end
/-- An operation that may come up: those it waits for have. -/
theorem ready_dep {L : Array Bool} {j i : Nat} (hj : j ∈ Region.ready md ops L) (hw : Region.waitsFor md ops j i = true) : L.getD i false = true := by
  obtain ⟨_, o, ho, hall⟩ := mem_ready.1 hj
  obtain ⟨o', ho', e, he, hb, hon⟩ := Region.waitsFor_spec hw
  rw [ho] at ho'
  cases ho'
  rw [← hon]
  exact hall e he hb
theorem ready_not {L : Array Bool} {j : Nat} (hj : j ∈ Region.ready md ops L) : L.getD j true = false := (mem_ready.1 hj).1
theorem ready_lt {L : Array Bool} {j : Nat} (hj : j ∈ Region.ready md ops L) : j < ops.size := by
  obtain ⟨_, o, ho, _⟩ := mem_ready.1 hj
  exact (Array.getElem?_eq_some_iff.1 ho).1
end

end Go.Proofs.Ytpkmdonejmbnoaa
