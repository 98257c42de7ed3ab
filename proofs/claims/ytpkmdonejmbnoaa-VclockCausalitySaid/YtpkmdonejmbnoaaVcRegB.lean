/-
  Causality: the statement that appends to three lists, as a region.
-/
import Derived.Test.YtpkmdonejmbnoaaVcReg
namespace Go.Proofs.Ytpkmdonejmbnoaa
open Go.RowKit

/-- The region's operations. -/
structure Ops24 (ops : Array Oper) : Prop where
  size : ops.size = 15
  ord : ordB .any ops = true
  o0 : ∃ y p a, ops[0]? = some { dst := some 82, op := Op.load 46 (.tmp 3), type := y, pos := p, after := a, guard := none }
  o1 : ∃ y p a, ops[1]? = some { dst := some 83, op := Op.move (.tmp 14), type := y, pos := p, after := a, guard := none }
  o2 : ∃ y p a, ops[2]? = some { dst := some 84, op := Op.buildSlice 46 1 #[(0, .tmp 83)], type := y, pos := p, after := a, guard := none }
  o3 : ∃ p a, ops[3]? = some { dst := some 85, op := Op.call { callee := Callee.builtin Builtin.append, args := #[.tmp 82, .tmp 84], argTypes := #[46, 46] }, type := 46, pos := p, after := a, guard := none }
  o4 : ∃ y p a, ops[4]? = some { dst := some 86, op := Op.load 47 (.tmp 4), type := y, pos := p, after := a, guard := none }
  o5 : ∃ y p a, ops[5]? = some { dst := some 87, op := Op.load 50 (.tmp 9), type := y, pos := p, after := a, guard := none }
  o6 : ∃ y p a, ops[6]? = some { dst := some 88, op := Op.buildSlice 47 1 #[(0, .tmp 87)], type := y, pos := p, after := a, guard := none }
  o7 : ∃ p a, ops[7]? = some { dst := some 89, op := Op.call { callee := Callee.builtin Builtin.append, args := #[.tmp 86, .tmp 88], argTypes := #[47, 47] }, type := 47, pos := p, after := a, guard := none }
  o8 : ∃ y p a, ops[8]? = some { dst := some 90, op := Op.move (.tmp 5), type := y, pos := p, after := a, guard := none }
  o9 : ∃ y p a, ops[9]? = some { dst := some 91, op := Op.move (.tmp 8), type := y, pos := p, after := a, guard := none }
  o10 : ∃ y p a, ops[10]? = some { dst := some 92, op := Op.buildSlice 22 1 #[(0, .tmp 91)], type := y, pos := p, after := a, guard := none }
  o11 : ∃ p a, ops[11]? = some { dst := some 93, op := Op.call { callee := Callee.builtin Builtin.append, args := #[.tmp 90, .tmp 92], argTypes := #[22, 22] }, type := 22, pos := p, after := a, guard := none }
  o12 : ∃ y p a, ops[12]? = some { dst := none, op := Op.store 46 (.tmp 3) (.tmp 85), type := y, pos := p, after := a, guard := none }
  o13 : ∃ y p a, ops[13]? = some { dst := none, op := Op.store 47 (.tmp 4) (.tmp 89), type := y, pos := p, after := a, guard := none }
  o14 : ∃ y p a, ops[14]? = some { dst := some 5, op := Op.assign (.tmp 93), type := y, pos := p, after := a, guard := none }
  w2_1 : Region.waitsFor .any ops 2 1 = true
  w3_0 : Region.waitsFor .any ops 3 0 = true
  w3_2 : Region.waitsFor .any ops 3 2 = true
  w6_5 : Region.waitsFor .any ops 6 5 = true
  w7_4 : Region.waitsFor .any ops 7 4 = true
  w7_6 : Region.waitsFor .any ops 7 6 = true
  w10_9 : Region.waitsFor .any ops 10 9 = true
  w11_8 : Region.waitsFor .any ops 11 8 = true
  w11_10 : Region.waitsFor .any ops 11 10 = true
  w12_0 : Region.waitsFor .any ops 12 0 = true
  w12_3 : Region.waitsFor .any ops 12 3 = true
  w13_4 : Region.waitsFor .any ops 13 4 = true
  w13_7 : Region.waitsFor .any ops 13 7 = true
  w14_11 : Region.waitsFor .any ops 14 11 = true

/-- What has come up has come up behind what it waits for. -/
def Clo (ops : Array Oper) (L : Array Bool) : Prop := ∀ j i, Region.waitsFor .any ops j i = true → L.getD j false = true → L.getD i false = true
theorem Clo.more {ops : Array Oper} {L : Array Bool} {j : Nat} (h : Clo ops L) (hj : j ∈ Region.ready .any ops L) (hs : j < L.size) : Clo ops (L.setIfInBounds j true) := by
  intro k i hw hk
  have e : ∀ m, (L.setIfInBounds j true).getD m false = upd (fun i => L.getD i false) j true m := fun m => congrFun (set_upd hs) m
  rw [e] at hk ⊢
  have hi : L.getD i false = true := by
    by_cases ek : k = j
    · subst ek; exact ready_dep hj hw
    · rw [upd_ne _ _ ek] at hk; exact h k i hw hk
  unfold upd
  split
  · rfl
  · exact hi
def I24 (ops : Array Oper) (C K n : Nat) (cv dv pv nx kv pw : Value) (cvs dvs pvs : List Value) (a0 : Act) (wb : World) (L : Array Bool) (a : Act) (w : World) : Prop :=
  L.size = 15 ∧ a.defers = a0.defers ∧ a.tmps.size = 161 ∧ Clo ops L ∧ G24 C K n cv dv pv nx kv pw cvs dvs pvs (fun s => a0.tmps[s]?) wb (fun i => L.getD i false) (fun s => a.tmps[s]?) w
theorem I24.put {ops : Array Oper} {C K n j s : Nat} {cv dv pv nx kv pw v : Value} {cvs dvs pvs : List Value} {a0 a : Act} {wb w w' : World} {L : Array Bool} (h : I24 ops C K n cv dv pv nx kv pw cvs dvs pvs a0 wb L a w) (hj : j ∈ Region.ready .any ops L) (hj15 : j < 15) (hs : s < 161)
    (hg : G24 C K n cv dv pv nx kv pw cvs dvs pvs (fun s => a0.tmps[s]?) wb (upd (fun i => L.getD i false) j true) (upd (fun s => a.tmps[s]?) s (some v)) w') : I24 ops C K n cv dv pv nx kv pw cvs dvs pvs a0 wb (L.setIfInBounds j true) (a.put (some s) v) w' := by
  obtain ⟨h1, h2, h3, h4, _⟩ := h
  refine ⟨by simpa using h1, h2, by simpa [Act.put] using h3, h4.more hj (by omega), ?_⟩
  rw [set_upd (by omega), put_upd v (by omega)]
  exact hg
theorem I24.skip {ops : Array Oper} {C K n j : Nat} {cv dv pv nx kv pw v : Value} {cvs dvs pvs : List Value} {a0 a : Act} {wb w w' : World} {L : Array Bool} (h : I24 ops C K n cv dv pv nx kv pw cvs dvs pvs a0 wb L a w) (hj : j ∈ Region.ready .any ops L) (hj15 : j < 15)
    (hg : G24 C K n cv dv pv nx kv pw cvs dvs pvs (fun s => a0.tmps[s]?) wb (upd (fun i => L.getD i false) j true) (fun s => a.tmps[s]?) w') : I24 ops C K n cv dv pv nx kv pw cvs dvs pvs a0 wb (L.setIfInBounds j true) (a.put none v) w' := by
  obtain ⟨h1, h2, h3, h4, _⟩ := h
  refine ⟨by simpa using h1, h2, h3, h4.more hj (by omega), ?_⟩
  rw [set_upd (by omega)]
  exact hg
theorem getD_notlisted {L : Array Bool} {j : Nat} (hs : L.size = 15) (hj : j < 15) (h : L.getD j true = false) : L.getD j false = false := by
  have : j < L.size := by omega
  simp [this] at h ⊢
  exact h
theorem oneK {w : World} {u : Value} {zs : List Int} {φ : Nat → Prop} (h : KlP φ w u zs) : u.oneCell' = true := by
  obtain ⟨a, c, rfl, _⟩ := h
  rfl
def fin24 (T : Array Value) (x5 x82 x83 x84 x85 x86 x87 x88 x89 x90 x91 x92 x93 : Value) : Array Value :=
  ((((((((((((T.setIfInBounds 82 x82).setIfInBounds 83 x83).setIfInBounds 84 x84).setIfInBounds 85 x85).setIfInBounds 86 x86).setIfInBounds 87 x87).setIfInBounds 88 x88).setIfInBounds 89 x89).setIfInBounds 90 x90).setIfInBounds 91 x91).setIfInBounds 92 x92).setIfInBounds 93 x93).setIfInBounds 5 x5

set_option maxRecDepth 100000 in
set_option maxHeartbeats 8000000 in
theorem region24 {ops : Array Oper} {Q : Exit → Act → World → Prop} {id : Nat} (hops : Ops24 ops) (C K n : Nat) (cv dv pv : Value) (na : Option Addr) (nn nc R p : Nat) (cvs dvs pvs : List Value) (a0 : Act) (w0 : World)
    (hsz : a0.tmps.size = 161) (h3 : a0.tmps[3]? = some (.pointer (some ⟨C, 0, none⟩))) (h4 : a0.tmps[4]? = some (.pointer (some ⟨C + 1, 0, none⟩))) (h9 : a0.tmps[9]? = some (.pointer (some ⟨K, 0, none⟩))) (h14 : a0.tmps[14]? = some (.slice na nn nc)) (h5 : a0.tmps[5]? = some pv) (h8 : a0.tmps[8]? = some (.int .i64 (p : Int)))
    (hn : n ≤ 1000) (hC : w0.heap[C]? = some (.cells #[cv] T46 (0, 0))) (hD : w0.heap[C + 1]? = some (.cells #[dv] T47 (0, 0))) (hK : w0.heap[K]? = some (.cells #[.slice (some ⟨R, 0, none⟩) n n] TBl (0, 0))) (hKf : Fre C cv dv pv K)
    (hc : w0.ownsRow (C + 2) TC 1 cv n cvs) (hd : w0.ownsRow (C + 2) TBl 1 dv n dvs) (hp : w0.ownsRow (C + 2) TZ 1 pv n pvs)
    (hQ : ∀ (cv' dv' pv' x84 x88 x92 : Value) (w' : World), Frm (Fre C cv dv pv) w0 w' → w'.heap[C]? = some (.cells #[cv'] T46 (0, 0)) → w'.heap[C + 1]? = some (.cells #[dv'] T47 (0, 0)) →
      w'.ownsRow (C + 2) TC 1 cv' (n + 1) (cvs ++ [.slice na nn nc]) → w'.ownsRow (C + 2) TBl 1 dv' (n + 1) (dvs ++ [.slice (some ⟨R, 0, none⟩) n n]) → w'.ownsRow (C + 2) TZ 1 pv' (n + 1) (pvs ++ [.int .i64 (p : Int)]) →
      (∀ b, cv'.ownBlock = some b → cv.ownBlock = some b ∨ w0.heap.size ≤ b) → (∀ b, dv'.ownBlock = some b → dv.ownBlock = some b ∨ w0.heap.size ≤ b) → (∀ b, pv'.ownBlock = some b → pv.ownBlock = some b ∨ w0.heap.size ≤ b) →
      Q .normal { a0 with tmps := fin24 a0.tmps pv' cv (.slice na nn nc) x84 cv' dv (.slice (some ⟨R, 0, none⟩) n n) x88 dv' pv (.int .i64 (p : Int)) x92 pv' } w') :
    (Code.region id ops true).wp Try.prog Q a0 w0 := by
  have hCs : C + 2 ≤ w0.heap.size := by have := heap_lt hD; omega
  refine region_states (I := I24 ops C K n cv dv pv (.slice na nn nc) (.slice (some ⟨R, 0, none⟩) n n) (.int .i64 (p : Int)) cvs dvs pvs a0 w0) (by kernel_rfl) hops.ord (fun L a w h => by rw [h.1, hops.size]) ?_ ?_ ?_
  · intro L a w j hI hj
    have hj15 : j < 15 := by have := ready_lt hj; rw [hops.size] at this; exact this
    have hI' := hI
    obtain ⟨hL, hdf, hts, hcl, hG⟩ := hI
    have hnl : L.getD j false = false := getD_notlisted hL hj15 (ready_not hj)
    have e3 : a.tmps[3]?.getD undef = .pointer (some ⟨C, 0, none⟩) := by rw [hG.oth 3 (by omega) (by omega), h3]; rfl
    have e4 : a.tmps[4]?.getD undef = .pointer (some ⟨C + 1, 0, none⟩) := by rw [hG.oth 4 (by omega) (by omega), h4]; rfl
    have e9 : a.tmps[9]?.getD undef = .pointer (some ⟨K, 0, none⟩) := by rw [hG.oth 9 (by omega) (by omega), h9]; rfl
    have e14 : a.tmps[14]?.getD undef = .slice na nn nc := by rw [hG.oth 14 (by omega) (by omega), h14]; rfl
    have e8 : a.tmps[8]?.getD undef = .int .i64 (p : Int) := by rw [hG.oth 8 (by omega) (by omega), h8]; rfl
    have hsw := hG.fr.size
    have hno : ∀ k i, Region.waitsFor .any ops k i = true → L.getD i false = false → L.getD k false = false := fun k i hw hi => by
      cases e : L.getD k false with
      | false => rfl
      | true => rw [hcl k i hw e] at hi; cases hi
    rcases (by omega : j = 0 ∨ j = 1 ∨ j = 2 ∨ j = 3 ∨ j = 4 ∨ j = 5 ∨ j = 6 ∨ j = 7 ∨ j = 8 ∨ j = 9 ∨ j = 10 ∨ j = 11 ∨ j = 12 ∨ j = 13 ∨ j = 14) with rfl | rfl | rfl | rfl | rfl | rfl | rfl | rfl | rfl | rfl | rfl | rfl | rfl | rfl | rfl
    · obtain ⟨_, _, _, ho⟩ := hops.o0
      have hb := hG.b1 (hno 12 0 hops.w12_0 hnl)
      have hc : w.cell? ⟨C, 0, none⟩ = some cv := by rw [Lib.cell_of_heap hb]; rfl
      refine wpOp_val (v := cv) (w' := w) ho rfl (by clear hts hI' hG hj hcl hno hb; go_simp) ?_
      exact hI'.put hj hj15 (by omega) hG.put0
    · obtain ⟨_, _, _, ho⟩ := hops.o1
      refine wpOp_val (v := .slice na nn nc) (w' := w) ho rfl (by clear hts hI' hG hj hcl hno; go_simp) ?_
      exact hI'.put hj hj15 (by omega) hG.put1
    · obtain ⟨_, _, _, ho⟩ := hops.o2
      have e83 : a.tmps[83]?.getD undef = .slice na nn nc := by rw [hG.s1 (ready_dep hj hops.w2_1)]; rfl
      refine wpOp_val (v := .slice (some ⟨w.heap.size, 0, none⟩) 1 1) (w' := w.alloc (.cells #[.slice na nn nc] TC)) ho rfl (by clear hts hI' hG hj hcl hno; go_simp) ?_
      exact hI'.put hj hj15 (by omega) hG.build2
    · obtain ⟨_, _, ho⟩ := hops.o3
      obtain ⟨m, v', w', hm, hrun, hG'⟩ := hG.app3 (ready_dep hj hops.w3_2) hnl (hno 12 3 hops.w12_3 hnl) hn rfl (by omega)
      have ea : a.eval (.tmp 82) = cv := by simp [Act.eval, hG.s0 (ready_dep hj hops.w3_0)]
      have eb : a.eval (.tmp 84) = .slice (some ⟨m, 0, none⟩) 1 1 := by
        have : a.tmps[84]? = some (.slice (some ⟨m, 0, none⟩) 1 1) := hm
        simp [Act.eval, this]
      refine wpOp_val (v := v') (w' := w') ho rfl (by simp [execOp, resolve, invoke, builtin, ea, eb, hrun, Result.andThen]) ?_
      exact hI'.put hj hj15 (by omega) hG'
    · obtain ⟨_, _, _, ho⟩ := hops.o4
      have hb := hG.b2 (hno 13 4 hops.w13_4 hnl)
      have hc : w.cell? ⟨C + 1, 0, none⟩ = some dv := by rw [Lib.cell_of_heap hb]; rfl
      refine wpOp_val (v := dv) (w' := w) ho rfl (by clear hts hI' hG hj hcl hno hb; go_simp) ?_
      exact hI'.put hj hj15 (by omega) hG.put4
    · obtain ⟨_, _, _, ho⟩ := hops.o5
      have hb := (hG.fr.block K (heap_lt hK) hKf).trans hK
      have hc : w.cell? ⟨K, 0, none⟩ = some (.slice (some ⟨R, 0, none⟩) n n) := by rw [Lib.cell_of_heap hb]; rfl
      refine wpOp_val (v := .slice (some ⟨R, 0, none⟩) n n) (w' := w) ho rfl (by clear hts hI' hG hj hcl hno hb; go_simp) ?_
      exact hI'.put hj hj15 (by omega) hG.put5
    · obtain ⟨_, _, _, ho⟩ := hops.o6
      have e87 : a.tmps[87]?.getD undef = .slice (some ⟨R, 0, none⟩) n n := by rw [hG.s5 (ready_dep hj hops.w6_5)]; rfl
      refine wpOp_val (v := .slice (some ⟨w.heap.size, 0, none⟩) 1 1) (w' := w.alloc (.cells #[.slice (some ⟨R, 0, none⟩) n n] TBl)) ho rfl (by clear hts hI' hG hj hcl hno; go_simp) ?_
      exact hI'.put hj hj15 (by omega) hG.build6
    · obtain ⟨_, _, ho⟩ := hops.o7
      obtain ⟨m, v', w', hm, hrun, hG'⟩ := hG.app7 (ready_dep hj hops.w7_6) hnl (hno 13 7 hops.w13_7 hnl) hn rfl (by omega)
      have ea : a.eval (.tmp 86) = dv := by simp [Act.eval, hG.s4 (ready_dep hj hops.w7_4)]
      have eb : a.eval (.tmp 88) = .slice (some ⟨m, 0, none⟩) 1 1 := by
        have : a.tmps[88]? = some (.slice (some ⟨m, 0, none⟩) 1 1) := hm
        simp [Act.eval, this]
      refine wpOp_val (v := v') (w' := w') ho rfl (by simp [execOp, resolve, invoke, builtin, ea, eb, hrun, Result.andThen]) ?_
      exact hI'.put hj hj15 (by omega) hG'
    · obtain ⟨_, _, _, ho⟩ := hops.o8
      have e5 : a.tmps[5]?.getD undef = pv := by rw [hG.f5 (hno 14 11 hops.w14_11 (hno 11 8 hops.w11_8 hnl)), h5]; rfl
      refine wpOp_val (v := pv) (w' := w) ho rfl (by clear hts hI' hG hj hcl hno; go_simp) ?_
      exact hI'.put hj hj15 (by omega) hG.put8
    · obtain ⟨_, _, _, ho⟩ := hops.o9
      refine wpOp_val (v := .int .i64 (p : Int)) (w' := w) ho rfl (by clear hts hI' hG hj hcl hno; go_simp) ?_
      exact hI'.put hj hj15 (by omega) hG.put9
    · obtain ⟨_, _, _, ho⟩ := hops.o10
      have e91 : a.tmps[91]?.getD undef = .int .i64 (p : Int) := by rw [hG.s9 (ready_dep hj hops.w10_9)]; rfl
      refine wpOp_val (v := .slice (some ⟨w.heap.size, 0, none⟩) 1 1) (w' := w.alloc (.cells #[.int .i64 (p : Int)] TZ)) ho rfl (by clear hts hI' hG hj hcl hno; go_simp) ?_
      exact hI'.put hj hj15 (by omega) hG.build10
    · obtain ⟨_, _, ho⟩ := hops.o11
      obtain ⟨m, v', w', hm, hrun, hG'⟩ := hG.app11 (ready_dep hj hops.w11_10) hnl (hno 14 11 hops.w14_11 hnl) hn rfl (by omega)
      have ea : a.eval (.tmp 90) = pv := by simp [Act.eval, hG.s8 (ready_dep hj hops.w11_8)]
      have eb : a.eval (.tmp 92) = .slice (some ⟨m, 0, none⟩) 1 1 := by
        have : a.tmps[92]? = some (.slice (some ⟨m, 0, none⟩) 1 1) := hm
        simp [Act.eval, this]
      refine wpOp_val (v := v') (w' := w') ho rfl (by simp [execOp, resolve, invoke, builtin, ea, eb, hrun, Result.andThen]) ?_
      exact hI'.put hj hj15 (by omega) hG'
    · obtain ⟨_, _, _, ho⟩ := hops.o12
      obtain ⟨x, v0, hx, hbx, hG'⟩ := hG.store12 (ready_dep hj hops.w12_3) hnl
      obtain ⟨x', hx', hrow, _⟩ := hG.c1.app (ready_dep hj hops.w12_3)
      have hxx : x' = x := by rw [hx] at hx'; exact (Option.some.inj hx').symm
      subst hxx
      obtain ⟨xa, xc, rfl, _, _⟩ := ownZ_slice hrow
      have ex : a.tmps[85]?.getD undef = .slice xa (n + 1) xc := by
        have : a.tmps[85]? = some (.slice xa (n + 1) xc) := hx
        rw [this]
        rfl
      have hc : w.cell? ⟨C, 0, none⟩ = some v0 := by rw [Lib.cell_of_heap hbx]; rfl
      have hf : w.frozen? ⟨C, 0, none⟩ = false := Lib.frozen_of_heap hbx 0
      refine wpOp_skip (w' := w.setCell ⟨C, 0, none⟩ (.slice xa (n + 1) xc)) ho rfl (by clear hts hI' hG hG' hj hcl hno hx hx' hbx hrow; go_simp) ?_
      exact hI'.skip hj hj15 hG'
    · obtain ⟨_, _, _, ho⟩ := hops.o13
      obtain ⟨x, v0, hx, hbx, hG'⟩ := hG.store13 (ready_dep hj hops.w13_7) hnl
      obtain ⟨x', hx', hrow, _⟩ := hG.c2.app (ready_dep hj hops.w13_7)
      have hxx : x' = x := by rw [hx] at hx'; exact (Option.some.inj hx').symm
      subst hxx
      obtain ⟨xa, xc, rfl, _, _⟩ := ownZ_slice hrow
      have ex : a.tmps[89]?.getD undef = .slice xa (n + 1) xc := by
        have : a.tmps[89]? = some (.slice xa (n + 1) xc) := hx
        rw [this]
        rfl
      have hc : w.cell? ⟨C + 1, 0, none⟩ = some v0 := by rw [Lib.cell_of_heap hbx]; rfl
      have hf : w.frozen? ⟨C + 1, 0, none⟩ = false := Lib.frozen_of_heap hbx 0
      refine wpOp_skip (w' := w.setCell ⟨C + 1, 0, none⟩ (.slice xa (n + 1) xc)) ho rfl (by clear hts hI' hG hG' hj hcl hno hx hx' hbx hrow; go_simp) ?_
      exact hI'.skip hj hj15 hG'
    · obtain ⟨_, _, _, ho⟩ := hops.o14
      obtain ⟨x, hx, hG'⟩ := hG.last (ready_dep hj hops.w14_11)
      have ex : a.tmps[93]?.getD undef = x := by
        have : a.tmps[93]? = some x := hx
        rw [this]
        rfl
      refine wpOp_val (v := x) (w' := w) ho rfl (by clear hts hI' hG hG' hj hcl hno hx; go_simp) ?_
      exact hI'.put hj hj15 (by omega) hG'
  · intro L a w hI hall
    obtain ⟨hL, hdf, hts, _, hG⟩ := hI
    have hl : ∀ j, j < 15 → L.getD j false = true := fun j hj => by
      have h := hall j
      have : j < L.size := by omega
      simp [this] at h ⊢
      exact h
    obtain ⟨cv', v85, rc, oc⟩ := hG.c1.app (hl 3 (by omega))
    obtain ⟨dv', v89, rd, od⟩ := hG.c2.app (hl 7 (by omega))
    obtain ⟨pv', v93, rp, op⟩ := hG.c3.app (hl 11 (by omega))
    obtain ⟨x1, y1, b1⟩ := hG.b1' (hl 12 (by omega))
    obtain ⟨x2, y2, b2⟩ := hG.b2' (hl 13 (by omega))
    obtain ⟨x3, y3, z3⟩ := hG.s14 (hl 14 (by omega))
    rw [v85] at y1
    rw [v89] at y2
    rw [v93] at y3
    cases y1
    cases y2
    cases y3
    have g84 : a.tmps[84]? = some (a.tmps[84]'(by omega)) := by simp
    have g88 : a.tmps[88]? = some (a.tmps[88]'(by omega)) := by simp
    have g92 : a.tmps[92]? = some (a.tmps[92]'(by omega)) := by simp
    have g82 := hG.s0 (hl 0 (by omega))
    have g83 := hG.s1 (hl 1 (by omega))
    have g86 := hG.s4 (hl 4 (by omega))
    have g87 := hG.s5 (hl 5 (by omega))
    have g90 := hG.s8 (hl 8 (by omega))
    have g91 := hG.s9 (hl 9 (by omega))
    have h := hQ cv' dv' pv' (a.tmps[84]'(by omega)) (a.tmps[88]'(by omega)) (a.tmps[92]'(by omega)) w hG.fr b1 b2 rc rd rp oc od op
    have ea : a = { a0 with tmps := fin24 a0.tmps pv' cv (.slice na nn nc) (a.tmps[84]'(by omega)) cv' dv (.slice (some ⟨R, 0, none⟩) n n) (a.tmps[88]'(by omega)) dv' pv (.int .i64 (p : Int)) (a.tmps[92]'(by omega)) pv' } := by
      have et : a.tmps = fin24 a0.tmps pv' cv (.slice na nn nc) (a.tmps[84]'(by omega)) cv' dv (.slice (some ⟨R, 0, none⟩) n n) (a.tmps[88]'(by omega)) dv' pv (.int .i64 (p : Int)) (a.tmps[92]'(by omega)) pv' := by
        apply Array.ext_getElem?
        intro i
        unfold fin24
        simp only [Array.getElem?_setIfInBounds, Array.size_setIfInBounds, hsz]
        by_cases i5 : 5 = i
        · subst i5; rw [if_pos rfl, if_pos (by omega)]; exact z3
        rw [if_neg i5]
        by_cases i93 : 93 = i
        · subst i93; rw [if_pos rfl, if_pos (by omega)]; exact v93
        rw [if_neg i93]
        by_cases i92 : 92 = i
        · subst i92; rw [if_pos rfl, if_pos (by omega)]; exact g92
        rw [if_neg i92]
        by_cases i91 : 91 = i
        · subst i91; rw [if_pos rfl, if_pos (by omega)]; exact g91
        rw [if_neg i91]
        by_cases i90 : 90 = i
        · subst i90; rw [if_pos rfl, if_pos (by omega)]; exact g90
        rw [if_neg i90]
        by_cases i89 : 89 = i
        · subst i89; rw [if_pos rfl, if_pos (by omega)]; exact v89
        rw [if_neg i89]
        by_cases i88 : 88 = i
        · subst i88; rw [if_pos rfl, if_pos (by omega)]; exact g88
        rw [if_neg i88]
        by_cases i87 : 87 = i
        · subst i87; rw [if_pos rfl, if_pos (by omega)]; exact g87
        rw [if_neg i87]
        by_cases i86 : 86 = i
        · subst i86; rw [if_pos rfl, if_pos (by omega)]; exact g86
        rw [if_neg i86]
        by_cases i85 : 85 = i
        · subst i85; rw [if_pos rfl, if_pos (by omega)]; exact v85
        rw [if_neg i85]
        by_cases i84 : 84 = i
        · subst i84; rw [if_pos rfl, if_pos (by omega)]; exact g84
        rw [if_neg i84]
        by_cases i83 : 83 = i
        · subst i83; rw [if_pos rfl, if_pos (by omega)]; exact g83
        rw [if_neg i83]
        by_cases i82 : 82 = i
        · subst i82; rw [if_pos rfl, if_pos (by omega)]; exact g82
        rw [if_neg i82]
        exact hG.oth i (by omega) (by omega)
      cases a
      cases a0
      simp only at et hdf
      rw [hdf]
      exact congrArg (fun t => Act.mk t _) et
    rw [ea]
    exact h
  · refine ⟨by rw [hops.size]; simp, rfl, hsz, fun j i hw hj => ?_, ?_⟩
    · exfalso
      have : ∀ m, (Array.replicate ops.size false).getD m false = false := fun m => by by_cases h : m < ops.size <;> simp [h]
      rw [this] at hj
      cases hj
    · have hz : (fun i => (Array.replicate ops.size false).getD i false) = fun _ => false := by funext i; by_cases h : i < ops.size <;> simp [h]
      rw [hz]
      exact ⟨fun _ _ _ => rfl, fun _ => rfl, fun e => (by cases e), fun e => (by cases e), fun e => (by cases e), fun e => (by cases e), fun e => (by cases e), fun e => (by cases e),
        ⟨fun _ => ownZ_block hc (fun _ _ => rfl), fun _ e => (by cases e), fun e => (by cases e)⟩, ⟨fun _ => ownZ_block hd (fun _ _ => rfl), fun _ e => (by cases e), fun e => (by cases e)⟩, ⟨fun _ => ownZ_block hp (fun _ _ => rfl), fun _ e => (by cases e), fun e => (by cases e)⟩,
        fun _ => hC, fun e => (by cases e), fun _ => hD, fun e => (by cases e), fun e => (by cases e), ⟨rfl, rfl, rfl, Nat.le_refl _, fun _ _ _ => rfl⟩⟩

end Go.Proofs.Ytpkmdonejmbnoaa
