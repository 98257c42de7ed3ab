/-
  What strings.Builder's copyCheck and WriteByte do in this program, with a frame that also reaches a block of one byte that lies above the builder; and the small pure functions digits and inRange of codec.
-/
import Derived.Test.YtpkmdonejmbnoaaShelf
import Derived.Test.YtpkmdonejmbnoaaPlain
import Derived.Test.YtpkmdonejmbnoaaRows
import Derived.WalkKit
import Derived.WalkSpells
import Derived.WalkLawsBesides
import Derived.BigCall
import Derived.Lib.Hide
import Derived.RangeFuncRecord
import Derived.Lib.FrozenHead2
import Derived.Lib.OthersKept
namespace Go.Proofs.Ytpkmdonejmbnoaa
open Go.RowKit

abbrev TB : TypeId := 75
abbrev T8 : TypeId := 5

theorem sizeTB : (Try.prog.info? TB).map (·.size) = some 2 := by kernel_rfl
theorem liesTB : liesAt Try.prog Try.prog.depth TB (2 / Try.prog.cellsOf TB) 0 TB 1 = true := by kernel_rfl
theorem info8 : (Try.prog.info? T8).map (fun i => (i.zero, i.size, i.bytes)) = some (some (.int .u8 0), 1, 1) := by kernel_rfl

set_option maxHeartbeats 1000000 in
set_option maxRecDepth 100000 in
theorem copyCheck_used (b : Nat) (w : World) (h0 : w.cell? ⟨b, 0, none⟩ = some (.pointer (some ⟨b, 0, none⟩))) :
    Calls Try.prog 70 #[.pointer (some ⟨b, 0, none⟩)] w fun e w' => e = .returned (.tuple #[]) ∧ w' = w := by
  obtain ⟨j, hj, _⟩ := Option.map_eq_some_iff.1 sizeTB
  go_enter Try.func70, Try.ntmps70
  go_wp2
  rw [Lib.run_neq_ptr_same w _ Try.underlying72 hj]
  go_wp2
  go_end0
  exact ⟨rfl, rfl⟩

set_option maxHeartbeats 1000000 in
set_option maxRecDepth 100000 in
theorem copyCheck_fresh (b : Nat) (w : World) (h0 : w.cell? ⟨b, 0, none⟩ = some (.pointer none)) (hsh : w.shape? b = some (TB, 2)) (hfz : w.frozen? ⟨b, 0, none⟩ = false) :
    Calls Try.prog 70 #[.pointer (some ⟨b, 0, none⟩)] w fun e w' => e = .returned (.tuple #[]) ∧ w' = w.setCell ⟨b, 0, none⟩ (.pointer (some ⟨b, 0, none⟩)) := by
  obtain ⟨j, hj, hjs⟩ := Option.map_eq_some_iff.1 sizeTB
  go_enter Try.func70, Try.ntmps70
  go_wp2
  rw [Lib.run_to_unsafe w ⟨b, 0, none⟩ Try.underlying72 Try.underlying99 hj (by rw [hjs]; decide) hsh (Nat.zero_lt_succ 1)]
  simp only [Result.andThen]
  rw [Oper.upon_value]
  go_wp2
  rw [run_callFunc_extern Try.func76 (by kernel_rfl) (by kernel_rfl) (by kernel_rfl) (e := Extern.AbiNoEscape.same) (by kernel_rfl)]
  rw [Lib.run_noEscape]
  simp only [Result.andThen]
  rw [Oper.upon_value]
  go_wp2
  rw [Lib.run_from_unsafe w ⟨b, 0, none⟩ Try.underlying99 Try.underlying72 hj hsh liesTB]
  simp only [Result.andThen]
  rw [Oper.upon_value]
  go_wp2
  go_end0
  exact ⟨rfl, rfl⟩

/-- A strings.Builder in block b that holds the bytes bs, as cells; its row is not the block z. -/
def Bld (z : Option Nat) (B b : Nat) (bs : List Value) (w : World) : Prop :=
  ∃ p v, (p = Value.pointer none ∨ p = .pointer (some ⟨b, 0, none⟩)) ∧ B ≤ b ∧ w.heap[b]? = some (.cells #[p, v] TB (0, 0)) ∧ w.ownsRowF B T8 1 v bs.length bs ∧ v.ownBlock ≠ some b ∧ (v = .slice none 0 0 ↔ bs = []) ∧ (∀ k, z = some k → v.ownBlock ≠ some k)

theorem Bld.fresh (w : World) : Bld none w.heap.size w.heap.size [] (w.alloc (.cells #[.pointer none, .slice none 0 0] TB)) :=
  ⟨_, _, .inl rfl, Nat.le_refl _, World.alloc_heap_new w _, World.ownsRowF_nil _ _ _ _, by simp [Value.ownBlock], by simp, by simp⟩
theorem Bld.isF {z : Option Nat} {B b : Nat} {bs : List Value} {w : World} (h : Bld z B b bs w) : Lib.IsBuilderF TB T8 B b bs w := by
  obtain ⟨p, v, hp, hB, hb, hown, hne, _, _⟩ := h
  rcases hp with rfl | rfl
  · exact .inl ⟨hB, v, hb, hown, hne⟩
  · exact .inr ⟨hB, v, hb, hown, hne⟩
theorem Bld.lt {z : Option Nat} {B b : Nat} {bs : List Value} {w : World} (h : Bld z B b bs w) : B ≤ b ∧ b < w.heap.size := by
  obtain ⟨p, v, hp, hB, hb, _⟩ := h
  exact ⟨hB, (Array.getElem?_eq_some_iff.1 hb).1⟩
theorem Bld.drop {z : Option Nat} {B b : Nat} {bs : List Value} {w : World} (h : Bld z B b bs w) : Bld none B b bs w := by
  obtain ⟨p, v, a1, a2, a3, a4, a5, a6, _⟩ := h
  exact ⟨p, v, a1, a2, a3, a4, a5, a6, by simp⟩
/-- Whatever keeps the builder's block and every other row keeps the builder. -/
theorem Bld.grown {z : Option Nat} {B b : Nat} {bs : List Value} {w w' : World} {row : Option Nat} (h : Bld z B b bs w) (hg : w.grownBy w' row) (hb : row ≠ some b) (hr : ∀ k c fz, row = some k → w.heap[k]? ≠ some (.cells c T8 fz)) : Bld z B b bs w' := by
  obtain ⟨p, v, a1, a2, a3, a4, a5, a6, a7⟩ := h
  have hlt := (Array.getElem?_eq_some_iff.1 a3).1
  refine ⟨p, v, a1, a2, (hg.block b hlt (fun e => hb e.symm)).trans a3, a4.kept hg ?_, a5, a6, a7⟩
  cases hv : v.ownBlock with
  | none => exact .inl rfl
  | some k =>
    right
    rintro rfl
    rcases a4.2 with ⟨rfl, _⟩ | ⟨g, cap, cur, fz, rfl, _, hgg, _⟩
    · simp [Value.ownBlock] at hv
    · simp [Value.ownBlock] at hv
      subst hv
      exact hr g cur fz rfl hgg
theorem Bld.alloc {z : Option Nat} {B b : Nat} {bs : List Value} {w : World} (h : Bld z B b bs w) (o : Obj) : Bld z B b bs (w.alloc o) :=
  h.grown (World.grownBy_alloc w o none) (by simp) (by simp)
theorem Bld.avoid {z : Option Nat} {B b : Nat} {bs : List Value} {w : World} (h : Bld z B b bs w) (o : Obj) : Bld (some w.heap.size) B b bs (w.alloc o) := by
  have h1 := h.drop.alloc o
  obtain ⟨p, v, a1, a2, a3, a4, a5, a6, _⟩ := h
  have hlt := (Array.getElem?_eq_some_iff.1 a3).1
  refine ⟨p, v, a1, a2, ?_, a4.alloc o, a5, a6, ?_⟩
  · rw [Lib.alloc_old w o b hlt]; exact a3
  · rintro k e hk
    cases e
    have := (a4.lt _ hk).2
    omega

theorem ownsRowF_base {w : World} {B C : Nat} {v : Value} {n : Nat} {xs : List Value} (hBC : C ≤ B) (h : w.ownsRowF B T8 1 v n xs) : w.ownsRowF C T8 1 v n xs := by
  refine ⟨h.1, ?_⟩
  rcases h.2 with h | ⟨g, cap, cur, fz, a, b, r⟩
  · exact .inl h
  · exact .inr ⟨g, cap, cur, fz, a, by omega, r⟩

set_option maxHeartbeats 1000000 in
set_option maxRecDepth 100000 in
/-- copyCheck: behind it the builder holds its own address. -/
theorem copyCheck_any (z : Option Nat) (B b : Nat) (bs : List Value) (w : World) (h : Bld z B b bs w) :
    Calls Try.prog 70 #[.pointer (some ⟨b, 0, none⟩)] w fun e w' => e = .returned (.tuple #[]) ∧ (∃ v, w'.heap[b]? = some (.cells #[.pointer (some ⟨b, 0, none⟩), v] TB (0, 0)) ∧ w'.ownsRowF B T8 1 v bs.length bs ∧ v.ownBlock ≠ some b ∧ (v = .slice none 0 0 ↔ bs = []) ∧ (∀ k, z = some k → v.ownBlock ≠ some k)) ∧ w.grownBy w' (some b) ∧ w'.heap.size = w.heap.size := by
  obtain ⟨p, v, hp, hB, hb, hown, hne, hnil, hz⟩ := h
  rcases hp with rfl | rfl
  · refine (copyCheck_fresh b w (by rw [Lib.cell_of_heap hb]; rfl) (by simp [World.shape?, hb]) (Lib.frozen_of_heap hb 0)).mono ?_
    rintro e w' ⟨rfl, rfl⟩
    have hg : w.grownBy (w.setCell ⟨b, 0, none⟩ (.pointer (some ⟨b, 0, none⟩))) (some b) := ⟨rfl, rfl, rfl, by simp [World.setCell], fun k _ hk => Below.heap_setCell _ _ _ _ (fun e => hk (by simp [e]))⟩
    refine ⟨rfl, ⟨v, ?_, hown.kept hg (Or.inr hne), hne, hnil, hz⟩, hg, by simp [World.setCell]⟩
    simp [World.setCell, Array.getElem?_modify, hb]
  · refine (copyCheck_used b w (by rw [Lib.cell_of_heap hb]; rfl)).mono ?_
    rintro e w' ⟨rfl, rfl⟩
    exact ⟨rfl, ⟨v, hb, hown, hne, hnil, hz⟩, ⟨rfl, rfl, rfl, Nat.le_refl _, fun _ _ _ => rfl⟩, rfl⟩

/-- What a write into the builder in block b leaves. -/
structure Wrote (B b : Nat) (z : Option Nat) (w w' : World) : Prop where
  below : Below B w w'
  others : Lib.OthersKept T8 (some b) w w'
  kept : ∀ k, z = some k → w'.heap[k]? = w.heap[k]?
theorem Wrote.trans {B b : Nat} {z : Option Nat} {u v w : World} (h : Wrote B b z u v) (k : Wrote B b z v w) : Wrote B b z u w :=
  ⟨h.below.trans k.below, h.others.trans k.others, fun i hi => (k.kept i hi).trans (h.kept i hi)⟩
theorem Wrote.refl (B b : Nat) (z : Option Nat) (w : World) : Wrote B b z w w := ⟨Below.refl _ _, Lib.OthersKept.refl _ _ _, fun _ _ => rfl⟩

set_option maxHeartbeats 2000000 in
set_option maxRecDepth 100000 in
/-- (*strings.Builder).WriteByte. -/
theorem writeByte (z : Option Nat) (B b : Nat) (bs : List Value) (c : Int) (w : World) (h : Bld z B b bs w) (hz : ∀ k, z = some k → ∃ x fz, w.heap[k]? = some (.cells #[x] T8 fz)) (hlen : bs.length + 1 ≤ 140737488355328) :
    Calls Try.prog 63 #[.pointer (some ⟨b, 0, none⟩), .int .u8 c] w fun e w' => e = .returned .nilIface ∧ Bld z B b (bs ++ [.int .u8 c]) w' ∧ Wrote B b z w w' := by
  obtain ⟨i0, hi, hz0, hz1, hz2⟩ := info_parts info8
  have hBb := h.lt
  go_enter Try.func63, Try.ntmps63
  go_wp2_with (go_at_call 70; refine (copyCheck_any z B b bs _ h).mono ?_)
  rintro e w1 ⟨rfl, ⟨v, hbk, hown, hne, hnil, hzv⟩, hg1, hsz⟩
  have c0 : w1.cell? ⟨b, 0, none⟩ = some (.pointer (some ⟨b, 0, none⟩)) := by rw [Lib.cell_of_heap hbk]; rfl
  have c1 : w1.cell? ⟨b, 1, none⟩ = some v := by rw [Lib.cell_of_heap hbk]; rfl
  obtain ⟨B0, hB0, hB0s, hown0, hB0n⟩ : ∃ B0, B ≤ B0 ∧ B0 ≤ w1.heap.size ∧ w1.ownsRowF B0 T8 1 v bs.length bs ∧ (v = .slice none 0 0 → B0 = w1.heap.size) := by
    by_cases hv : v = .slice none 0 0
    · refine ⟨w1.heap.size, by omega, Nat.le_refl _, ?_, fun _ => rfl⟩
      have hbs := hnil.1 hv
      subst hbs; subst hv
      exact World.ownsRowF_nil _ _ _ _
    · exact ⟨B, Nat.le_refl _, by omega, hown, fun e => absurd e hv⟩
  have HN := Lib.hid hnil
  have HZ := Lib.hid hz
  have HS := Lib.hid hsz
  clear hnil hz hsz
  go_wp2_with (at_builtin; refine wpList_append_ownF _ rfl _ _ 73 rfl B0 T8 i0 (.int .u8 0) 1 1 Try.underlying73 hi hz0 hz1 hz2 rfl (by decide) _ _ _ rfl (hown0.alloc _) ⟨w1.heap.size, 0, none⟩ 1 1 [.int .u8 c] rfl rfl ?c1 ?c2 ?c3 ?c4 ?c5 ?_)
  case c1 =>
    intro j u hj
    match j, hj with
    | 0, hj => simp at hj; subst hj; simp [Addr.add]
  case c2 => intro u hu; simp at hu; subst hu; rfl
  case c3 => unfold maxLen; omega
  case c4 => omega
  case c5 => simp; omega
  intro v' w2 hown' hgrow _
  have hlt : b < w1.heap.size := (Array.getElem?_eq_some_iff.1 hbk).1
  have hb2 : w2.heap[b]? = some (.cells #[.pointer (some ⟨b, 0, none⟩), v] TB (0, 0)) := by
    rw [hgrow.block b (by simp; omega) (fun e => hne e.symm), Lib.alloc_old w1 _ b hlt]
    exact hbk
  have d0 : w2.cell? ⟨b, 0, none⟩ = some (.pointer (some ⟨b, 0, none⟩)) := by rw [Lib.cell_of_heap hb2]; rfl
  have d1 : w2.cell? ⟨b, 1, none⟩ = some v := by rw [Lib.cell_of_heap hb2]; rfl
  have f1 : w2.frozen? ⟨b, 1, none⟩ = false := Lib.frozen_of_heap hb2 1
  obtain ⟨g, cap, rfl⟩ : ∃ g cap, v' = .slice (some ⟨g, 0, none⟩) (bs.length + 1) cap := by
    rcases hown'.2 with ⟨_, h0⟩ | ⟨g, cap, cur, fz, hv, _⟩
    · omega
    · exact ⟨g, cap, hv⟩
  go_wp2
  go_ret
  have hsz := HS.out
  have hnil := HN.out
  have hz := HZ.out
  have hk1 : Lib.OthersKept T8 (some b) w w1 := fun k o hk hb _ => by
    rw [hg1.block k (Array.getElem?_eq_some_iff.1 hk).1 hb]; exact hk
  have hB1 : Below B w w1 := ⟨hg1.os, hg1.tape, hg1.output, hg1.size, fun k hk => hg1.block k (by omega) (by intro e; cases e; omega)⟩
  have hgk : ∀ k, k < w1.heap.size → some k ≠ v.ownBlock → k ≠ b → (w2.setCell ⟨b, 1, none⟩ (.slice (some ⟨g, 0, none⟩) (bs.length + 1) cap)).heap[k]? = w.heap[k]? := fun k hk hv hb => by
    rw [Below.heap_setCell _ _ _ _ (fun e => hb e), hgrow.block k (by simp; omega) hv, Lib.alloc_old w1 _ k hk]
    exact hg1.block k (by omega) (by simpa using hb)
  have hzk : ∀ k, z = some k → some k ≠ v.ownBlock ∧ k < w.heap.size ∧ k ≠ b := fun k hk => by
    obtain ⟨x, fz, hx⟩ := hz k hk
    have hkl := (Array.getElem?_eq_some_iff.1 hx).1
    refine ⟨fun e => hzv k hk e.symm, hkl, ?_⟩
    rintro rfl
    obtain ⟨p, v0, _, _, hb0, _⟩ := h
    rw [hb0] at hx
    simp [TB, T8] at hx
  have hgb : g ≠ b := by
    intro e
    subst e
    rcases hown'.2 with ⟨e, _⟩ | ⟨g', cap', cur', fz', e, _, hg', _⟩
    · cases e
    · cases e
      rw [hb2] at hg'
      simp [TB, T8] at hg'
  have hgB : B ≤ g := by
    have := (hown'.lt g rfl).1
    omega
  have hrow : (w2.setCell ⟨b, 1, none⟩ (.slice (some ⟨g, 0, none⟩) (bs.length + 1) cap)).ownsRowF B T8 1 (.slice (some ⟨g, 0, none⟩) (bs.length + 1) cap) (bs ++ [Value.int .u8 c]).length (bs ++ [Value.int .u8 c]) := by
    have := ownsRowF_base hB0 hown'
    have h2 := this.kept (row := some b) (w' := w2.setCell ⟨b, 1, none⟩ (.slice (some ⟨g, 0, none⟩) (bs.length + 1) cap)) ⟨rfl, rfl, rfl, by simp [World.setCell], fun k _ hk => Below.heap_setCell _ _ _ _ (fun e => hk (by simp [e]))⟩ (Or.inr (by simp [Value.ownBlock]; exact hgb))
    simpa using h2
  refine ⟨rfl, ⟨_, _, .inr rfl, hBb.1, ?_, hrow, by simp [Value.ownBlock]; exact hgb, by simp, ?_⟩, ⟨?_, ?_, ?_⟩⟩
  · simp [World.setCell, Array.getElem?_modify, hb2]
  · -- the new row is not the block z
    intro k hk
    obtain ⟨h1, h2, h3⟩ := hzk k hk
    intro e
    simp [Value.ownBlock] at e
    subst e
    obtain ⟨x, fz, hx⟩ := hz g hk
    by_cases hv : v = .slice none 0 0
    · have := hB0n hv
      have := (hown'.lt g rfl).1
      omega
    · have hbs : bs ≠ [] := fun e => hv (hnil.2 e)
      have hl : 1 ≤ bs.length := by cases bs with | nil => exact absurd rfl hbs | cons => simp
      rcases hown'.2 with ⟨e, _⟩ | ⟨g', cap', cur', fz', e, _, hg', _, hn, _, hs, _⟩
      · cases e
      · cases e
        have : w2.heap[g]? = w.heap[g]? := by
          rw [hgrow.block g (by simp; omega) h1, Lib.alloc_old w1 _ g (by omega)]
          exact hg1.block g (by omega) (by simpa using h3)
        rw [this, hx] at hg'
        injection hg' with hg'
        injection hg' with hg1' _ _
        subst hg1'
        simp at hs
        omega
  · exact ((hB1.alloc (by omega) _).grown hgrow (by simp; omega) (fun k hk => (hown.lt k hk).1)).setCell (p := ⟨b, 1, none⟩) hBb.1 _
  · exact ((hk1.alloc _).grown hgrow (Lib.ownsRowF_kind (hown.alloc _))).setCell ⟨b, 1, none⟩ rfl _
  · intro k hk
    obtain ⟨h1, h2, h3⟩ := hzk k hk
    exact hgk k (by omega) h1 h3

end Go.Proofs.Ytpkmdonejmbnoaa
