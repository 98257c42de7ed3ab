/-
  codec's writeInt writes the encoding of an integer into a builder; codec.Int returns it.
-/
import Derived.Test.YtpkmdonejmbnoaaIterB
namespace Go.Proofs.Ytpkmdonejmbnoaa
open Go.RowKit Go.Shelf
attribute [local go_sem] Oper.semAt_some

theorem cells_stay {W W' : World} {row : Option Nat} {B k : Nat} {c : Array Value} {t : TypeId} {fz : Nat × Nat} (h : W.heap[k]? = some (.cells c t fz)) (hg : W.grownBy W' row) (hr : ∀ r, row = some r → B ≤ r ∧ ∃ o : Obj, W.heap[r]? = some o ∧ o.isCells = false) : W'.heap[k]? = some (.cells c t fz) := by
  rw [hg.block k (Array.getElem?_eq_some_iff.1 h).1 ?_]
  · exact h
  · intro e
    obtain ⟨_, o, ho, hc⟩ := hr k e.symm
    rw [h] at ho
    cases ho
    simp [Obj.isCells] at hc
theorem Bld.stay {z : Option Nat} {B0 B b : Nat} {bs : List Value} {W W' : World} {row : Option Nat} (h : Bld z B b bs W) (hg : W.grownBy W' row) (hr : ∀ r, row = some r → B0 ≤ r ∧ ∃ o : Obj, W.heap[r]? = some o ∧ o.isCells = false) : Bld z B b bs W' := by
  refine h.grown hg ?_ ?_
  · rintro rfl
    obtain ⟨_, o, ho, hc⟩ := hr b rfl
    obtain ⟨p, v, _, _, hb, _⟩ := h
    rw [hb] at ho
    cases ho
    simp [Obj.isCells] at hc
  · rintro k c fz rfl hk
    obtain ⟨_, o, ho, hc⟩ := hr k rfl
    rw [hk] at ho
    cases ho
    simp [Obj.isCells] at hc
/-- What a write leaves to whoever holds no cells. -/
theorem Wrote.keeps {z : Option Nat} {B b : Nat} {bs : List Value} {W W' : World} (h : Wrote B b z W W') (hb : Bld z B b bs W) : KeepsOthers W W' := by
  refine ⟨h.below.size, fun k o hk hc => h.others k o hk ?_ ?_⟩
  · intro e
    cases e
    obtain ⟨p, v, _, _, hbk, _⟩ := hb
    rw [hbk] at hk
    cases hk
    simp [Obj.isCells] at hc
  · rintro c fz rfl
    simp [Obj.isCells] at hc

set_option maxRecDepth 100000 in
set_option maxHeartbeats 2000000 in
theorem writeInt_any (B b : Nat) (bs : List Value) (n : Int) (w : World) (h : Bld none B b bs w) (hn : InR n) (hlen : bs.length + 10 ≤ 140737488355328) :
    Calls Try.prog 62 #[.pointer (some ⟨b, 0, none⟩), .int .i64 n] w fun e w' => e = .returned (.tuple #[]) ∧ Bld none B b (bs ++ Lib.byteCells (encInt n)) w' ∧ Below B w w' := by
  refine (callsIn_wide (n := 5)).1 ?_
  refine callsIn_of_wp_marks Try.func62 rfl trivial ?_ rfl
  simp only [Try.ntmps62, List.size_toArray, List.length_cons, List.length_nil, Nat.reduceAdd, Nat.reduceSub, Array.replicate_succ, Array.replicate_zero, List.push_toArray, List.append_toArray, List.nil_append, List.cons_append]
  have hBb := h.lt
  gi_wp2_with (refine ⟨trivial, ?_⟩; gi_at_call 69; refine (callsIn_wide.2 (intBytes_any n _ hn)).mono ?_; rintro e w' ⟨rfl, rfl⟩)
  obtain ⟨w0, hw0⟩ : ∃ w0, (w.alloc (.cells #[.pointer (some ⟨b, 0, none⟩)] 72)) = w0 := ⟨_, rfl⟩
  obtain ⟨w1, hw1⟩ : ∃ w1, w0.alloc (.cells #[.int .u64 (magOf n : Int)] 96) = w1 := ⟨_, rfl⟩
  obtain ⟨w2, hw2⟩ : ∃ w2, w1.alloc (.cells #[.int .u8 ((invOf n).toNat : Int)] T8) = w2 := ⟨_, rfl⟩
  rw [hw0, hw1, hw2]
  have s0 : w0.heap.size = w.heap.size + 1 := by rw [← hw0]; simp
  have s1 : w1.heap.size = w.heap.size + 1 + 1 := by rw [← hw1]; simp [s0]
  have s2 : w2.heap.size = w.heap.size + 1 + 1 + 1 := by rw [← hw2]; simp [s1]
  have g0 : w0.heap[w.heap.size]? = some (.cells #[.pointer (some ⟨b, 0, none⟩)] 72 (0, 0)) := by rw [← hw0]; exact World.alloc_heap_new w _
  have g1 : w1.heap[w.heap.size]? = some (.cells #[.pointer (some ⟨b, 0, none⟩)] 72 (0, 0)) := by rw [← hw1, Lib.alloc_old _ _ _ (by omega)]; exact g0
  have g2 : w2.heap[w.heap.size]? = some (.cells #[.pointer (some ⟨b, 0, none⟩)] 72 (0, 0)) := by rw [← hw2, Lib.alloc_old _ _ _ (by omega)]; exact g1
  have m1 : w1.heap[w.heap.size + 1]? = some (.cells #[.int .u64 (magOf n : Int)] 96 (0, 0)) := by rw [← hw1, ← s0]; exact World.alloc_heap_new w0 _
  have m2 : w2.heap[w.heap.size + 1]? = some (.cells #[.int .u64 (magOf n : Int)] 96 (0, 0)) := by rw [← hw2, Lib.alloc_old _ _ _ (by omega)]; exact m1
  have i2 : w2.heap[w.heap.size + 1 + 1]? = some (.cells #[.int .u8 ((invOf n).toNat : Int)] T8 (0, 0)) := by rw [← hw2, ← s1]; exact World.alloc_heap_new w1 _
  have hb2 : Bld (some (w.heap.size + 1 + 1)) B b bs w2 := by
    have a0 : Bld none B b bs w0 := by rw [← hw0]; exact h.alloc _
    have a1 : Bld none B b bs w1 := by rw [← hw1]; exact a0.alloc _
    rw [← hw2, ← s1]; exact a1.avoid _
  have hbel : Below B w w2 := by
    rw [← hw2, ← hw1, ← hw0]
    exact (((Below.refl B w).alloc (by omega) _).alloc (by simp; omega) _).alloc (by simp; omega) _
  clear hw0 hw1 hw2 g0 g1 m1
  refine wpIn_rangeFunc_ownF (w0 := w2) rfl (by omega) (gf := 74) (lb := #[.pointer (some ⟨w.heap.size + 1, 0, none⟩), .pointer (some ⟨w.heap.size + 1 + 1, 0, none⟩)]) rfl trivial (enters_of Try.func74 (by kernel_rfl) rfl)
    (iter_stops (5 - 1) (by omega) (w.heap.size + 1) (w.heap.size + 1 + 1) (magOf n) (invOf n) (magOf_le hn) (by rcases invOf_cases n with h | h <;> simp [h.1]) w2 m2 i2)
    (fun h k => ⟨k.1.trans h.1, k.2.trans h.2⟩) (fun W l o o' hl _ _ _ => ⟨World.putObj_heap_other (by omega), World.putObj_heap_other (by omega)⟩) (Below.refl _ _) (fun _ => rfl)
    (fun pre W => (Bld (some (w.heap.size + 1 + 1)) B b (bs ++ pre.map (Value.int .u8)) W ∧ W.heap[w.heap.size]? = some (.cells #[.pointer (some ⟨b, 0, none⟩)] 72 (0, 0)) ∧ W.heap[w.heap.size + 1 + 1]? = some (.cells #[.int .u8 ((invOf n).toNat : Int)] T8 (0, 0)) ∧ W.heap[w.heap.size + 1]? = some (.cells #[.int .u64 (magOf n : Int)] 96 (0, 0))) ∧ Below B w W)
    (fun _ _ _ => False)
    (OwnFrom.and (fun s A A' row hs hg hr => ⟨hs.1.stay hg hr, cells_stay hs.2.1 hg hr, cells_stay hs.2.2.1 hg hr, cells_stay hs.2.2.2 hg hr⟩) (ownFrom_below (by omega) (by omega)))
    (fun _ _ _ _ _ hs _ _ => hs)
    ⟨⟨by simpa using hb2, g2, i2, m2⟩, hbel⟩
    (fun x => { tmps := #[.pointer (some ⟨b, 0, none⟩), .int .i64 n, .pointer (some ⟨w.heap.size, 0, none⟩), undef, .int .u8 x, .int .i64 n, .func (.func 74) #[] #[.pointer (some ⟨w.heap.size + 1, 0, none⟩), .pointer (some ⟨w.heap.size + 1 + 1, 0, none⟩)], .int .u8 x, undef, undef, undef], defers := [] }) ?assign ?body ?done ?stop
  case assign =>
    intro l x W K hK
    gi_wp2
    exact hK
  case body =>
    rintro l pre x W ⟨⟨hB, hBo, hBi, hBm⟩, hbw⟩ hlen2
    have co : W.cell? ⟨w.heap.size, 0, none⟩ = some (.pointer (some ⟨b, 0, none⟩)) := by rw [Lib.cell_of_heap hBo]; rfl
    have HO := Lib.hid hBo
    have HI := Lib.hid hBi
    have HM := Lib.hid hBm
    clear hBo hBi hBm g2 m2 i2
    gi_wp2_with (refine ⟨trivial, ?_⟩; gi_at_call 63; refine (CallsIn.inRound l (callsIn_wide.2 (writeByte (some (w.heap.size + 1 + 1)) B b _ x _ hB (by rintro k ⟨rfl⟩; exact ⟨_, _, HI.out⟩) (by simp; omega)))).mono ?_; rintro e w' ⟨rfl, h1, h2⟩)
    have hm' := h2.others _ _ HM.out (by intro e; cases e; omega) (by intro c fz e; cases e)
    have ho' := h2.others _ _ HO.out (by intro e; cases e; omega) (by intro c fz e; cases e)
    have hi' := (h2.kept _ rfl).trans HI.out
    exact ⟨h2.keeps hB, ⟨hm'.trans HM.out.symm, h2.kept _ rfl⟩, ⟨by simpa using h1, ho', hi', hm'⟩, hbw.trans h2.below⟩
  case done =>
    rintro D xs W hD rfl ⟨⟨hB, _, _, _⟩, hbw⟩ hK
    gi_wp2
    refine ⟨by simp, .inl ⟨_, _, rfl, run_takeDeferred hK, ?_⟩⟩
    refine ⟨_, results_none rfl _ _ _, rfl, ?_, hbw.trans (belowK_b (w := w) (by omega) W D _ _ (by omega) hK rfl rfl)⟩
    have e : List.map (Value.int IntKind.u8) (List.map (fun c => (c.toNat : Int)) (encM (magOf n) (invOf n))) = Lib.byteCells (encInt n) := by
      rw [List.map_map]; rfl
    rw [← e]
    refine (hB.stay (B0 := 0) (grownBy_putObj' W D (.deferred none)) ?_).drop
    rintro r e
    cases e
    exact ⟨Nat.zero_le _, _, hK, rfl⟩
  case stop =>
    rintro D c pre W _ _ hf _
    exact hf.elim

end Go.Proofs.Ytpkmdonejmbnoaa
