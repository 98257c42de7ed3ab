/-
  Causality: a round's beginning and its end.
-/
import Derived.Test.YtpkmdonejmbnoaaVcHaps
namespace Go.Proofs.Ytpkmdonejmbnoaa
open Go.RowKit

theorem alloc_size (w : World) (o : Obj) : (w.alloc o).heap.size = w.heap.size + 1 := Array.size_push _
theorem Lm.start {N R i : Nat} {w2 w4 : World} {v4 : Value} (ho : w2.ownsRow N TBo 1 (.slice (some ⟨R, 0, none⟩) i i) i (boolV i fun _ => false)) (hR : R < w2.heap.size)
    (b4 : Below (w2.heap.size + 1) (w2.alloc (.cells #[.slice (some ⟨R, 0, none⟩) i i] TBl)) w4) (hk : KlF (w2.heap.size + 1) w4 v4 zero4) :
    Lm N w2.heap.size R w4.heap.size (w4.heap.size + 1) i (fun _ => false, zero4) ((w4.alloc (.cells #[v4] 23)).alloc (.cells #[.int .i64 0] TX)) := by
  have s3 : (w2.alloc (.cells #[.slice (some ⟨R, 0, none⟩) i i] TBl)).heap.size = w2.heap.size + 1 := alloc_size _ _
  have s4 : w2.heap.size + 1 ≤ w4.heap.size := by have := b4.size; omega
  have s5 : (w4.alloc (.cells #[v4] 23)).heap.size = w4.heap.size + 1 := alloc_size _ _
  have keep : ∀ b, b < w4.heap.size → ((w4.alloc (.cells #[v4] 23)).alloc (.cells #[.int .i64 0] TX)).heap[b]? = w4.heap[b]? := fun b hb =>
    (Below.heap_alloc _ _ b (by omega)).trans (Below.heap_alloc _ _ b hb)
  have keep2 : ∀ b, b < w2.heap.size → w4.heap[b]? = w2.heap[b]? := fun b hb => (b4.block b (by omega)).trans (Below.heap_alloc _ _ b hb)
  refine ⟨?_, ?_, ⟨v4, ?_, ?_⟩, ?_⟩
  · rw [keep _ (by omega), b4.block _ (by omega)]
    exact World.alloc_heap_new w2 _
  · exact ownZ_block ho (fun b e => by
      have hb : b = R := by simp [Value.ownBlock] at e; exact e.symm
      rw [keep b (by omega), keep2 b (by omega)])
  · rw [Below.heap_alloc _ _ _ (by omega)]
    exact World.alloc_heap_new w4 _
  · exact (KlP.mono hk (fun b hb hn => (⟨by omega, by omega, by omega, by omega⟩ : b ≠ w2.heap.size ∧ b ≠ R ∧ b ≠ w4.heap.size ∧ b ≠ w4.heap.size + 1))).keep (by rw [alloc_size, alloc_size]; omega) (fun b hb _ => keep b hb)
  · rw [← s5]
    exact World.alloc_heap_new _ _

def ownF (H : List Ev) (p k : Nat) : (Nat → Bool) × List Int := (ownKs H p k).foldl (learnK H) (fun _ => false, zero4)
theorem ownF_zero (H : List Ev) (p : Nat) : ownF H p 0 = (fun _ => false, zero4) := rfl
theorem ownF_yes {H : List Ev} {p k : Nat} (h : (evK H k).p = p) : ownF H p (k + 1) = learnK H (ownF H p k) k := by
  unfold ownF
  rw [ownKs_succ, if_pos h, List.foldl_append]
  rfl
theorem ownF_no {H : List Ev} {p k : Nat} (h : (evK H k).p ≠ p) : ownF H p (k + 1) = ownF H p k := by
  unfold ownF
  rw [ownKs_succ, if_neg h, List.append_nil]
theorem ownF_lrn {H : List Ev} (g : Good H) (p : Nat) {k : Nat} (hk : k ≤ H.length) : Lrn H (ownF H p k) := lrn_fold g _ (fun m h => by have := own_lt h; omega) _ (Lrn.zero H)
theorem gotK_no {H : List Ev} {p F : Nat} (h : ¬ (0 < F ∧ 0 < H.length)) : gotK H p F = ownF H p H.length := by unfold gotK moreK; rw [if_neg h]; rfl
theorem gotK_yes {H : List Ev} {p F : Nat} (h : 0 < F ∧ 0 < H.length) : gotK H p F = learnK H (ownF H p H.length) (F % H.length) := by unfold gotK moreK; rw [if_pos h]; rfl

theorem fre_more {C n0 : Nat} {cv dv pv cv' dv' pv' : Value} (hc : ∀ b, cv'.ownBlock = some b → cv.ownBlock = some b ∨ n0 ≤ b) (hd : ∀ b, dv'.ownBlock = some b → dv.ownBlock = some b ∨ n0 ≤ b) (hp : ∀ b, pv'.ownBlock = some b → pv.ownBlock = some b ∨ n0 ≤ b)
    {b : Nat} (hb : b < n0) (h : Fre C cv dv pv b) : Fre C cv' dv' pv' b :=
  ⟨h.1, h.2.1, fun e => by rcases hc b e with e | e; exact h.2.2.1 e; omega, fun e => by rcases hd b e with e | e; exact h.2.2.2.1 e; omega, fun e => by rcases hp b e with e | e; exact h.2.2.2.2 e; omega⟩
theorem own_base {w : World} {A B s n : Nat} {T : TypeId} {v : Value} {xs : List Value} (h : w.ownsRow B T s v n xs) (hAB : A ≤ B) : w.ownsRow A T s v n xs := by
  obtain ⟨h1, h2⟩ := h
  refine ⟨h1, ?_⟩
  rcases h2 with e | ⟨g, c, cur, e, hB, r⟩
  · exact .inl e
  · exact .inr ⟨g, c, cur, e, by omega, r⟩
/-- What lies behind the lists of old. -/
theorem St.fre {C : Nat} {H : List Ev} {cv dv pv : Value} {cvs dvs : List Value} {w : World} (h : St C H cv dv pv cvs dvs w) {b : Nat} (hb : w.heap.size ≤ b) : Fre C cv dv pv b :=
  ⟨fun e => by have := heap_lt h.cbox; omega, fun e => by have := heap_lt h.dbox; omega, fun e => by have := (World.ownsRow.lt h.crow b e).2; omega, fun e => by have := (World.ownsRow.lt h.drow b e).2; omega, fun e => by have := (World.ownsRow.lt h.prow b e).2; omega⟩
theorem St.low {C : Nat} {H : List Ev} {cv dv pv : Value} {cvs dvs : List Value} {w : World} (h : St C H cv dv pv cvs dvs w) {b : Nat} (hb : b < C) : Fre C cv dv pv b :=
  ⟨fun e => by omega, fun e => by omega, fun e => by have := (World.ownsRow.lt h.crow b e).1; omega, fun e => by have := (World.ownsRow.lt h.drow b e).1; omega, fun e => by have := (World.ownsRow.lt h.prow b e).1; omega⟩
theorem St.more {C N R n : Nat} {H : List Ev} {e : Ev} {cv dv pv cv' dv' pv' v6 : Value} {cvs dvs : List Value} {ψ : Nat → Prop} {w7 w' : World} (hS : St C H cv dv pv cvs dvs w7) (hn : H.length = n) (hfr : Frm (Fre C cv dv pv) w7 w')
    (hC : w'.heap[C]? = some (.cells #[cv'] T46 (0, 0))) (hD : w'.heap[C + 1]? = some (.cells #[dv'] T47 (0, 0)))
    (hc : w'.ownsRow (C + 2) TC 1 cv' (n + 1) (cvs ++ [v6])) (hd : w'.ownsRow (C + 2) TBl 1 dv' (n + 1) (dvs ++ [.slice (some ⟨R, 0, none⟩) n n])) (hp : w'.ownsRow (C + 2) TZ 1 pv' (n + 1) (intV (fnL n fun j => ((evK H j).p : Int)) ++ [.int .i64 (e.p : Int)]))
    (oc : ∀ b, cv'.ownBlock = some b → cv.ownBlock = some b ∨ w7.heap.size ≤ b) (od : ∀ b, dv'.ownBlock = some b → dv.ownBlock = some b ∨ w7.heap.size ≤ b) (op : ∀ b, pv'.ownBlock = some b → pv.ownBlock = some b ∨ w7.heap.size ≤ b)
    (hk : KlP ψ w7 v6 e.c) (hψ : ∀ b, ψ b → Fre C cv dv pv b) (hR : Fre C cv dv pv R) (hCN : C + 2 ≤ N) (hrow : w7.ownsRow N TBo 1 (.slice (some ⟨R, 0, none⟩) n n) n (boolV n e.b)) :
    St C (H ++ [e]) cv' dv' pv' (cvs ++ [v6]) (dvs ++ [.slice (some ⟨R, 0, none⟩) n n]) w' := by
  subst hn
  have lc : cvs.length = H.length := by have := hS.crow.1; omega
  have ld : dvs.length = H.length := by have := hS.drow.1; omega
  have F' : ∀ b, b < w7.heap.size → Fre C cv dv pv b → Fre C cv' dv' pv' b := fun b hb h => fre_more oc od op hb h
  have kl : ∀ (φ : Nat → Prop) (u : Value) (xs : List Int), KlP φ w7 u xs → (∀ b, φ b → Fre C cv dv pv b) → KlP (Fre C cv' dv' pv') w' u xs := fun φ u xs h hφ =>
    KlP.mono (KlP.keep (KlP.mono (ψ := fun b => Fre C cv dv pv b ∧ Fre C cv' dv' pv' b) h (fun b hb h1 => ⟨hφ b h1, F' b hb (hφ b h1)⟩)) hfr.size (fun b hb h1 => hfr.block b hb h1.1)) (fun b _ h1 => h1.2)
  have rw_ : ∀ (B g n c : Nat) (xs : List Value), w7.ownsRow B TBo 1 (.slice (some ⟨g, 0, none⟩) n c) n xs → Fre C cv dv pv g → w'.ownsRow B TBo 1 (.slice (some ⟨g, 0, none⟩) n c) n xs := fun B g n c xs h hg =>
    ownZ_block h (fun b eb => by
      have hb : b = g := by simp [Value.ownBlock] at eb; exact eb.symm
      have := (World.ownsRow.lt h b eb).2
      subst hb
      exact hfr.block b this hg)
  refine ⟨hC, hD, by simpa using hc, by simpa using hd, ?_, ?_, ?_⟩
  · have : intV (fnL (H ++ [e]).length fun j => ((evK (H ++ [e]) j).p : Int)) = intV (fnL H.length fun j => ((evK H j).p : Int)) ++ [.int .i64 (e.p : Int)] := by
      apply List.ext_getElem?
      intro j
      have hlen : (H ++ [e]).length = H.length + 1 := by simp
      rw [hlen]
      by_cases hj : j < H.length
      · rw [intV_get _ (by rw [fnL_length]; omega), gz_fnL (by omega), List.getElem?_append_left (by rw [intV_length, fnL_length]; exact hj), intV_get _ (by rw [fnL_length]; exact hj), gz_fnL hj, evK_old e hj]
      · by_cases hj2 : j = H.length
        · subst hj2
          rw [intV_get _ (by rw [fnL_length]; omega), gz_fnL (by omega), evK_new, List.getElem?_append_right (by rw [intV_length, fnL_length]; omega)]
          simp [intV_length, fnL_length]
        · rw [List.getElem?_eq_none (by rw [intV_length, fnL_length]; omega), List.getElem?_eq_none (by rw [List.length_append, intV_length, fnL_length]; simp; omega)]
    rw [this]
    simpa using hp
  · intro j hj
    by_cases hj2 : j < H.length
    · obtain ⟨u, h1, h2⟩ := hS.cel j hj2
      refine ⟨u, by rw [List.getElem?_append_left (by omega)]; exact h1, ?_⟩
      rw [evK_old e hj2]
      exact kl _ _ _ h2 (fun _ h => h)
    · obtain rfl : j = H.length := by simp at hj; omega
      refine ⟨v6, by rw [List.getElem?_append_right (by omega), lc]; simp, ?_⟩
      rw [evK_new]
      exact kl _ _ _ hk hψ
  · intro j hj
    by_cases hj2 : j < H.length
    · obtain ⟨g, c, h1, h2, h3⟩ := hS.del j hj2
      refine ⟨g, c, by rw [List.getElem?_append_left (by omega)]; exact h1, F' g (World.ownsRow.lt h3 g rfl).2 h2, ?_⟩
      rw [evK_old e hj2]
      exact rw_ _ _ _ _ _ h3 h2
    · obtain rfl : j = H.length := by simp at hj; omega
      refine ⟨R, H.length, by rw [List.getElem?_append_right (by omega), ld]; simp, F' R (World.ownsRow.lt hrow R rfl).2 hR, ?_⟩
      rw [evK_new]
      exact own_base (rw_ _ _ _ _ _ hrow hR) hCN

end Go.Proofs.Ytpkmdonejmbnoaa
