/-
  Rows just made, what is behind a place of a slice of waiters, one integer more in a row.
-/
import Derived.Test.YtonjempbphnimaaWlSeq
namespace Go.Proofs.Ytonjempbphnimaa
open Go.RowKit Go.Shelf

/-- One integer more in a row. -/
theorem appZ (W : World) (B : Nat) (v : Value) (o : List Int) (x : Int) (y : Nat) (hO : OwnZ B o v W) (hy : W.heap[y]? = some (.cells #[.int .i64 x] TZ (0, 0))) (hl : o.length ≤ 1000) (hBW : B ≤ W.heap.size) :
    ∃ v' w', (Builtin.append_ #[39, 39] 39 #[v, .slice (some ⟨y, 0, none⟩) 1 1]).run Try.prog W = .ok v' w' ∧ OwnZ B (o ++ [x]) v' w' ∧ W.grownBy w' v.ownBlock := by
  obtain ⟨i3, ki, kz0, kz1, kz2⟩ := info_parts infoZ
  have hc : ∀ j u, [Value.int .i64 x][j]? = some u → W.cell? ((⟨y, 0, none⟩ : Addr).add j) = some u := by
    intro j u hj
    rw [Addr.add_lit, Lib.cell_of_heap hy]
    simpa using hj
  have hr : W.ownsRow B TZ 1 v o.length (intV o) := hO
  obtain ⟨v', w', h1, h2, h3, _⟩ := run_append_own (P := Try.prog) W B 39 39 TZ i3 (.int .i64 0) 1 8 Try.underlying39 ki kz0 kz1 kz2 rfl (by decide) _ _ _ hr ⟨y, 0, none⟩ 1 1 [.int .i64 x] rfl hc (by intro u hu; simp at hu; subst hu; rfl) (by unfold maxLen; omega) (by omega) hBW
  refine ⟨v', w', h1, ?_, h3⟩
  unfold OwnZ
  rw [List.length_append, show intV (o ++ [x]) = intV o ++ [.int .i64 x] by simp [intV]]
  exact h2
theorem made_rowW {V : World} {B x : Nat} (h : V.heap[x]? = some (.cells #[] TW (0, 0))) (hB : B ≤ x) : OwnW B [] (.slice (some ⟨x, 0, none⟩) 0 0) V := ⟨rfl, .inr ⟨x, 0, #[], rfl, hB, h, Nat.le_refl _, Nat.zero_le _, rfl, rfl⟩⟩
theorem made_rowZ {V : World} {B x : Nat} (h : V.heap[x]? = some (.cells #[] TZ (0, 0))) (hB : B ≤ x) : OwnZ B [] (.slice (some ⟨x, 0, none⟩) 0 0) V := ⟨rfl, .inr ⟨x, 0, #[], rfl, hB, h, Nat.le_refl _, Nat.zero_le _, rfl, rfl⟩⟩
theorem restW (φ : Nat → Prop) (i : Nat) (ad : Option Addr) (cap : Nat) (ts : List Wl) (W : World) (hA : WlA φ W ad ts) (hcap : ts.length ≤ cap) (hi : i ≤ ts.length) :
    ∃ (ao : Option Addr) (c2 : Nat), WlA φ W ao (ts.drop i) ∧ ts.length - i ≤ c2 ∧ c2 ≤ cap ∧ ∀ w, (Instr.slice 22 (.slice ad ts.length cap) (some (.int .i64 (i : Int))) none none).run Try.prog w = .ok (.slice ao (ts.length - i) c2) w := by
  refine ⟨if cap = i then ad else ad.map (·.add (i * 5)), cap - i, fun j hj => ?_, by omega, by omega, fun w => ?_⟩
  · simp only [List.length_drop] at hj
    obtain ⟨b, off, rfl, hp, hb, h⟩ := hA.some_ (by omega)
    have h1 := h (i + j) (by omega)
    rw [gw_drop]
    refine ⟨b, off + i * 5, by rw [if_neg (by omega)]; simp [Addr.add], hp, hb, ?_⟩
    rw [show off + i * 5 + j * 5 = off + (i + j) * 5 by omega]
    exact h1
  · rw [run_slice_l w 22 ad ts.length cap (by kernel_rfl) .i64 (i : Int) (by omega) (by omega)]
    have hz : (sizeOf (Try.prog.elem 22)).run Try.prog w = .ok 5 w := by kernel_rfl
    rw [hz]
    simp [Result.andThen, sliced]
theorem OwnZ.below {B : Nat} {o : List Int} {v : Value} {w w' : World} (h : OwnZ B o v w) (hb : Below w.heap.size w w') : OwnZ B o v w' := World.ownsRow.kept (show w.ownsRow B TZ 1 v o.length (intV o) from h) (grown_ofW hb none) (by cases v.ownBlock <;> simp)
theorem OwnZ.lt {B : Nat} {o : List Int} {v : Value} {w : World} (h : OwnZ B o v w) : ∀ k, v.ownBlock = some k → B ≤ k ∧ k < w.heap.size := fun k e => World.ownsRow.lt (show w.ownsRow B TZ 1 v o.length (intV o) from h) k e

end Go.Proofs.Ytonjempbphnimaa
