/-
  The library's IndexFunc, ContainsFunc and Clone over waiters; appending to a row of waiters.
-/
import Derived.Laws.Externs
import Derived.Laws.NewBlocks
import Derived.Lib.Overlaps
import Derived.Shelf.Abstract
import Derived.Test.YtonjempbphnimaaWlMem
namespace Go.Proofs.Ytonjempbphnimaa
open Go.RowKit Go.Shelf

/-- A predicate on waiters that is a function which keeps all that was there. -/
def PredW (fn : Nat) (bnd caps : Array Value) (p : Wl → Bool) (w : World) : Prop := ∀ (a b c d f : Int) (W : World), Below w.heap.size w W → Calls Try.prog fn (bnd.push (.agg #[.int .i64 a, .int .i64 b, .int .i64 c, .int .i64 d, .int .i64 f]) ++ caps) W fun e W' => e = .returned (.bool (p (a, b, c, d, f))) ∧ Below W.heap.size W W'
theorem PredW.below {fn : Nat} {bnd caps : Array Value} {p : Wl → Bool} {w w' : World} (h : PredW fn bnd caps p w) (hb : Below w.heap.size w w') : PredW fn bnd caps p w' := fun a b c d f W hW => h a b c d f W (hb.trans (hW.mono hb.size))
theorem cell_laterW {w w' : World} {p : Addr} {v : Value} (hb : Below w.heap.size w w') (h : w.cell? p = some v) : w'.cell? p = some v := (hb.cell (World.block_lt_of_cell? _ _ h)).trans h

set_option maxRecDepth 100000 in
set_option maxHeartbeats 2000000 in
theorem wIndex_any (φ : Nat → Prop) (fn : Nat) (bnd caps : Array Value) (ad : Option Addr) (cap : Nat) (ts : List Wl) (p : Wl → Bool) (w : World) (heg : ∀ args w, (callFunc fn args).run Try.prog w = .ok (.enter fn args) w) (hA : WlA φ w ad ts) (hl : ts.length ≤ 1000) (hp : PredW fn bnd caps p w) :
    Calls Try.prog 45 #[.slice ad ts.length cap, .func (.func fn) bnd caps] w fun e w' => ∃ k : Int, e = .returned (.int .i64 k) ∧ IxW ts p k ∧ Below w.heap.size w w' := by
  have HL := Lib.hid hA
  have HP := Lib.hid hp
  clear hA hp
  go_enter Try.func45, Try.ntmps45
  go_wp2
  go_loopw [8] (fun x wr => ∃ k : Nat, k ≤ ts.length ∧ x = .int .i64 k ∧ Hid (∀ j, j < k → p (gw ts j) = false) ∧ Hid (Below w.heap.size w wr)) (fun x _ => ts.length - (intOf x).toNat)
  case atStart => exact ⟨0, Nat.zero_le _, rfl, Lib.hid (fun j hj => by omega), Lib.hid (Below.refl _ _)⟩
  case round =>
    obtain ⟨k, hk, rfl, HA, HB⟩ := hrel
    by_cases hkt : k < ts.length
    · have k1 : (k : Int) < (ts.length : Int) := by omega
      obtain ⟨b, off, rfl, _, hb, c0, c1, c2, c3, c4⟩ := HL.out.below HB.out k hkt
      obtain ⟨⟨x0, x1, x2, x3, x4⟩, ht⟩ : ∃ t, gw ts k = t := ⟨_, rfl⟩
      rw [ht] at c0 c1 c2 c3 c4
      simp only [] at c0 c1 c2 c3 c4
      have HC := HP.out x0 x1 x2 x3 x4 wr HB.out
      cases hpk : p (x0, x1, x2, x3, x4) with
      | true =>
        have HX : Hid (IxW ts p (k : Int)) := Lib.hid (.inr ⟨k, hkt, rfl, by rw [ht]; exact hpk, HA.out⟩)
        rw [hpk] at HC
        have HC := Lib.hid HC
        clear hpk ht
        go_wp2_with fail
        refine HC.out.mono ?_
        rintro e w4 ⟨rfl, b4⟩
        have B4 := Lib.hid (HB.out.trans (b4.mono HB.out.size))
        clear b4
        go_wp2
        go_ret
        exact ⟨_, rfl, HX.out, B4.out⟩
      | false =>
        have HA' : Hid (∀ j, j < k + 1 → p (gw ts j) = false) := Lib.hid (fun j hj => by
          by_cases e : j = k
          · rw [e, ht]; exact hpk
          · exact HA.out j (by omega))
        rw [hpk] at HC
        have HC := Lib.hid HC
        clear hpk ht
        go_wp2_with fail
        refine HC.out.mono ?_
        rintro e w4 ⟨rfl, b4⟩
        have B4 := Lib.hid (HB.out.trans (b4.mono HB.out.size))
        clear b4
        go_wp2
        go_roundw
        case rel => exact ⟨k + 1, by omega, by go_num, HA', B4⟩
        case measure => simp [intOf]; omega
    · obtain rfl : k = ts.length := by omega
      have HX : Hid (IxW ts p (-1)) := Lib.hid (.inl ⟨rfl, HA.out⟩)
      go_wp2
      go_ret
      exact ⟨_, rfl, HX.out, HB.out⟩

set_option maxRecDepth 100000 in
set_option maxHeartbeats 2000000 in
theorem wClone_any (φ : Nat → Prop) (ad : Option Addr) (cap : Nat) (ts : List Wl) (w : World) (hl : ts.length ≤ 1000) (hE : WlA φ w ad ts) :
    Calls Try.prog 32 #[.slice ad ts.length cap] w fun e w' => ∃ v, e = .returned v ∧ OwnW w.heap.size ts v w' ∧ Below w.heap.size w w' := by
  obtain ⟨i3, ki, kz0, kz1, kz2⟩ := info_parts infoW
  have q22 : ∀ (w : World) (a : Option Addr) (n c n' c' : Nat), (binOp .eql 22 (.slice a n c) (.slice none n' c')).run Try.prog w = .ok (.bool a.isNone) w := fun w a n c n' c' => Lib.run_eql_slice_nil w _ _ a n c n' c' Try.underlying22
  cases ad with
  | none =>
    have hz : ts = [] := by
      cases ts with
      | nil => rfl
      | cons x xs =>
        obtain ⟨b, off, e, _⟩ := hE 0 (by simp)
        cases e
    subst hz
    clear hE
    go_enter Try.func32, Try.ntmps32
    go_wp2
    go_ret
    exact ⟨_, rfl, OwnW.nil _ _, Below.refl _ _⟩
  | some q =>
    have hc : ∀ j u, (wlV ts)[j]? = some u → (w.alloc (.cells #[] TW)).cell? (q.add j) = some u := by
      intro j u hj
      have hlt : j < (wlV ts).length := (List.getElem?_eq_some_iff.1 hj).1
      rw [wlV_length] at hlt
      obtain ⟨b, off, e, _⟩ := hE 0 (by omega)
      cases e
      rw [Addr.add_lit]
      exact Lib.cell?_alloc_some _ (hE.cells j u hj)
    have HC := Lib.hid hc
    clear hc hE
    go_enter Try.func32, Try.ntmps32
    go_wp2_with (at_builtin; refine wpList_append_own _ rfl _ _ 22 rfl w.heap.size TW i3 (.agg #[.int .i64 0, .int .i64 0, .int .i64 0, .int .i64 0, .int .i64 0]) 5 40 Try.underlying22 ki kz0 kz1 kz2 rfl (by decide) _ _ _ rfl (World.ownsRow_made w #[] 0 (Nat.le_refl _) (Nat.zero_le _) rfl) q ts.length cap (wlV ts) rfl ?qc1 HC.out (wlV_one _) ?qc4 ?qc5 ?qc6 ?_)
    case qc1 => rw [wlV_length]
    case qc4 => unfold maxLen; omega
    case qc5 => omega
    case qc6 => simp
    intro v' w1 hown hgrow hnil
    go_wp2
    go_ret
    refine ⟨v', rfl, ?_, ((Below.refl _ w).alloc (Nat.le_refl _) _).grown hgrow (by simp) (by intro k hk; simp [Value.ownBlock] at hk; omega)⟩
    unfold OwnW
    simpa using hown

/-- Waiters are appended to a row. -/
theorem append_restW (W : World) (B : Nat) (v : Value) (o : List Wl) (φ : Nat → Prop) (ad : Option Addr) (c : Nat) (zs : List Wl) (hO : OwnW B o v W) (hA : WlA φ W ad zs) (hl : o.length ≤ 1000) (hz : zs.length ≤ 1000) (hBW : B ≤ W.heap.size) :
    ∃ v' w', (Builtin.append_ #[22, 22] 22 #[v, .slice ad zs.length c]).run Try.prog W = .ok v' w' ∧ OwnW B (o ++ zs) v' w' ∧ W.grownBy w' v.ownBlock ∧ Below B W w' := by
  obtain ⟨i3, ki, kz0, kz1, kz2⟩ := info_parts infoW
  have hr : W.ownsRow B TW 5 v o.length (wlV o) := hO
  cases ad with
  | none =>
    have hz : zs = [] := by
      cases zs with
      | nil => rfl
      | cons y ys =>
        obtain ⟨b, off, e, _⟩ := hA 0 (by simp)
        cases e
    subst hz
    obtain ⟨a', c', rfl, hc', _⟩ := ownZ_slice hr
    have hrun : (Builtin.append_ #[22, 22] 22 #[.slice a' o.length c', .slice none 0 c]).run Try.prog W = .ok (.slice a' o.length c') W := by
      cases a' with
      | none =>
        rcases hr.2 with ⟨e, e2⟩ | ⟨g, cap, cur, e, _⟩
        · injection e with e3 e4 e5
          rw [e2, e5]
          simp [Builtin.append_, run_underlying Try.underlying22, sizeOf, typeInfo, ki, Builtin.lenOf, Builtin.firstCells]
        · injection e with e3
          cases e3
      | some q => simp [Builtin.append_, run_underlying Try.underlying22, sizeOf, typeInfo, ki, Builtin.lenOf, Builtin.firstCells, storeCells, hc']
    exact ⟨_, _, hrun, by rw [List.append_nil]; exact hO, ⟨rfl, rfl, rfl, Nat.le_refl _, fun _ _ _ => rfl⟩, Below.refl _ _⟩
  | some q =>
    have hc : ∀ j u, (wlV zs)[j]? = some u → W.cell? (q.add j) = some u := by
      intro j u hj
      have hlt : j < (wlV zs).length := (List.getElem?_eq_some_iff.1 hj).1
      rw [wlV_length] at hlt
      obtain ⟨b, off, e, _⟩ := hA 0 (by omega)
      cases e
      rw [Addr.add_lit]
      exact hA.cells j u hj
    obtain ⟨v', w', h1, h2, h3, h4⟩ := run_append_own (P := Try.prog) W B 22 22 TW i3 (.agg #[.int .i64 0, .int .i64 0, .int .i64 0, .int .i64 0, .int .i64 0]) 5 40 Try.underlying22 ki kz0 kz1 kz2 rfl (by decide) _ _ _ hr q zs.length c (wlV zs) (by rw [wlV_length]) hc (wlV_one _) (by unfold maxLen; omega) (by omega) hBW
    refine ⟨v', w', h1, ?_, h3, (Below.refl B W).grown h3 hBW (fun k e => (World.ownsRow.lt hr k e).1)⟩
    unfold OwnW
    rw [wlV_append, List.length_append]
    exact h2
/-- One waiter more, out of a block of its own: into the row itself, or a new one. -/
theorem append_oneW (W : World) (B : Nat) (v : Value) (o : List Wl) (t : Wl) (y : Nat) (hO : OwnW B o v W) (hy : W.heap[y]? = some (.cells (encW t).toArray TW (0, 0))) (hl : o.length ≤ 1000) (hBW : B ≤ W.heap.size) :
    ∃ v' w' gn, (Builtin.append_ #[22, 22] 22 #[v, .slice (some ⟨y, 0, none⟩) 1 1]).run Try.prog W = .ok v' w' ∧ OwnW B (o ++ [t]) v' w' ∧ W.grownBy w' v.ownBlock ∧ Below B W w' ∧ v'.ownBlock = some gn ∧ gn < w'.heap.size ∧ (v.ownBlock = some gn ∨ W.heap.size ≤ gn) := by
  obtain ⟨i3, ki, kz0, kz1, kz2⟩ := info_parts infoW
  have hc : ∀ j u, (encW t)[j]? = some u → W.cell? ((⟨y, 0, none⟩ : Addr).add j) = some u := by
    intro j u hj
    rw [Addr.add_lit, Lib.cell_of_heap hy]
    simpa using hj
  have hr : W.ownsRow B TW 5 v o.length (wlV o) := hO
  have fin : ∀ (A : Nat) (v' : Value) (w' : World), w'.ownsRow A TW 5 v' (o.length + 1) (wlV o ++ encW t) → B ≤ A → OwnW B (o ++ [t]) v' w' ∧ ∃ gn, v'.ownBlock = some gn ∧ A ≤ gn ∧ gn < w'.heap.size := by
    intro A v' w' h hA
    constructor
    · unfold OwnW
      rw [wlV_snoc, List.length_append]
      exact ownZ_base hA h
    · obtain ⟨g, cap, e, hg⟩ := ownZ_some h (by omega)
      subst e
      exact ⟨g, rfl, hg, (World.ownsRow.lt h g rfl).2⟩
  rcases hr.2 with ⟨rfl, e⟩ | ⟨g, cap, cur, rfl, hBg, hg, k1, k2, k3, k4⟩
  · have ho : o = [] := List.eq_nil_of_length_eq_zero e
    subst ho
    obtain ⟨v', w', h1, h2, h3, h4⟩ := run_append_own (P := Try.prog) W W.heap.size 22 22 TW i3 (.agg #[.int .i64 0, .int .i64 0, .int .i64 0, .int .i64 0, .int .i64 0]) 5 40 Try.underlying22 ki kz0 kz1 kz2 rfl (by decide) (.slice none 0 0) 0 [] (World.ownsRow_nil _ _ _ _) ⟨y, 0, none⟩ 1 1 (encW t) rfl hc (encW_one _) (by unfold maxLen; omega) (by omega) (Nat.le_refl _)
    obtain ⟨f1, gn, f2, f3, f4⟩ := fin W.heap.size v' w' h2 hBW
    exact ⟨v', w', gn, h1, f1, h3, (Below.refl B W).grown h3 hBW (fun k e => (by simp [Value.ownBlock] at e)), f2, f4, .inr f3⟩
  · by_cases hroom : o.length + 1 ≤ cap
    · obtain ⟨v', w', h1, h2, h3, h4⟩ := run_append_own (P := Try.prog) W B 22 22 TW i3 (.agg #[.int .i64 0, .int .i64 0, .int .i64 0, .int .i64 0, .int .i64 0]) 5 40 Try.underlying22 ki kz0 kz1 kz2 rfl (by decide) _ _ _ hr ⟨y, 0, none⟩ 1 1 (encW t) rfl hc (encW_one _) (by unfold maxLen; omega) (by omega) hBW
      have hrm := run_append_room (P := Try.prog) W 22 22 TW i3 Try.underlying22 ki g o.length cap cur hg ⟨y, 0, none⟩ 1 1 (encW t) (by rw [kz1]; rfl) hc (encW_one _) hroom (by rw [kz1, encW_length]; omega)
      have h1' := h1
      rw [hrm] at h1'
      injection h1' with e1 e2
      have hb : v'.ownBlock = some g := by rw [← e1]; rfl
      obtain ⟨f1, gn, f2, f3, f4⟩ := fin B v' w' h2 (Nat.le_refl _)
      rw [hb] at f2
      cases f2
      exact ⟨v', w', g, h1, f1, h3, (Below.refl B W).grown h3 hBW (fun k e => (World.ownsRow.lt hr k e).1), hb, f4, .inl rfl⟩
    · have holds : ∀ j u, (wlV o)[j]? = some u → W.cell? ((⟨g, 0, none⟩ : Addr).add j) = some u := hr.cells (g := g) rfl
      have hrg := run_append_grow (P := Try.prog) W 22 22 TW i3 (.agg #[.int .i64 0, .int .i64 0, .int .i64 0, .int .i64 0, .int .i64 0]) Try.underlying22 ki kz0 ⟨g, 0, none⟩ o.length cap (wlV o) (by rw [kz1, wlV_length]) holds ⟨y, 0, none⟩ 1 1 (encW t) (by rw [kz1]; rfl) hc (by omega) (by omega) (by rw [kz2]; exact growslice_fits (by omega) (by omega))
      obtain ⟨v', w', h1, h2, h3, h4⟩ := run_append_own (P := Try.prog) W B 22 22 TW i3 (.agg #[.int .i64 0, .int .i64 0, .int .i64 0, .int .i64 0, .int .i64 0]) 5 40 Try.underlying22 ki kz0 kz1 kz2 rfl (by decide) _ _ _ hr ⟨y, 0, none⟩ 1 1 (encW t) rfl hc (encW_one _) (by unfold maxLen; omega) (by omega) hBW
      have h1' := h1
      rw [hrg] at h1'
      injection h1' with e1 e2
      have hb : v'.ownBlock = some W.heap.size := by rw [← e1]; rfl
      obtain ⟨f1, gn, f2, f3, f4⟩ := fin B v' w' h2 (Nat.le_refl _)
      rw [hb] at f2
      cases f2
      exact ⟨v', w', _, h1, f1, h3, (Below.refl B W).grown h3 hBW (fun k e => (World.ownsRow.lt hr k e).1), hb, f4, .inr (Nat.le_refl _)⟩

end Go.Proofs.Ytonjempbphnimaa
