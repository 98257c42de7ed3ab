/-
  The library's DeleteFunc over bindings, by a name.
-/
import Derived.Test.YtfgaihajopfmfaaGreatDoorExBndM
namespace Go.Proofs.YtfgaihajopfmfaaGreatDoor
set_option linter.unusedSimpArgs false
set_option linter.unusedVariables false
open Go.RowKit Go.Shelf

theorem take_snocB (ts : List Bd) (k : Nat) (h : k < ts.length) : ts.take (k + 1) = ts.take k ++ [gb ts k] := by
  rw [List.take_succ_eq_append_getElem h]; simp [gb, h]
/-- What stands ahead of place k without those for which p holds. -/
def kept (p : Bd → Bool) (ts : List Bd) (k : Nat) : List Bd := (ts.take k).filter fun t => !p t
theorem kept_all (p : Bd → Bool) (ts : List Bd) : kept p ts ts.length = ts.filter fun t => !p t := by unfold kept; rw [List.take_length]
theorem kept_succ {p : Bd → Bool} {ts : List Bd} {k : Nat} (h : k < ts.length) : kept p ts (k + 1) = kept p ts k ++ if p (gb ts k) = true then [] else [gb ts k] := by
  unfold kept
  rw [take_snocB ts k h, List.filter_append]
  cases hp : p (gb ts k) <;> simp [hp]
theorem kept_length {p : Bd → Bool} {ts : List Bd} {k : Nat} : (kept p ts k).length ≤ k := by
  unfold kept
  have := List.length_filter_le (fun t => !p t) (ts.take k)
  rw [List.length_take] at this
  omega
theorem kept_none {p : Bd → Bool} {ts : List Bd} {k : Nat} (h : ∀ j, j < k → p (gb ts j) = false) (hk : k ≤ ts.length) : kept p ts k = ts.take k := by
  unfold kept
  rw [List.filter_eq_self]
  intro t ht
  obtain ⟨j, hj, rfl⟩ := mem_gb ht
  rw [List.length_take] at hj
  rw [gb_take (by omega), h j (by omega)]
  rfl
theorem filter_none {p : Bd → Bool} {ts : List Bd} (h : ∀ j, j < ts.length → p (gb ts j) = false) : (ts.filter fun t => !p t) = ts := by
  rw [← kept_all, kept_none h (Nat.le_refl _), List.take_length]

/-- The first place at which p holds, or -1. -/
def IxB (ts : List Bd) (p : Bd → Bool) (k : Int) : Prop := (k = -1 ∧ ∀ j, j < ts.length → p (gb ts j) = false) ∨ ∃ i : Nat, i < ts.length ∧ k = i ∧ p (gb ts i) = true ∧ ∀ j, j < i → p (gb ts j) = false
/-- A predicate on bindings that is a function which keeps all that was there. -/
def PredB (f : Nat) (bnd caps : Array Value) (p : Bd → Bool) (w : World) : Prop := ∀ (a : ByteArray) (b c : Int) (W : World), Below w.heap.size w W → Calls Tryz.prog f (bnd.push (.agg #[.string a, .int .i64 b, .int .i64 c]) ++ caps) W fun e W' => e = .returned (.bool (p (a, b, c))) ∧ Below W.heap.size W W'
set_option maxRecDepth 100000 in
set_option maxHeartbeats 2000000 in
theorem bIndex_any (f : Nat) (bnd caps : Array Value) (ad : Option Addr) (cap : Nat) (ts : List Bd) (p : Bd → Bool) (w : World) (heg : ∀ args w, (callFunc f args).run Tryz.prog w = .ok (.enter f args) w) (hA : KB w (.slice ad ts.length cap) ts) (hl : ts.length ≤ 1000) (hp : PredB f bnd caps p w) :
    Calls Tryz.prog 65 #[.slice ad ts.length cap, .func (.func f) bnd caps] w fun e w' => ∃ k : Int, e = .returned (.int .i64 k) ∧ IxB ts p k ∧ Below w.heap.size w w' := by
  have HL := Lib.hid hA
  have HP := Lib.hid hp
  clear hA hp
  go_enter Tryz.func65, Tryz.ntmps65
  go_wp2
  go_loopw [8] (fun x wr => ∃ k : Nat, k ≤ ts.length ∧ x = .int .i64 k ∧ Hid (∀ j, j < k → p (gb ts j) = false) ∧ Hid (Below w.heap.size w wr)) (fun x _ => ts.length - (intOf x).toNat)
  case atStart => exact ⟨0, Nat.zero_le _, rfl, Lib.hid (fun j hj => by omega), Lib.hid (Below.refl _ _)⟩
  case round =>
    obtain ⟨k, hk, rfl, HA, HB⟩ := hrel
    by_cases hkt : k < ts.length
    · have k1 : (k : Int) < (ts.length : Int) := by omega
      obtain ⟨b, off, rfl, hb, c0, c1, c2⟩ := KB.at_ (HL.out.carry HB.out) k hkt
      obtain ⟨⟨x, y, z⟩, ht⟩ : ∃ t, gb ts k = t := ⟨_, rfl⟩
      rw [ht] at c0 c1 c2
      simp only [] at c0 c1 c2
      have HC := HP.out x y z wr HB.out
      cases hpk : p (x, y, z) with
      | true =>
        have HX : Hid (IxB ts p (k : Int)) := Lib.hid (.inr ⟨k, hkt, rfl, by rw [ht]; exact hpk, HA.out⟩)
        rw [hpk] at HC
        have HC := Lib.hid HC
        clear hpk ht
        go_wp2_with fail
        refine HC.out.mono ?_
        rintro e w4 ⟨rfl, b4⟩
        have B4 := Lib.hid (HB.out.trans (b4.mono HB.out.size))
        clear b4
        go_wp2
        go_ret
        exact ⟨_, rfl, HX.out, B4.out⟩
      | false =>
        have HA' : Hid (∀ j, j < k + 1 → p (gb ts j) = false) := Lib.hid (fun j hj => by
          by_cases e : j = k
          · rw [e, ht]; exact hpk
          · exact HA.out j (by omega))
        rw [hpk] at HC
        have HC := Lib.hid HC
        clear hpk ht
        go_wp2_with fail
        refine HC.out.mono ?_
        rintro e w4 ⟨rfl, b4⟩
        have B4 := Lib.hid (HB.out.trans (b4.mono HB.out.size))
        clear b4
        go_wp2
        go_roundw
        case rel => exact ⟨k + 1, by omega, by go_num, HA', B4⟩
        case measure => simp [intOf]; omega
    · obtain rfl : k = ts.length := by omega
      have HX : Hid (IxB ts p (-1)) := Lib.hid (.inl ⟨rfl, HA.out⟩)
      go_wp2
      go_ret
      exact ⟨_, rfl, HX.out, HB.out⟩

/-- A timer is stored at a place of a row. -/
theorem own_store {w : World} {B g cap n : Nat} {L : List Bd} (h : w.ownsRow B TB 3 (.slice (some ⟨g, 0, none⟩) n cap) n (bsV L)) (hL : L.length = n) (m : Nat) (t : Bd) :
    (((w.setCell ⟨g, m * 3, none⟩ (.string t.1)).setCell ⟨g, m * 3 + 1, none⟩ (.int .i64 t.2.1)).setCell ⟨g, m * 3 + 2, none⟩ (.int .i64 t.2.2)).ownsRow B TB 3 (.slice (some ⟨g, 0, none⟩) n cap) n (bsV (L.set m t)) ∧
    w.grownBy (((w.setCell ⟨g, m * 3, none⟩ (.string t.1)).setCell ⟨g, m * 3 + 1, none⟩ (.int .i64 t.2.1)).setCell ⟨g, m * 3 + 2, none⟩ (.int .i64 t.2.2)) (some g) := by
  obtain ⟨h1, g1⟩ := World.ownsRow.stored h (m * 3) (.string t.1)
  obtain ⟨h2, g2⟩ := World.ownsRow.stored h1 (m * 3 + 1) (.int .i64 t.2.1)
  obtain ⟨h3, g3⟩ := World.ownsRow.stored h2 (m * 3 + 2) (.int .i64 t.2.2)
  refine ⟨?_, grown_trans' (grown_trans' g1 g2) g3⟩
  have e : (((bsV L).set (m * 3) (.string t.1)).set (m * 3 + 1) (.int .i64 t.2.1)).set (m * 3 + 2) (.int .i64 t.2.2) = bsV (L.set m t) := by
    apply List.ext_getElem?
    intro j
    have hl := bsV_length L
    have hl2 := bsV_length (L.set m t)
    rw [List.length_set] at hl2
    by_cases hj : j < L.length * 3
    · have hgl : ∀ q, q < L.length → gb (L.set m t) q = if q = m then t else gb L q := by
        intro q hq
        unfold gb
        rw [List.getElem?_set]
        by_cases e : m = q
        · subst e; simp [hq]
        · rw [if_neg e, if_neg (Ne.symm e)]
      obtain ⟨a1, a2, a3⟩ := bsV_get L (j / 3) (by omega)
      obtain ⟨b1, b2, b3⟩ := bsV_get (L.set m t) (j / 3) (by rw [List.length_set]; omega)
      rw [hgl _ (by omega)] at b1 b2 b3
      rcases (show j % 3 = 0 ∨ j % 3 = 1 ∨ j % 3 = 2 by omega) with hm3 | hm3 | hm3
      · have ej : j = j / 3 * 3 := by omega
        rw [List.getElem?_set_ne (by omega), List.getElem?_set_ne (by omega), List.getElem?_set]
        by_cases e : m = j / 3
        · rw [if_pos (by omega), ej, b1, if_pos e.symm]
          simp; omega
        · rw [if_neg (by omega), ej, a1, b1, if_neg (Ne.symm e)]
      · have ej : j = j / 3 * 3 + 1 := by omega
        rw [List.getElem?_set_ne (by omega), List.getElem?_set]
        by_cases e : m = j / 3
        · rw [if_pos (by omega), ej, b2, if_pos e.symm]
          simp; omega
        · rw [if_neg (by omega), List.getElem?_set_ne (by omega), ej, a2, b2, if_neg (Ne.symm e)]
      · have ej : j = j / 3 * 3 + 2 := by omega
        rw [List.getElem?_set]
        by_cases e : m = j / 3
        · rw [if_pos (by omega), ej, b3, if_pos e.symm]
          simp; omega
        · rw [if_neg (by omega), List.getElem?_set_ne (by omega), List.getElem?_set_ne (by omega), ej, a3, b3, if_neg (Ne.symm e)]
    · rw [List.getElem?_eq_none (by simp; omega), List.getElem?_eq_none (by omega)]
  rw [← e]
  exact h3
theorem box3 (w : World) (a : ByteArray) (b c : Int) : (w.alloc (.cells #[.string a, .int .i64 b, .int .i64 c] TB)).cell? ⟨w.heap.size, 0, none⟩ = some (.string a) ∧ (w.alloc (.cells #[.string a, .int .i64 b, .int .i64 c] TB)).cell? ⟨w.heap.size, 1, none⟩ = some (.int .i64 b) ∧ (w.alloc (.cells #[.string a, .int .i64 b, .int .i64 c] TB)).cell? ⟨w.heap.size, 2, none⟩ = some (.int .i64 c) := by
  refine ⟨?_, ?_, ?_⟩ <;> go_simp
theorem own_prefix {w : World} {B n g cap i s : Nat} {T : TypeId} {xs : List Value} (h : w.ownsRow B T s (.slice (some ⟨g, 0, none⟩) n cap) n xs) (hi : i ≤ n) : w.ownsRow B T s (.slice (some ⟨g, 0, none⟩) i cap) i (xs.take (i * s)) := by
  obtain ⟨h1, h2⟩ := h
  have hm : i * s ≤ n * s := Nat.mul_le_mul_right _ hi
  refine ⟨by rw [List.length_take]; omega, ?_⟩
  rcases h2 with ⟨e, _⟩ | ⟨g', cap', cur, e, hB, hg, hn, hc, hcs, ht⟩
  · cases e
  · cases e
    refine .inr ⟨g, cap, cur, rfl, hB, hg, by omega, hc, hcs, ?_⟩
    rw [← ht, List.take_take]
    congr 1
    omega
theorem own_spare {w : World} {B n g cap s : Nat} {T : TypeId} {xs : List Value} (h : w.ownsRow B T s (.slice (some ⟨g, 0, none⟩) n cap) n xs) {x : Nat} (hx : x < cap * s) : (w.cell? ⟨g, x, none⟩).isSome = true := by
  rcases h.2 with ⟨e, _⟩ | ⟨g', cap', cur, e, _, hg, _, _, hcs, _⟩
  · cases e
  · cases e
    rw [Lib.cell_of_heap hg, Array.getElem?_eq_getElem (by omega)]
    rfl
/-- Stores behind the elements of a row. -/
theorem own_past {B g cap n : Nat} {xs : List Value} : ∀ (zs : List Value) (o : Nat) (w : World), w.ownsRow B TB 3 (.slice (some ⟨g, 0, none⟩) n cap) n xs → n * 3 ≤ o → (w.setCells g o zs).ownsRow B TB 3 (.slice (some ⟨g, 0, none⟩) n cap) n xs ∧ w.grownBy (w.setCells g o zs) (some g)
  | [], o, w, h, _ => ⟨h, ⟨rfl, rfl, rfl, Nat.le_refl _, fun _ _ _ => rfl⟩⟩
  | z :: zs, o, w, h, ho => by
    have hl := h.1
    obtain ⟨h1, g1⟩ := World.ownsRow.stored h o z
    rw [List.set_eq_of_length_le (by omega)] at h1
    obtain ⟨h2, g2⟩ := own_past zs (o + 1) _ h1 (by omega)
    exact ⟨h2, grown_trans' g1 g2⟩
theorem run_clearT (w : World) (b o m c : Nat) (h0 : 0 < m) (hc : ∀ j, j < m * 3 → (w.cell? ⟨b, o + j, none⟩).isSome = true) (hf : ∀ j, j < m * 3 → w.frozen? ⟨b, o + j, none⟩ = false) :
    ∃ zs, ∀ ty, (Builtin.clear_ #[40] ty #[.slice (some ⟨b, o, none⟩) m c]).run Tryz.prog w = .ok (.tuple #[]) (w.setCells b o zs) := by
  obtain ⟨zs, hz⟩ : ∃ zs, (Builtin.zeroCells (Value.agg #[.string .empty, .int .i64 0, .int .i64 0]).cells m).toList = zs := ⟨_, rfl⟩
  have hzl : zs.length = m * 3 := by rw [← hz, Array.length_toList, size_zeroCells]; rfl
  have hz1 : ∀ v ∈ zs, v.oneCell' = true := by
    intro v hv
    rw [← hz] at hv
    simp [Builtin.zeroCells, Value.cells] at hv
    obtain ⟨k, hk, rfl⟩ := hv
    rcases (show k % 3 = 0 ∨ k % 3 = 1 ∨ k % 3 = 2 by omega) with e | e | e <;> simp [e, Value.oneCell']
  refine ⟨zs, fun ty => ?_⟩
  have hst := run_storeCells_cells (P := Tryz.prog) b o zs 0 w (by intro j hj; rw [Nat.add_zero]; exact hc j (by omega)) (by intro j hj; rw [Nat.add_zero]; exact hf j (by omega)) hz1
  simp only [Nat.add_zero] at hst
  have hzero : ∀ w, (zeroValue TB).run Tryz.prog w = .ok (.agg #[.string .empty, .int .i64 0, .int .i64 0]) w := fun w => by kernel_rfl
  cases m with
  | zero => omega
  | succ m => simp [Builtin.clear_, run_underlying Tryz.underlying40, hzero, hz, hst]

/-- The row in the middle of a deletion: what is kept stands in front, what has not been looked at stands where it stood. -/
def Mid (ts L : List Bd) (p : Bd → Bool) (m j : Nat) : Prop := L.length = ts.length ∧ m = (kept p ts j).length ∧ m < j ∧ L.take m = kept p ts j ∧ L.drop j = ts.drop j
theorem Mid.gone {ts L : List Bd} {p : Bd → Bool} {m j : Nat} (h : Mid ts L p m j) (hj : j < ts.length) (hp : p (gb ts j) = true) : Mid ts L p m (j + 1) := by
  obtain ⟨h1, h2, h3, h4, h5⟩ := h
  have e : kept p ts (j + 1) = kept p ts j := by rw [kept_succ hj, hp]; simp
  refine ⟨h1, by rw [e]; exact h2, by omega, by rw [e]; exact h4, ?_⟩
  rw [← List.drop_drop, h5, List.drop_drop]
theorem Mid.held {ts L : List Bd} {p : Bd → Bool} {m j : Nat} (h : Mid ts L p m j) (hj : j < ts.length) (hp : p (gb ts j) = false) : Mid ts (L.set m (gb ts j)) p (m + 1) (j + 1) := by
  obtain ⟨h1, h2, h3, h4, h5⟩ := h
  have e : kept p ts (j + 1) = kept p ts j ++ [gb ts j] := by rw [kept_succ hj, hp]; simp
  refine ⟨by rw [List.length_set]; exact h1, by rw [e, List.length_append, ← h2]; rfl, by omega, ?_, ?_⟩
  · rw [e, ← h4]
    have hm : m < L.length := by omega
    rw [List.take_succ_eq_append_getElem (by rw [List.length_set]; exact hm), List.getElem_set_self, List.take_set_of_le (Nat.le_refl _)]
  · rw [List.drop_set_of_lt (by omega), ← List.drop_drop, h5, List.drop_drop]
theorem Mid.start {ts : List Bd} {p : Bd → Bool} {i : Nat} (hi : i < ts.length) (h : p (gb ts i) = true) (hn : ∀ j, j < i → p (gb ts j) = false) : Mid ts ts p i (i + 1) := by
  have e : kept p ts (i + 1) = ts.take i := by rw [kept_succ hi, h, if_pos rfl, List.append_nil, kept_none hn (by omega)]
  refine ⟨rfl, by rw [e, List.length_take]; omega, by omega, e.symm, rfl⟩
theorem Mid.at_ {ts L : List Bd} {p : Bd → Bool} {m j : Nat} (h : Mid ts L p m j) : gb L j = gb ts j := by
  have := congrArg (fun l => gb l 0) h.2.2.2.2
  simpa [gb_drop] using this
theorem Mid.done {ts L : List Bd} {p : Bd → Bool} {m : Nat} (h : Mid ts L p m ts.length) : L.take m = (ts.filter fun t => !p t) ∧ m = (ts.filter fun t => !p t).length := by
  obtain ⟨h1, h2, h3, h4, h5⟩ := h
  rw [kept_all] at h4 h2
  exact ⟨h4, h2⟩

theorem gone_filter (l : List Bd) (n : ByteArray) : gone l n = l.filter fun t => !decide (t.1 = n) := by
  unfold gone
  congr 1
  funext t
  simp
set_option maxRecDepth 100000 in
theorem isN_any (gn : Nat) (n a : ByteArray) (b c : Int) (W : World) (h : W.cell? ⟨gn, 0, none⟩ = some (.string n)) :
    Calls Tryz.prog 32 #[.agg #[.string a, .int .i64 b, .int .i64 c], .pointer (some ⟨gn, 0, none⟩)] W fun e W' => e = .returned (.bool (decide (a = n))) ∧ Below W.heap.size W W' := by
  have hb : Below W.heap.size W (W.alloc (.cells #[.string a, .int .i64 b, .int .i64 c] TB)) := below_allocW W _
  have h1 : (W.alloc (.cells #[.string a, .int .i64 b, .int .i64 c] TB)).cell? ⟨gn, 0, none⟩ = some (.string n) := (hb.cell (p := ⟨gn, 0, none⟩) (World.block_lt_of_cell? _ _ h)).trans h
  obtain ⟨c0, c1, c2⟩ := boxB W (a, b, c)
  simp only [Nat.zero_add] at c0 c1 c2
  have HB := Lib.hid hb
  clear hb h
  by_cases e : a = n
  · obtain ⟨s1, s2, s3⟩ := str_yes e
    have HD : Hid (decide (a = n) = true) := Lib.hid (decide_eq_true e)
    clear e
    go_enter Tryz.func32, Tryz.ntmps32
    go_wp2
    go_ret
    exact ⟨by rw [HD.out]; rfl, HB.out⟩
  · obtain ⟨s1, s2, s3⟩ := str_no e
    have HD : Hid (decide (a = n) = false) := Lib.hid (decide_eq_false e)
    clear e
    go_enter Tryz.func32, Tryz.ntmps32
    go_wp2
    go_ret
    exact ⟨by rw [HD.out]; rfl, HB.out⟩

set_option maxRecDepth 100000 in
set_option maxHeartbeats 4000000 in
theorem bDelete_any (B gn : Nat) (n : ByteArray) (v : Value) (ts : List Bd) (w : World) (hO : OwnD B ts v w) (hl : ts.length ≤ 1000) (hn : w.cell? ⟨gn, 0, none⟩ = some (.string n)) (hv : v.ownBlock ≠ some gn) :
    Calls Tryz.prog 30 #[v, .func (.func 32) #[] #[.pointer (some ⟨gn, 0, none⟩)]] w fun e w' => ∃ v', e = .returned v' ∧ OwnD B (gone ts n) v' w' ∧ w.grownBy w' v.ownBlock := by
  obtain ⟨ad, cap, rfl, hc1, hc2⟩ := ownZ_slice (show w.ownsRow B TB 3 v ts.length (bsV ts) from hO)
  have hA := hO.kb
  have hgn : gn < w.heap.size := World.block_lt_of_cell? _ _ hn
  have HI := Lib.hid (bIndex_any 32 #[] #[.pointer (some ⟨gn, 0, none⟩)] ad cap ts (fun t => decide (t.1 = n)) w (enters_of Tryz.func32 (by kernel_rfl) rfl) hA hl (fun a b c W hW => isN_any gn n a b c W ((hW.cell (p := ⟨gn, 0, none⟩) hgn).trans hn)))
  have HNC := Lib.hid hn
  have HNV := Lib.hid hv
  have HGN := Lib.hid hgn
  have HO := Lib.hid hO
  clear hO hA hn hv hgn
  go_enter Tryz.func30, Tryz.ntmps30
  go_wp2_with fail
  refine HI.out.mono ?_
  rintro e w1 ⟨x, rfl, hx, b1⟩
  rcases hx with ⟨rfl, hx⟩ | ⟨i0, hi0, rfl, hp0, hn0⟩
  · have HG := Lib.hid (grown_of b1 (Value.slice ad ts.length cap).ownBlock)
    have HE : Hid (OwnD B (gone ts n) (.slice ad ts.length cap) w1) := Lib.hid (by
      rw [gone_filter, filter_none hx]
      exact World.ownsRow.kept (show w.ownsRow B TB 3 (.slice ad ts.length cap) ts.length (bsV ts) from HO.out) (grown_of b1 none) (by cases (Value.slice ad ts.length cap).ownBlock <;> simp))
    clear b1 hx
    go_wp2
    go_ret
    exact ⟨_, rfl, HE.out, HG.out⟩
  · obtain ⟨g, cap', e, hB⟩ := ownZ_some (show w.ownsRow B TB 3 (.slice ad ts.length cap) ts.length (bsV ts) from HO.out) (by omega)
    injection e with e1 e2 e3
    subst e1
    have ho1 : w1.ownsRow B TB 3 (.slice (some ⟨g, 0, none⟩) ts.length cap) ts.length (bsV ts) := World.ownsRow.kept (show w.ownsRow B TB 3 (.slice (some ⟨g, 0, none⟩) ts.length cap) ts.length (bsV ts) from HO.out) (grown_of b1 none) (by simp [Value.ownBlock])
    have HO1 := Lib.hid ho1
    have HG1 := Lib.hid (grown_of b1 (some g))
    have HM := Lib.hid (Mid.start (p := fun t => decide (t.1 = n)) hi0 hp0 hn0)
    have j1 : ((i0 : Int) == -1) = false := by simp
    have hgw := (World.ownsRow.lt ho1 g rfl).2
    clear b1 hp0 hn0 ho1 e2 e3
    go_wp2
    go_loopw [5, 6] (fun x y wr => ∃ (m j : Nat) (L : List Bd), i0 < j ∧ j ≤ ts.length ∧ m < j ∧ x = .int .i64 m ∧ y = .int .i64 j ∧ Hid (Mid ts L (fun t => decide (t.1 = n)) m j) ∧ Hid (wr.ownsRow B TB 3 (.slice (some ⟨g, 0, none⟩) ts.length cap) ts.length (bsV L)) ∧ Hid (w.grownBy wr (some g))) (fun _ y _ => ts.length - (intOf y).toNat)
    case atStart => exact ⟨i0, i0 + 1, ts, by omega, by omega, by omega, rfl, rfl, HM, HO1, HG1⟩
    case round =>
      obtain ⟨m, j, L, hj0, hj, hmj, rfl, rfl, HMr, HOr, HGr⟩ := hrel
      by_cases hlt : j < ts.length
      · have k1 : (j : Int) < (ts.length : Int) := by omega
        have k2 : (m : Int) < (ts.length : Int) := by omega
        obtain ⟨c0, c1, c2⟩ : wr.cell? ⟨g, j * 3, none⟩ = some (.string (gb ts j).1) ∧ wr.cell? ⟨g, j * 3 + 1, none⟩ = some (.int .i64 (gb ts j).2.1) ∧ wr.cell? ⟨g, j * 3 + 2, none⟩ = some (.int .i64 (gb ts j).2.2) := by
          have hLl := HMr.out.1
          have hl3 := bsV_length L
          obtain ⟨q0, q1, q2⟩ := bsV_get L j (by omega)
          rw [HMr.out.at_] at q0 q1 q2
          exact ⟨by rw [World.ownsRow.cellAt HOr.out (j * 3) (by omega), q0], by rw [World.ownsRow.cellAt HOr.out (j * 3 + 1) (by omega), q1], by rw [World.ownsRow.cellAt HOr.out (j * 3 + 2) (by omega), q2]⟩
        obtain ⟨⟨a, b, c⟩, ht⟩ : ∃ t, gb ts j = t := ⟨_, rfl⟩
        rw [ht] at c0 c1 c2
        simp only [] at c0 c1 c2
        have hgr := (World.ownsRow.lt HOr.out g rfl).2
        have hnb : (wr.alloc (.cells #[.string a, .int .i64 b, .int .i64 c] TB)).cell? ⟨gn, 0, none⟩ = some (.string n) := ((below_allocW wr _).cell (p := ⟨gn, 0, none⟩) (Nat.lt_of_lt_of_le HGN.out HGr.out.size)).trans ((World.cell?_of_block (a := ⟨gn, 0, none⟩) (HGr.out.block gn HGN.out (fun e => HNV.out (by simpa [Value.ownBlock] using e.symm)))).trans HNC.out)
        have HC := isN_any gn n a b c _ hnb
        clear hnb
        have hb0 : (wr.alloc (.cells #[.string a, .int .i64 b, .int .i64 c] TB)).cell? ⟨wr.heap.size, 0, none⟩ = some (.string a) ∧ (wr.alloc (.cells #[.string a, .int .i64 b, .int .i64 c] TB)).cell? ⟨wr.heap.size, 1, none⟩ = some (.int .i64 b) ∧ (wr.alloc (.cells #[.string a, .int .i64 b, .int .i64 c] TB)).cell? ⟨wr.heap.size, 2, none⟩ = some (.int .i64 c) := box3 wr a b c
        have HB0 := Lib.hid hb0
        clear hb0
        cases hp : decide (a = n) with
        | true =>
          simp only [hp] at HC
          have HC := Lib.hid HC
          have HM' := Lib.hid (HMr.out.gone hlt (by rw [ht]; exact hp))
          clear hp ht
          go_wp2_with fail
          refine HC.out.mono ?_
          rintro e w4 ⟨rfl, b4⟩
          have hg4 : wr.grownBy w4 (some g) := grown_trans' (World.grownBy_alloc wr _ _) (grown_of b4 _)
          have HO4 : Hid (w4.ownsRow B TB 3 (.slice (some ⟨g, 0, none⟩) ts.length cap) ts.length (bsV L)) := Lib.hid (World.ownsRow.kept (HOr.out.alloc _) (grown_of b4 none) (by simp [Value.ownBlock]))
          have HG4 : Hid (w.grownBy w4 (some g)) := Lib.hid (grown_trans' HGr.out hg4)
          clear b4 hg4
          go_wp2
          go_roundw
          case rel => exact ⟨m, j + 1, L, by omega, by omega, by omega, rfl, by go_num, HM', HO4, HG4⟩
          case measure => simp [intOf]; omega
        | false =>
          simp only [hp] at HC
          have HC := Lib.hid HC
          have HM' := Lib.hid (HMr.out.held hlt (by rw [ht]; exact hp))
          rw [ht] at HM'
          clear hp ht
          go_wp2_with fail
          refine HC.out.mono ?_
          rintro e w4 ⟨rfl, b4⟩
          have hg4 : wr.grownBy w4 (some g) := grown_trans' (World.grownBy_alloc wr _ _) (grown_of b4 _)
          have hO4 : w4.ownsRow B TB 3 (.slice (some ⟨g, 0, none⟩) ts.length cap) ts.length (bsV L) := World.ownsRow.kept (HOr.out.alloc _) (grown_of b4 none) (by simp [Value.ownBlock])
          have HG4 : Hid (w.grownBy w4 (some g)) := Lib.hid (grown_trans' HGr.out hg4)
          have e0 := (b4.cell (p := ⟨wr.heap.size, 0, none⟩) (by simp)).trans HB0.out.1
          have e1 := (b4.cell (p := ⟨wr.heap.size, 1, none⟩) (by simp)).trans HB0.out.2.1
          have e2 := (b4.cell (p := ⟨wr.heap.size, 2, none⟩) (by simp)).trans HB0.out.2.2
          have hLl := HMr.out.1
          have hl3 := bsV_length L
          obtain ⟨q0, q1, q2⟩ := bsV_get L m (by omega)
          have d0 := (World.ownsRow.cellAt hO4 (m * 3) (by omega)).trans q0
          have d1 := (World.ownsRow.cellAt hO4 (m * 3 + 1) (by omega)).trans q1
          have d2 := (World.ownsRow.cellAt hO4 (m * 3 + 2) (by omega)).trans q2
          have f0 := World.ownsRow.frozenAt hO4 (m * 3)
          have f1 := World.ownsRow.frozenAt hO4 (m * 3 + 1)
          have f2 := World.ownsRow.frozenAt hO4 (m * 3 + 2)
          generalize (gb L m).1 = y0 at d0
          generalize (gb L m).2.1 = y1 at d1
          generalize (gb L m).2.2 = y2 at d2
          obtain ⟨hO5, hg5⟩ := own_store hO4 hLl m (a, b, c)
          have HO5 := Lib.hid hO5
          have HG5 := Lib.hid (grown_trans' HG4.out hg5)
          clear b4 hg4 hO4 hLl hl3 q0 q1 q2 hO5 hg5
          go_wp2
          go_roundw
          case rel => exact ⟨m + 1, j + 1, L.set m (a, b, c), by omega, by omega, by omega, by go_num, by go_num, HM', HO5, HG5⟩
          case measure => simp [intOf]; omega
      · obtain rfl : j = ts.length := by omega
        obtain ⟨z1, z2⟩ := HMr.out.done
        rw [← gone_filter] at z1 z2
        have hml : m < ts.length := hmj
        obtain ⟨zs, hcl⟩ := run_clearT wr g (m * 3) (ts.length - m) (cap - m) (by omega) (fun t ht => own_spare HOr.out (by omega)) (fun t _ => World.ownsRow.frozenAt HOr.out _)
        have hP := own_prefix HOr.out (i := m) (by omega)
        rw [bsV_take, z1] at hP
        obtain ⟨hQ, gQ⟩ := own_past zs (m * 3) wr hP (Nat.le_refl _)
        have HQ : Hid ((wr.setCells g (m * 3) zs).ownsRow B TB 3 (.slice (some ⟨g, 0, none⟩) m cap) m (bsV (gone ts n))) := Lib.hid hQ
        have HGQ := Lib.hid (grown_trans' HGr.out gQ)
        have HZ2 : Hid ((gone ts n).length = m) := Lib.hid z2.symm
        have k1 : ¬ cap = m := by omega
        have k2 : (m : Int) ≤ (ts.length : Int) := by omega
        have k3 : (m : Int) ≤ (cap : Int) := by omega
        have k4 : m ≤ cap := by omega
        have k5 : m ≤ ts.length := by omega
        clear hP hQ gQ z1 z2 HOr
        go_wp2
        go_ret
        exact ⟨_, rfl, by unfold OwnD; rw [HZ2.out]; exact HQ.out, HGQ.out⟩

end Go.Proofs.YtfgaihajopfmfaaGreatDoor
