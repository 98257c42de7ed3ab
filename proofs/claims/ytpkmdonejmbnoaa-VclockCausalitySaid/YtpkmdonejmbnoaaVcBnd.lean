/-
  Bounds: the mathematics of joins and meets; the statement's closures join and meet, that note the errors; its atMost; the library's ContainsFunc over errors.
-/
import Derived.Test.YtpkmdonejmbnoaaVcOrd
import Derived.Test.YtpkmdonejmbnoaaVcDevF
import Derived.ArgAppend
namespace Go.Proofs.Ytpkmdonejmbnoaa
open Go.RowKit

/-! ### Mathematics -/

theorem vcE_fnL {n : Nat} {f : Nat → Int} (h1 : n ≤ 32) (h2 : ∀ i, i < n → 0 ≤ f i ∧ f i ≤ 1099511627776) : vcE (fnL n f) = 0 :=
  vcE_iff.2 ⟨by rw [fnL_length]; exact h1, fun i hi => by rw [fnL_length] at hi; rw [gz_fnL hi]; exact h2 i hi⟩
theorem joinL_eq {xs ys : List Int} (h : Pr xs ys) : joinL xs ys = fnL xs.length (fun i => max (gz xs i) (gz ys i)) := by unfold joinL; rw [if_pos (show pairE xs ys = 0 from h)]
theorem meetL_eq {xs ys : List Int} (h : Pr xs ys) : meetL xs ys = fnL xs.length (fun i => min (gz xs i) (gz ys i)) := by unfold meetL; rw [if_pos (show pairE xs ys = 0 from h)]
theorem Pr.selfL {xs ys : List Int} (h : Pr xs ys) : Pr xs xs := h.trans h.symm
theorem join_pr {xs ys : List Int} (h : Pr xs ys) : Pr xs (joinL xs ys) := by
  rw [joinL_eq h]
  obtain ⟨h1, h2, h3⟩ := pairE_ok h
  refine pairE_of h1 (vcE_fnL (vcE_iff.1 h1).1 (fun i hi => ?_)) (by rw [fnL_length])
  have a := (vcE_iff.1 h1).2 i hi
  have b := (vcE_iff.1 h2).2 i (by omega)
  omega
theorem meet_pr {xs ys : List Int} (h : Pr xs ys) : Pr xs (meetL xs ys) := by
  rw [meetL_eq h]
  obtain ⟨h1, h2, h3⟩ := pairE_ok h
  refine pairE_of h1 (vcE_fnL (vcE_iff.1 h1).1 (fun i hi => ?_)) (by rw [fnL_length])
  have a := (vcE_iff.1 h1).2 i hi
  have b := (vcE_iff.1 h2).2 i (by omega)
  omega
theorem gz_join {xs ys : List Int} (h : Pr xs ys) {i : Nat} (hi : i < xs.length) : gz (joinL xs ys) i = max (gz xs i) (gz ys i) := by rw [joinL_eq h, gz_fnL hi]
theorem gz_meet {xs ys : List Int} (h : Pr xs ys) {i : Nat} (hi : i < xs.length) : gz (meetL xs ys) i = min (gz xs i) (gz ys i) := by rw [meetL_eq h, gz_fnL hi]
theorem len_join {xs ys : List Int} (h : Pr xs ys) : (joinL xs ys).length = xs.length := (join_pr h).len.symm
theorem len_meet {xs ys : List Int} (h : Pr xs ys) : (meetL xs ys).length = xs.length := (meet_pr h).len.symm
theorem join_comm {xs ys : List Int} (h : Pr xs ys) : joinL ys xs = joinL xs ys :=
  gz_ext (by rw [len_join h, len_join h.symm, h.len]) (fun i hi => by
    rw [len_join h.symm] at hi
    rw [gz_join h.symm hi, gz_join h (by rw [h.len]; exact hi)]
    omega)
theorem meet_comm {xs ys : List Int} (h : Pr xs ys) : meetL ys xs = meetL xs ys :=
  gz_ext (by rw [len_meet h, len_meet h.symm, h.len]) (fun i hi => by
    rw [len_meet h.symm] at hi
    rw [gz_meet h.symm hi, gz_meet h (by rw [h.len]; exact hi)]
    omega)
theorem join_self {xs : List Int} (h : Pr xs xs) : joinL xs xs = xs :=
  gz_ext (len_join h) (fun i hi => by rw [len_join h] at hi; rw [gz_join h hi]; omega)
theorem meet_self {xs : List Int} (h : Pr xs xs) : meetL xs xs = xs :=
  gz_ext (len_meet h) (fun i hi => by rw [len_meet h] at hi; rw [gz_meet h hi]; omega)
theorem join_assoc {xs ys zs : List Int} (h : Pr xs ys) (k : Pr ys zs) : joinL xs (joinL ys zs) = joinL (joinL xs ys) zs := by
  have p1 : Pr (joinL xs ys) zs := (join_pr h).symm.trans (h.trans k)
  have p2 : Pr xs (joinL ys zs) := h.trans (join_pr k)
  refine gz_ext (by rw [len_join p1, len_join p2, len_join h]) (fun i hi => ?_)
  rw [len_join p2] at hi
  rw [gz_join p2 hi, gz_join p1 (by rw [len_join h]; exact hi), gz_join h hi, gz_join k (by rw [← h.len]; exact hi)]
  omega
theorem meet_assoc {xs ys zs : List Int} (h : Pr xs ys) (k : Pr ys zs) : meetL xs (meetL ys zs) = meetL (meetL xs ys) zs := by
  have p1 : Pr (meetL xs ys) zs := (meet_pr h).symm.trans (h.trans k)
  have p2 : Pr xs (meetL ys zs) := h.trans (meet_pr k)
  refine gz_ext (by rw [len_meet p1, len_meet p2, len_meet h]) (fun i hi => ?_)
  rw [len_meet p2] at hi
  rw [gz_meet p2 hi, gz_meet p1 (by rw [len_meet h]; exact hi), gz_meet h hi, gz_meet k (by rw [← h.len]; exact hi)]
  omega
theorem join_meet {xs ys : List Int} (h : Pr xs ys) : joinL xs (meetL xs ys) = xs :=
  gz_ext (len_join (meet_pr h)) (fun i hi => by
    rw [len_join (meet_pr h)] at hi
    rw [gz_join (meet_pr h) hi, gz_meet h hi]
    omega)
theorem meet_join {xs ys : List Int} (h : Pr xs ys) : meetL xs (joinL xs ys) = xs :=
  gz_ext (len_meet (join_pr h)) (fun i hi => by
    rw [len_meet (join_pr h)] at hi
    rw [gz_meet (join_pr h) hi, gz_join h hi]
    omega)
theorem le_join {xs ys : List Int} (h : Pr xs ys) : leB xs (joinL xs ys) = true := leB_iff.2 (fun i hi => by rw [gz_join h hi]; omega)
theorem le_join2 {xs ys : List Int} (h : Pr xs ys) : leB ys (joinL xs ys) = true := leB_iff.2 (fun i hi => by rw [gz_join h (by rw [h.len]; exact hi)]; omega)
theorem meet_le {xs ys : List Int} (h : Pr xs ys) : leB (meetL xs ys) xs = true := leB_iff.2 (fun i hi => by rw [len_meet h] at hi; rw [gz_meet h hi]; omega)
theorem meet_le2 {xs ys : List Int} (h : Pr xs ys) : leB (meetL xs ys) ys = true := leB_iff.2 (fun i hi => by rw [len_meet h] at hi; rw [gz_meet h hi]; omega)
theorem join_lub {xs ys zs : List Int} (h : Pr xs ys) (h1 : leB xs zs = true) (h2 : leB ys zs = true) : leB (joinL xs ys) zs = true := leB_iff.2 (fun i hi => by
  rw [len_join h] at hi
  rw [gz_join h hi]
  have a := leB_iff.1 h1 i hi
  have b := leB_iff.1 h2 i (by rw [← h.len]; exact hi)
  omega)
theorem meet_glb {xs ys zs : List Int} (h : Pr xs ys) (k : Pr zs xs) (h1 : leB zs xs = true) (h2 : leB zs ys = true) : leB zs (meetL xs ys) = true := leB_iff.2 (fun i hi => by
  rw [gz_meet h (by rw [← k.len]; exact hi)]
  have a := leB_iff.1 h1 i hi
  have b := leB_iff.1 h2 i hi
  omega)

/-- The statement's atMost. -/
theorem atMostK_at (u v : Value) (xs ys : List Int) (w : World) (hu : KlC w u xs) (hv : KlC w v ys) (hp : Pr xs ys) :
    Calls Try.prog 35 #[u, v] w fun e w' => e = .returned (.bool (leB xs ys)) ∧ w = w' := by
  have HC := vCompare_at u v xs ys w hu hv
  have hle : leB xs ys = true ↔ cmpK xs ys = 1 ∨ cmpK xs ys = 0 := by
    rw [cmpK_one hp, cmpK_zero hp]
    constructor
    · intro h
      by_cases e : xs = ys
      · exact .inr e
      · exact .inl ⟨h, e⟩
    · rintro (h | rfl)
      · exact h.1
      · exact leB_self xs
  clear hu hv
  generalize leB xs ys = b at *
  rcases cmpK_cases hp with ⟨e, _, _⟩ | ⟨e, _, _, _⟩ | ⟨e, _, _, _⟩ | ⟨e, _, _, _⟩
  · rw [e] at HC hle
    obtain rfl : b = true := hle.2 (.inr rfl)
    have HC := Lib.hid HC
    clear hle hp e
    go_enter Try.func35, Try.ntmps35
    go_wp2_with fail
    refine HC.out.mono ?_
    rintro e w1 ⟨rfl, rfl⟩
    go_wp2
    go_ret
    exact ⟨rfl, rfl⟩
  · rw [e] at HC hle
    obtain rfl : b = true := hle.2 (.inl rfl)
    have HC := Lib.hid HC
    clear hle hp e
    go_enter Try.func35, Try.ntmps35
    go_wp2_with fail
    refine HC.out.mono ?_
    rintro e w1 ⟨rfl, rfl⟩
    go_wp2
    go_ret
    exact ⟨rfl, rfl⟩
  · rw [e] at HC hle
    obtain rfl : b = false := by
      cases b with
      | false => rfl
      | true => rcases hle.1 rfl with h | h <;> cases h
    have HC := Lib.hid HC
    clear hle hp e
    go_enter Try.func35, Try.ntmps35
    go_wp2_with fail
    refine HC.out.mono ?_
    rintro e w1 ⟨rfl, rfl⟩
    go_wp2
    go_ret
    exact ⟨rfl, rfl⟩
  · rw [e] at HC hle
    obtain rfl : b = false := by
      cases b with
      | false => rfl
      | true => rcases hle.1 rfl with h | h <;> cases h
    have HC := Lib.hid HC
    clear hle hp e
    go_enter Try.func35, Try.ntmps35
    go_wp2_with fail
    refine HC.out.mono ?_
    rintro e w1 ⟨rfl, rfl⟩
    go_wp2
    go_ret
    exact ⟨rfl, rfl⟩

/-! ### The errors that are noted -/

theorem KlP.keep2 {φ ψ : Nat → Prop} {w w' : World} {v : Value} {zs : List Int} (h : KlP φ w v zs) (hs : w.heap.size ≤ w'.heap.size) (hk : ∀ b, b < w.heap.size → φ b → w'.heap[b]? = w.heap[b]?) (hp : ∀ b, b < w.heap.size → φ b → ψ b) : KlP ψ w' v zs := (h.mono (fun b hb ho => (⟨hb, ho⟩ : b < w.heap.size ∧ φ b))).keep hs (fun b hb ho => hk b hb ho.2) |>.mono (fun b _ ho => hp b ho.1 ho.2)

abbrev TX : TypeId := 26
theorem infoX : (Try.prog.info? TX).map (fun i => (i.zero, i.size, i.bytes)) = some (some (.int .i64 0), 1, 8) := by kernel_rfl
/-- The box of the errors: so many noughts. -/
structure BoxX (E : Nat) (v : Value) (k : Nat) (w : World) : Prop where
  box : w.heap[E]? = some (.cells #[v] 40 (0, 0))
  row : w.ownsRow (E + 1) TX 1 v k (intV (fnL k (fun _ => 0)))
/-- The blocks that noting an error leaves alone. -/
def Off (E : Nat) (v : Value) (b : Nat) : Prop := b ≠ E ∧ v.ownBlock ≠ some b
/-- What noting an error does. -/
structure StepX (E : Nat) (v : Value) (w : World) (v' : Value) (w' : World) : Prop where
  os : w'.os = w.os
  tape : w'.tape = w.tape
  output : w'.output = w.output
  size : w.heap.size ≤ w'.heap.size
  block : ∀ b, b < w.heap.size → Off E v b → w'.heap[b]? = w.heap[b]?
  own : ∀ b, v'.ownBlock = some b → v.ownBlock = some b ∨ w.heap.size ≤ b
theorem StepX.off {E : Nat} {v v' : Value} {w w' : World} (h : StepX E v w v' w') {b : Nat} (hb : b < w.heap.size) (ho : Off E v b) : Off E v' b := ⟨ho.1, fun e => by
  rcases h.own b e with h1 | h1
  · exact ho.2 h1
  · omega⟩
theorem StepX.carry {E : Nat} {v v' u : Value} {w w' : World} {zs : List Int} (h : StepX E v w v' w') (hu : KlP (Off E v) w u zs) : KlP (Off E v') w' u zs :=
  (hu.mono (fun b hb ho => (⟨hb, ho⟩ : b < w.heap.size ∧ Off E v b))).keep2 h.size (fun b hb ho => h.block b hb ho.2) (fun _ hb ho => h.off hb ho.2)

theorem StepX.below {E B : Nat} {v v' : Value} {w w' : World} (h : StepX E v w v' w') (hE : B ≤ E) (hv : ∀ b, v.ownBlock = some b → B ≤ b) (hB : B ≤ w.heap.size) : Below B w w' :=
  ⟨h.os, h.tape, h.output, h.size, fun b hb => h.block b (by omega) ⟨by omega, fun e => by have := hv b e; omega⟩⟩
theorem BoxX.below {E k : Nat} {v : Value} {w w' : World} (h : BoxX E v k w) (hb : Below w.heap.size w w') : BoxX E v k w' :=
  ⟨(hb.block E ((Array.getElem?_eq_some_iff.1 h.box).1)).trans h.box, ownZ_block h.row (fun b e => hb.block b (World.ownsRow.lt h.row b e).2)⟩
theorem BoxX.base {E k : Nat} {v : Value} {w : World} (h : BoxX E v k w) : ∀ b, v.ownBlock = some b → E ≤ b := fun b e => by have := (World.ownsRow.lt h.row b e).1; omega
theorem BoxX.lt {E k : Nat} {v : Value} {w : World} (h : BoxX E v k w) : E < w.heap.size := (Array.getElem?_eq_some_iff.1 h.box).1

/-- One element more of one cell: into the row itself, or a new one. -/
theorem appendOne (t e : TypeId) (i : TypeInfo) (z : Value) (bytes : Nat) (ht : Try.prog.underlying t = some (.slice e)) (ji : Try.prog.info? e = some i) (jz0 : i.zero = some z) (jz1 : i.size = 1) (jz2 : i.bytes = bytes) (hzs : z.cells.size = 1) (hby : bytes ≤ 24)
    {B n : Nat} {v u : Value} {vs : List Value} {w : World} (h : w.ownsRow B e 1 v n vs) (hB : B ≤ w.heap.size) (hu : u.oneCell' = true) (ad : Addr) (had : w.cell? ad = some u) (hn : n ≤ 6000) :
    ∃ (v' : Value) (w' : World) (gn : Nat), (Builtin.append_ #[t, t] t #[v, .slice (some ad) 1 1]).run Try.prog w = .ok v' w' ∧ w'.ownsRow B e 1 v' (n + 1) (vs ++ [u]) ∧ v'.ownBlock = some gn ∧
      ((v.ownBlock = some gn ∧ w.grownBy w' (some gn)) ∨ (w.heap.size ≤ gn ∧ w.grownBy w' none)) := by
  have hone : ∀ x ∈ [u], x.oneCell' = true := by
    intro x hx
    simp at hx
    subst hx
    exact hu
  have hnews : ∀ (j : Nat) (x : Value), [u][j]? = some x → w.cell? (ad.add j) = some x := by
    intro j x hj
    match j, hj with
    | 0, hj =>
      simp at hj
      subst hj
      have : ad.add 0 = ad := by obtain ⟨a, b, c⟩ := ad; cases c <;> simp [Addr.add]
      rw [this]
      exact had
  have hbb : ∀ m, m ≤ 6001 → m * bytes ≤ 140737488355328 := fun m hm => Nat.le_trans (Nat.mul_le_mul hm hby) (by decide)
  have fresh : ∀ (v' : Value) (w' : World), w'.ownsRow w.heap.size e 1 v' (n + 1) (vs ++ [u]) → ∃ gn, v'.ownBlock = some gn ∧ w.heap.size ≤ gn := by
    intro v' w' ho
    rcases ho.2 with ⟨_, e⟩ | ⟨g', cap', cur', rfl, hBg, _⟩
    · omega
    · exact ⟨g', rfl, hBg⟩
  have h' := h
  rcases h.2 with ⟨rfl, e0⟩ | ⟨g, cap, cur, rfl, hBg, hg, k1, k2, k3, k4⟩
  · subst e0
    have hvs : vs = [] := by have := h.1; simpa using this
    subst hvs
    obtain ⟨v', w', hrun, ho, hgw, _⟩ := run_append_own (P := Try.prog) w w.heap.size t t e i z 1 bytes ht ji jz0 jz1 jz2 hzs (by decide) (.slice none 0 0) 0 [] (World.ownsRow_nil _ _ _ _) ad 1 1 [u] rfl hnews hone (by unfold maxLen; omega) (hbb _ (by omega)) (Nat.le_refl _)
    obtain ⟨gn, e1, e2⟩ := fresh v' w' ho
    exact ⟨v', w', gn, hrun, ownZ_base hB ho, e1, .inr ⟨e2, hgw⟩⟩
  · by_cases hr : n + 1 ≤ cap
    · obtain ⟨v', w', hrun, ho, hgw, _⟩ := run_append_own (P := Try.prog) w B t t e i z 1 bytes ht ji jz0 jz1 jz2 hzs (by decide) _ n vs h' ad 1 1 [u] rfl hnews hone (by unfold maxLen; omega) (hbb _ (by omega)) hB
      have hroom := run_append_room_cells (P := Try.prog) w t t e i ht ji g 0 n cap ad 1 1 [u] (by rw [jz1]; rfl) hnews hone hr (fun j hj => by
        simp at hj
        subst hj
        rw [jz1, Nat.mul_one, Nat.add_zero, Nat.zero_add, Lib.cell_of_heap hg]
        have : n < cur.size := by omega
        simp [this]) (fun j _ => by rw [Lib.frozen_of_heap hg])
      rw [hroom] at hrun
      injection hrun with e1 e2
      refine ⟨v', w', g, ?_, ho, ?_, .inl ⟨rfl, hgw⟩⟩
      · rw [hroom, e1, e2]
      · rw [← e1]
        rfl
    · obtain ⟨v', w', hrun, ho, hgw⟩ := run_append_arg_grows (P := Try.prog) w t t e i z 1 bytes ht ji jz0 jz1 jz2 hzs (by decide) ⟨g, 0, none⟩ n cap vs (by have := h'.1; omega) (World.ownsRow.cells h' rfl) ad 1 1 [u] rfl hnews (by omega) (by unfold maxLen; omega) (hbb _ (by omega))
      obtain ⟨gn, e1, e2⟩ := fresh v' w' ho
      exact ⟨v', w', gn, hrun, ownZ_base hB ho, e1, .inr ⟨e2, hgw⟩⟩

/-- One nought more. -/
theorem BoxX.more {E k : Nat} {v : Value} {w : World} (h : BoxX E v k w) (hk : k ≤ 1000) :
    ∃ (v' : Value) (w1 : World), (Builtin.append_ #[40, 40] 40 #[v, .slice (some ⟨w.heap.size, 0, none⟩) 1 1]).run Try.prog (w.alloc (.cells #[.int .i64 0] TX)) = .ok v' w1 ∧ w1.heap[E]? = some (.cells #[v] 40 (0, 0)) ∧
      BoxX E v' (k + 1) (w1.setCell ⟨E, 0, none⟩ v') ∧ StepX E v w v' (w1.setCell ⟨E, 0, none⟩ v') := by
  obtain ⟨i1, ji, jz0, jz1, jz2⟩ := info_parts infoX
  have hlt := h.lt
  have ha : (w.alloc (.cells #[.int .i64 0] TX)).ownsRow (E + 1) TX 1 v k (intV (fnL k (fun _ => 0))) := World.ownsRow.alloc h.row _
  have hsz : (w.alloc (.cells #[.int .i64 0] TX)).heap.size = w.heap.size + 1 := by simp
  obtain ⟨v', w1, gn, hrun, ho, hgn, hc⟩ := appendOne 40 TX i1 (.int .i64 0) 8 Try.underlying40 ji jz0 jz1 jz2 rfl (by decide) (u := .int .i64 0) ha (by omega) rfl ⟨w.heap.size, 0, none⟩ (by simp) (by omega)
  have hkeep : ∀ b, b < w.heap.size → v.ownBlock ≠ some b → w1.heap[b]? = w.heap[b]? := by
    intro b hb hv
    rw [← Below.heap_alloc w (.cells #[.int .i64 0] TX) b hb]
    rcases hc with ⟨h1, h2⟩ | ⟨_, h2⟩
    · exact h2.block b (by omega) (fun e => hv (by rw [h1, e]))
    · exact h2.block b (by omega) (by simp)
  have hs1 : w.heap.size + 1 ≤ w1.heap.size := by
    rcases hc with ⟨_, h2⟩ | ⟨_, h2⟩ <;> (have := h2.size; omega)
  have hm : w1.os = w.os ∧ w1.tape = w.tape ∧ w1.output = w.output := by
    rcases hc with ⟨_, h2⟩ | ⟨_, h2⟩ <;> exact ⟨h2.os, h2.tape, h2.output⟩
  have hbE : w1.heap[E]? = some (.cells #[v] 40 (0, 0)) := by
    rw [hkeep E hlt (fun e => by have := (World.ownsRow.lt h.row E e).1; omega)]
    exact h.box
  refine ⟨v', w1, hrun, hbE, ⟨?_, ?_⟩, ⟨hm.1, hm.2.1, hm.2.2, ?_, fun b hb hoff => ?_, fun b e => ?_⟩⟩
  · rw [heap_setCell_same w1 E 0 _ _ _ hbE]
    rfl
  · rw [← zeros_snoc]
    exact ownZ_block ho (fun b e => Below.heap_setCell w1 ⟨E, 0, none⟩ _ b (by have := (World.ownsRow.lt ho b e).1; show b ≠ E; omega))
  · simp [World.setCell]
    omega
  · rw [Below.heap_setCell w1 ⟨E, 0, none⟩ _ b hoff.1, hkeep b hb hoff.2]
  · rw [hgn] at e
    cases e
    rcases hc with ⟨h1, _⟩ | ⟨h1, _⟩
    · exact .inl h1
    · exact .inr (by omega)

set_option maxRecDepth 100000 in
set_option maxHeartbeats 2000000 in
/-- The closure. -/
theorem bndJoin_any (E k : Nat) (ev u v : Value) (xs ys : List Int) (w : World) (hX : BoxX E ev k w) (hk : k ≤ 1000) (hu : KlP (Off E ev) w u xs) (hv : KlP (Off E ev) w v ys) (hp : Pr xs ys) :
    Calls Try.prog 33 #[u, v, .pointer (some ⟨E, 0, none⟩)] w fun e w' => ∃ z, e = .returned z ∧ ∃ ev', BoxX E ev' (k + 1) w' ∧ StepX E ev w ev' w' ∧ KlP (Off E ev') w' z (joinL xs ys) := by
  have hlt := hX.lt
  have hJ : Calls Try.prog 25 #[u, v] w (RetF (joinL xs ys) 0 w) := by
    obtain ⟨a, c, rfl, h1, l1⟩ := hu.known
    obtain ⟨b, d, rfl, h2, l2⟩ := hv.known
    have h := vJoinF a b c d xs ys w h1 h2 l1 l2
    rwa [show pairE xs ys = 0 from hp] at h
  have HJ := Lib.hid hJ
  have HX := Lib.hid hX
  generalize joinL xs ys = JL at *
  clear hJ hu hv hp hX
  go_enter Try.func33, Try.ntmps33
  go_wp2_with fail
  refine HJ.out.mono ?_
  rintro e w1 ⟨z, rfl, hz, b1⟩
  have hX1 := HX.out.below b1
  obtain ⟨ev', w2, hrun, hb2, hX2, hS2⟩ := hX1.more hk
  have hzoff : KlP (Off E ev) w1 z JL := KlP.mono hz (fun b _ hn => ⟨by omega, fun e => by have := (World.ownsRow.lt HX.out.row b e).2; omega⟩)
  have hz2 := hS2.carry hzoff
  have hS : StepX E ev w ev' (w2.setCell ⟨E, 0, none⟩ ev') := ⟨hS2.os.trans b1.os, hS2.tape.trans b1.tape, hS2.output.trans b1.output, Nat.le_trans b1.size hS2.size, fun b hb ho => (hS2.block b (by have := b1.size; omega) ho).trans (b1.block b hb), fun b e => by
    rcases hS2.own b e with h1 | h1
    · exact .inl h1
    · exact .inr (Nat.le_trans b1.size h1)⟩
  have c1 : w1.cell? ⟨E, 0, none⟩ = some ev := by rw [Lib.cell_of_heap hX1.box]; rfl
  have c2 : w2.cell? ⟨E, 0, none⟩ = some ev := by rw [Lib.cell_of_heap hb2]; rfl
  have c3 : w2.frozen? ⟨E, 0, none⟩ = false := Lib.frozen_of_heap hb2 0
  have HRUN := Lib.hid hrun
  have HX2 := Lib.hid hX2
  have HS := Lib.hid hS
  have HZ := Lib.hid hz2
  obtain ⟨ea, el, ec, rfl⟩ : ∃ a n c, ev = .slice a n c := by obtain ⟨a, c, e, _⟩ := ownZ_slice hX1.row; exact ⟨a, _, c, e⟩
  obtain ⟨ea', el', ec', rfl⟩ : ∃ a n c, ev' = .slice a n c := by obtain ⟨a, c, e, _⟩ := ownZ_slice hX2.row; exact ⟨a, _, c, e⟩
  clear hz b1 hX1 hrun hb2 hX2 hS2 hzoff hz2 hS
  go_wp2_with (at_builtin; refine append_by_run _ rfl _ _ _ rfl _ _ rfl rfl _ _ HRUN.out ?_)
  go_ret
  exact ⟨_, rfl, _, HX2.out, HS.out, HZ.out⟩

set_option maxRecDepth 100000 in
set_option maxHeartbeats 2000000 in
/-- The closure. -/
theorem bndMeet_any (E k : Nat) (ev u v : Value) (xs ys : List Int) (w : World) (hX : BoxX E ev k w) (hk : k ≤ 1000) (hu : KlP (Off E ev) w u xs) (hv : KlP (Off E ev) w v ys) (hp : Pr xs ys) :
    Calls Try.prog 34 #[u, v, .pointer (some ⟨E, 0, none⟩)] w fun e w' => ∃ z, e = .returned z ∧ ∃ ev', BoxX E ev' (k + 1) w' ∧ StepX E ev w ev' w' ∧ KlP (Off E ev') w' z (meetL xs ys) := by
  have hlt := hX.lt
  have hJ : Calls Try.prog 27 #[u, v] w (RetF (meetL xs ys) 0 w) := by
    obtain ⟨a, c, rfl, h1, l1⟩ := hu.known
    obtain ⟨b, d, rfl, h2, l2⟩ := hv.known
    have h := vMeetF a b c d xs ys w h1 h2 l1 l2
    rwa [show pairE xs ys = 0 from hp] at h
  have HJ := Lib.hid hJ
  have HX := Lib.hid hX
  generalize meetL xs ys = JL at *
  clear hJ hu hv hp hX
  go_enter Try.func34, Try.ntmps34
  go_wp2_with fail
  refine HJ.out.mono ?_
  rintro e w1 ⟨z, rfl, hz, b1⟩
  have hX1 := HX.out.below b1
  obtain ⟨ev', w2, hrun, hb2, hX2, hS2⟩ := hX1.more hk
  have hzoff : KlP (Off E ev) w1 z JL := KlP.mono hz (fun b _ hn => ⟨by omega, fun e => by have := (World.ownsRow.lt HX.out.row b e).2; omega⟩)
  have hz2 := hS2.carry hzoff
  have hS : StepX E ev w ev' (w2.setCell ⟨E, 0, none⟩ ev') := ⟨hS2.os.trans b1.os, hS2.tape.trans b1.tape, hS2.output.trans b1.output, Nat.le_trans b1.size hS2.size, fun b hb ho => (hS2.block b (by have := b1.size; omega) ho).trans (b1.block b hb), fun b e => by
    rcases hS2.own b e with h1 | h1
    · exact .inl h1
    · exact .inr (Nat.le_trans b1.size h1)⟩
  have c1 : w1.cell? ⟨E, 0, none⟩ = some ev := by rw [Lib.cell_of_heap hX1.box]; rfl
  have c2 : w2.cell? ⟨E, 0, none⟩ = some ev := by rw [Lib.cell_of_heap hb2]; rfl
  have c3 : w2.frozen? ⟨E, 0, none⟩ = false := Lib.frozen_of_heap hb2 0
  have HRUN := Lib.hid hrun
  have HX2 := Lib.hid hX2
  have HS := Lib.hid hS
  have HZ := Lib.hid hz2
  obtain ⟨ea, el, ec, rfl⟩ : ∃ a n c, ev = .slice a n c := by obtain ⟨a, c, e, _⟩ := ownZ_slice hX1.row; exact ⟨a, _, c, e⟩
  obtain ⟨ea', el', ec', rfl⟩ : ∃ a n c, ev' = .slice a n c := by obtain ⟨a, c, e, _⟩ := ownZ_slice hX2.row; exact ⟨a, _, c, e⟩
  clear hz b1 hX1 hrun hb2 hX2 hS2 hzoff hz2 hS
  go_wp2_with (at_builtin; refine append_by_run _ rfl _ _ _ rfl _ _ rfl rfl _ _ HRUN.out ?_)
  go_ret
  exact ⟨_, rfl, _, HX2.out, HS.out, HZ.out⟩

/-! ### The library's ContainsFunc over noughts -/

theorem bad_one (z : Int) (w : World) : Calls Try.prog 37 #[.int .i64 z] w fun e w' => e = .returned (.bool (z != 0)) ∧ w = w' := by
  go_enter Try.func37, Try.ntmps37
  go_wp2
  go_ret
  exact ⟨rfl, rfl⟩
theorem indexX_any (a : Option Addr) (c k : Nat) (w : World) (hk : k ≤ 1000) (hr : ∀ j, j < k → ∃ b off, a = some ⟨b, off, none⟩ ∧ w.cell? ⟨b, off + j, none⟩ = some (.int .i64 0)) :
    Calls Try.prog 59 #[.slice a k c, .func (.func 37) #[] #[]] w fun e w' => e = .returned (.int .i64 (-1)) ∧ w = w' := by
  have HR := Lib.hid hr
  have HC := Lib.hid (bad_one 0 w)
  clear hr
  go_enter Try.func59, Try.ntmps59
  go_wp2
  go_loopw [8] (fun x wr => ∃ j : Nat, j ≤ k ∧ x = .int .i64 j ∧ w = wr) (fun x _ => k - (intOf x).toNat)
  case atStart => exact ⟨0, Nat.zero_le _, rfl, rfl⟩
  case round =>
    obtain ⟨j, hj, rfl, rfl⟩ := hrel
    by_cases hjk : j < k
    · have j1 : (j : Int) < (k : Int) := by omega
      obtain ⟨b, off, rfl, hc⟩ := HR.out j hjk
      go_wp2_with fail
      refine HC.out.mono ?_
      rintro e w4 ⟨rfl, rfl⟩
      go_wp2
      go_roundw
      case rel => exact ⟨j + 1, by omega, by go_num, trivial⟩
      case measure => simp [intOf]; omega
    · obtain rfl : j = k := by omega
      go_wp2
      go_ret
      exact ⟨rfl, rfl⟩
theorem containsX_any (E k : Nat) (ev : Value) (w : World) (hX : BoxX E ev k w) (hk : k ≤ 1000) :
    Calls Try.prog 36 #[ev, .func (.func 37) #[] #[]] w fun e w' => e = .returned (.bool false) ∧ w = w' := by
  obtain ⟨a, c, rfl, h1, h2⟩ := ownZ_slice hX.row
  have HI := Lib.hid (indexX_any a c k w hk (fun j hj => by
    obtain ⟨g, cap, e, _⟩ := ownZ_some hX.row (by omega)
    injection e with e1 e2 e3
    subst e1
    refine ⟨g, 0, rfl, ?_⟩
    rw [Nat.zero_add, World.ownsRow.cellAt hX.row j (by omega), intV_get _ (by rw [fnL_length]; exact hj), gz_fnL hj]))
  clear hX h1 h2
  go_enter Try.func36, Try.ntmps36
  go_wp2_with fail
  refine HI.out.mono ?_
  rintro e w1 ⟨rfl, rfl⟩
  go_wp2
  go_ret
  exact ⟨rfl, rfl⟩

end Go.Proofs.Ytpkmdonejmbnoaa
