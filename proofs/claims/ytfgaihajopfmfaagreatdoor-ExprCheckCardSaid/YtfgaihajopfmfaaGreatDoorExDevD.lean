/-
  Rows of expressions of the call's own. The program's constant: the value of an expression without names. A region that draws its order and ends with a forced tail (from operation t on) that may write what the region's loads have read. The program's replace, by its function (K). What the program's Fold returns.
-/
import Derived.Maps.AppendAt
import Derived.Test.YtfgaihajopfmfaaGreatDoorExBase
import Derived.Test.YtfgaihajopfmfaaGreatDoorExDevC
import Derived.OrdersHeld
import Derived.RegionTactic
import Derived.Test.YtfgaihajopfmfaaGreatDoorHeldTop
import Derived.Test.YtfgaihajopfmfaaGreatDoorExDevA
/-! ### ExRow: Rows of expressions of the call's own. -/
namespace Go.Proofs.YtfgaihajopfmfaaGreatDoor
set_option linter.unusedSimpArgs false
set_option linter.unusedVariables false
open Go.RowKit

def xV (e : Ex) (sl : Value) : List Value := [.int .i64 e.k, .int .i64 e.o, .string e.s, .int .i64 e.v, sl]
def xsV (ps : List (Ex × Value)) : List Value := ps.flatMap fun p => xV p.1 p.2
def gp (ps : List (Ex × Value)) (j : Nat) : Ex × Value := ps[j]?.getD (zeroX, .slice none 0 0)
theorem xsV_cons (p : Ex × Value) (r : List (Ex × Value)) : xsV (p :: r) = xV p.1 p.2 ++ xsV r := by simp [xsV]
theorem xsV_snoc (ps : List (Ex × Value)) (e : Ex) (sl : Value) : xsV (ps ++ [(e, sl)]) = xsV ps ++ xV e sl := by simp [xsV]
theorem xsV_length (ps : List (Ex × Value)) : (xsV ps).length = ps.length * 5 := by
  induction ps with
  | nil => rfl
  | cons p r ih => rw [xsV_cons, List.length_append, ih, List.length_cons]; simp only [xV, List.length_cons, List.length_nil]; omega
theorem xsV_get (ps : List (Ex × Value)) : ∀ j i, j < ps.length → i < 5 → (xsV ps)[j * 5 + i]? = (xV (gp ps j).1 (gp ps j).2)[i]? := by
  induction ps with
  | nil => intro j i h; simp at h
  | cons p r ih =>
    intro j i h hi
    rw [xsV_cons]
    cases j with
    | zero =>
      rw [List.getElem?_append_left (by simp [xV]; omega)]
      simp [gp]
    | succ j =>
      rw [List.getElem?_append_right (by simp [xV]; omega)]
      have : (j + 1) * 5 + i - (xV p.1 p.2).length = j * 5 + i := by simp only [xV, List.length_cons, List.length_nil]; omega
      rw [this, ih j i (by simpa using h) hi]
      simp [gp]
/-- A row of the call's own, whose trees lie in blocks that φ allows, and not in the row's own. -/
def OwnX (φ : Nat → Prop) (B : Nat) (ps : List (Ex × Value)) (v : Value) (w : World) : Prop :=
  w.ownsRow B TX 5 v ps.length (xsV ps) ∧ ∀ p ∈ ps, KA (fun b => φ b ∧ v.ownBlock ≠ some b) w p.1.es p.2
theorem OwnX.nil (φ : Nat → Prop) (B : Nat) (w : World) : OwnX φ B [] (.slice none 0 0) w := ⟨World.ownsRow_nil _ _ _ _, fun p hp => by cases hp⟩
theorem OwnX.lt {φ : Nat → Prop} {B : Nat} {ps : List (Ex × Value)} {v : Value} {w : World} (h : OwnX φ B ps v w) : ∀ k, v.ownBlock = some k → B ≤ k ∧ k < w.heap.size := fun k e => World.ownsRow.lt h.1 k e
theorem OwnX.below {φ : Nat → Prop} {B : Nat} {ps : List (Ex × Value)} {v : Value} {w w' : World} (h : OwnX φ B ps v w) (hb : Below w.heap.size w w') : OwnX φ B ps v w' :=
  ⟨World.ownsRow.kept h.1 (grown_ofZ hb none) (by cases v.ownBlock <;> simp), fun p hp => KA.carry (h.2 p hp) hb⟩
theorem gp_mem {ps : List (Ex × Value)} {j : Nat} (h : j < ps.length) : gp ps j ∈ ps := by
  unfold gp
  rw [List.getElem?_eq_getElem h]
  exact List.getElem_mem h
theorem ga_map (ps : List (Ex × Value)) {j : Nat} (h : j < ps.length) : ga (ps.map (·.1)) j = (gp ps j).1 := by
  unfold ga gp
  rw [List.getElem?_map, List.getElem?_eq_getElem h]
  rfl
theorem OwnX.known {φ : Nat → Prop} {B : Nat} {ps : List (Ex × Value)} {v : Value} {w : World} (h : OwnX φ B ps v w) : KA (fun b => φ b ∨ B ≤ b) w (ps.map (·.1)) v := by
  obtain ⟨a, c, e, h1, h2⟩ := ownZ_slice h.1
  have key : KA (fun b => φ b ∨ B ≤ b) w (ps.map (·.1)) (.slice a (ps.map (·.1)).length c) := by
    refine .mk _ a c (fun j => (gp ps j).2) (by rw [List.length_map]; exact h1) h2 (fun j hj => ?_) (fun j hj => ?_)
    · rw [List.length_map] at hj
      obtain ⟨g, cap, e2, hB⟩ := ownZ_some h.1 (by omega)
      rw [e] at e2
      injection e2 with e3
      subst e3
      subst e
      refine ⟨g, 0, rfl, .inr hB, (World.ownsRow.lt h.1 g rfl).2, ?_⟩
      have hl := xsV_length ps
      have hc : ∀ i, i < 5 → w.cell? ⟨g, j * 5 + i, none⟩ = (xV (gp ps j).1 (gp ps j).2)[i]? := fun i hi => by
        rw [World.ownsRow.cellAt h.1 (j * 5 + i) (by omega), xsV_get ps j i hj hi]
      rw [ga_map ps hj, Nat.zero_add]
      exact ⟨hc 0 (by decide), hc 1 (by decide), hc 2 (by decide), hc 3 (by decide), hc 4 (by decide)⟩
    · rw [List.length_map] at hj
      rw [ga_map ps hj]
      exact (h.2 _ (gp_mem hj)).mono fun b _ hb => .inl hb.1
  rw [List.length_map] at key
  rw [e]
  exact key
/-- One expression more. -/
theorem appX {φ : Nat → Prop} (W : World) (B : Nat) (v : Value) (ps : List (Ex × Value)) (e : Ex) (sl : Value) (y : Nat) (hO : OwnX φ B ps v W) (hK : KA (fun b => φ b ∧ v.ownBlock ≠ some b) W e.es sl) (hy : W.heap[y]? = some (.cells (xV e sl).toArray TX (0, 0))) (h1 : sl.oneCell' = true) (hl : ps.length ≤ 1000) (hBW : B ≤ W.heap.size) :
    ∃ v' w', (Builtin.append_ #[22, 22] 22 #[v, .slice (some ⟨y, 0, none⟩) 1 1]).run Tryz.prog W = .ok v' w' ∧ OwnX φ B (ps ++ [(e, sl)]) v' w' ∧ Below B W w' ∧ W.heap.size ≤ w'.heap.size ∧ (∀ b, b < W.heap.size → v.ownBlock ≠ some b → w'.heap[b]? = W.heap[b]?) := by
  obtain ⟨i3, ki, kz0, kz1, kz2⟩ := info_parts infoX
  have hc : ∀ j u, (xV e sl)[j]? = some u → W.cell? ((⟨y, 0, none⟩ : Addr).add j) = some u := by
    intro j u hj
    rw [Addr.add_lit, Lib.cell_of_heap hy]
    simpa using hj
  obtain ⟨v', w', g1, g2, g3, _, g5⟩ := run_append_own_at (P := Tryz.prog) W B 22 22 TX i3 _ 5 64 Tryz.underlying22 ki kz0 kz1 kz2 rfl (by decide) _ _ _ hO.1 ⟨y, 0, none⟩ 1 1 (xV e sl) rfl hc (by intro u hu; simp [xV] at hu; rcases hu with rfl | rfl | rfl | rfl | rfl <;> first | rfl | exact h1) (by unfold maxLen; omega) (by omega) hBW
  have hkeep : ∀ b, b < W.heap.size → v.ownBlock ≠ some b → w'.heap[b]? = W.heap[b]? := fun b h2 h3 => g3.block b h2 (fun e => h3 e.symm)
  have hne : ∀ b, b < W.heap.size → v.ownBlock ≠ some b → v'.ownBlock ≠ some b := fun b h2 h3 h4 => by
    rcases g5 with h | h
    · exact h3 (h.symm.trans h4)
    · rw [h] at h4; injection h4 with h4; omega
  refine ⟨v', w', g1, ⟨?_, fun p hp => ?_⟩, (Below.refl B W).grown g3 hBW (fun k e => (World.ownsRow.lt hO.1 k e).1), g3.size, hkeep⟩
  · rw [List.length_append, xsV_snoc]
    exact g2
  · have hp' : KA (fun b => φ b ∧ v.ownBlock ≠ some b) W p.1.es p.2 := by
      rcases List.mem_append.1 hp with h | h
      · exact hO.2 p h
      · have : p = (e, sl) := by simpa using h
        subst this
        exact hK
    exact hp'.keep g3.size (fun b h2 h3 => ⟨⟨h3.1, hne b h2 h3.2⟩, hkeep b h2 h3.2⟩)

end Go.Proofs.YtfgaihajopfmfaaGreatDoor

/-! ### ExConst: The program's constant: the value of an expression without names. -/
namespace Go.Proofs.YtfgaihajopfmfaaGreatDoor
set_option linter.unusedSimpArgs false
set_option linter.unusedVariables false
open Go.RowKit

/-- What a function that replaces gives for a part: the tree in blocks from n on. -/
def RetR (n : Nat) (r : Option Ex) (w : World) (x : Ending) (w' : World) : Prop := ∃ a c, x = .returned (.tuple #[exV (r.getD zeroX) (.slice a (r.getD zeroX).es.length c), .bool r.isSome]) ∧ KA (fun b => n ≤ b) w' (r.getD zeroX).es (.slice a (r.getD zeroX).es.length c) ∧ Below n w w'
theorem KA.nil0 (φ : Nat → Prop) (w : World) : KA φ w [] (.slice none 0 0) := .mk [] none 0 (fun _ => .slice none 0 0) (Nat.le_refl _) (by decide) (fun j h => by simp at h) (fun j h => by simp at h)
/-- A block that holds one expression, known. -/
theorem one_known {φ : Nat → Prop} {w : World} {b : Nat} (e : Ex) (sl : Value) (hb : w.heap[b]? = some (.cells #[.int .i64 e.k, .int .i64 e.o, .string e.s, .int .i64 e.v, sl] TX (0, 0))) (hk : KA φ w e.es sl) (hp : φ b) : KA φ w [e] (.slice (some ⟨b, 0, none⟩) 1 1) :=
  .mk [e] (some ⟨b, 0, none⟩) 1 (fun _ => sl) (Nat.le_refl _) (by decide) (fun j hj => by
    obtain rfl : j = 0 := by simpa using hj
    refine ⟨b, 0, rfl, hp, (Array.getElem?_eq_some_iff.1 hb).1, ?_⟩
    refine ⟨?_, ?_, ?_, ?_, ?_⟩ <;> simp [World.cell?, hb, ga]) (fun j hj => by
    obtain rfl : j = 0 := by simpa using hj
    exact hk)
theorem ckB_nil : ckB [] = true := by rfl
set_option maxRecDepth 100000 in
set_option maxHeartbeats 4000000 in
theorem constant_any (m : Nat) (e : Ex) (sl : Value) (w : World) (hK : KX w e sl) (hM : TabO m w) (hP : prE e = 0) (hS : szE e ≤ 100) :
    Calls Tryz.prog 53 #[.agg #[.map (some m), .slice none 0 0], exV e sl] w (RetR w.heap.size (cnE e) w) := by
  obtain ⟨sa, sc, sf, rfl, s1, s2, sx⟩ := KA.inv hK
  obtain ⟨W, hW⟩ : ∃ W, ((w.alloc (.cells #[.map (some m), .slice none 0 0] TEv (0, 0))).alloc (.cells #[.int .i64 e.k, .int .i64 e.o, .string e.s, .int .i64 e.v, .slice sa e.es.length sc] TX (0, 0))).alloc (.cells #[.int .i64 0, .int .i64 0, .string ⟨#[]⟩, .int .i64 0, .slice none 0 0] TX (0, 0)) = W := ⟨_, rfl⟩
  have hb3 := threeBlocks w (.cells #[.map (some m), .slice none 0 0] TEv (0, 0)) (.cells #[.int .i64 e.k, .int .i64 e.o, .string e.s, .int .i64 e.v, .slice sa e.es.length sc] TX (0, 0)) (.cells #[.int .i64 0, .int .i64 0, .string ⟨#[]⟩, .int .i64 0, .slice none 0 0] TX (0, 0))
  rw [hW] at hb3
  obtain ⟨t0, t1, t2, hb⟩ := hb3
  have H0 := Lib.hid t0
  have HX : Hid (AtX W (w.heap.size + 1) 0 e (.slice sa e.es.length sc)) := Lib.hid (by
    refine ⟨?_, ?_, ?_, ?_, ?_⟩ <;> simp [World.cell?, t1])
  have H2 := Lib.hid t2
  have HB := Lib.hid hb
  have HIN := Lib.hid (typeOf_any [] (.slice none 0 0) m e _ W (hK.carry hb) (KB.nil W none 0 (by decide)) (hM.below hb) hP hS)
  have HVA := Lib.hid (fun W' (hb' : Below w.heap.size w W') => valueOf_any [] ckB_nil (.slice none 0 0) m e _ W' (hK.carry hb') (KB.nil W' none 0 (by decide)) (hM.below hb') hP hS)
  have HP := Lib.hid hP
  have HW := Lib.hid hW
  simp only [exV] at HIN HVA ⊢
  clear hK hM hP hS t0 t1 t2 hb hW sx
  go_enter Tryz.func53, Tryz.ntmps53
  go_wp2_with fail
  rw [HW.out]
  refine HIN.out.mono ?_
  rintro x w4 ⟨rfl, b4⟩
  have HB4 := Lib.hid (HB.out.trans (b4.mono HB.out.size))
  have H24 := Lib.hid ((b4.block _ (Array.getElem?_eq_some_iff.1 H2.out).1).trans H2.out)
  have H04 := Lib.hid ((b4.block _ (Array.getElem?_eq_some_iff.1 H0.out).1).trans H0.out)
  have HX4 := Lib.hid (HX.out.keep (b4.block _ HX.out.lt))
  clear b4 HIN H0 H2 HX
  obtain ⟨x0, x1, x2, x3, x4⟩ := HX4.out
  have v0 : w4.cell? ⟨w.heap.size, 0, none⟩ = some (.map (some m)) := by have := H04.out; simp [World.cell?, this]
  have v1 : w4.cell? ⟨w.heap.size, 1, none⟩ = some (.slice none 0 0) := by have := H04.out; simp [World.cell?, this]
  simp only [Nat.zero_add] at x1 x2 x3 x4
  by_cases h2 : (tyE [] e).2 = 0
  · by_cases h1 : (tyE [] e).1 = 1
    · obtain ⟨p1, p2⟩ := ieq h1
      obtain ⟨q1, q2⟩ := ieq h2
      have hV := HVA.out w4 HB4.out h2
      have HV := Lib.hid hV
      have HTY : Hid (tyE [] e = (1, 0)) := Lib.hid (by rw [← h1, ← h2])
      rw [HTY.out] at p1 p2 q1 q2 ⊢
      clear h1 h2 hV HVA p1 p2 q1 q2
      go_wp2_with fail
      refine HV.out.mono ?_
      rintro x w5 ⟨rfl, b5⟩
      have HB5 := Lib.hid (HB4.out.trans (b5.mono HB4.out.size))
      have H25 := Lib.hid ((b5.block _ (Array.getElem?_eq_some_iff.1 H24.out).1).trans H24.out)
      clear b5 x0 x1 x2 x3 x4 v0 v1
      by_cases h3 : (vlE [] e).2 = 0
      · obtain ⟨q1, q2⟩ := ieq h3
        obtain ⟨V, hV⟩ : ∃ V, (vlE [] e).1 = V := ⟨_, rfl⟩
        have hrg : -1099511627776 ≤ V ∧ V ≤ 1099511627776 := by rw [← hV]; exact ((sound [] ckB_nil e HP.out 1 HTY.out).ok h3).range
        have HMG := Lib.hid (fun W => magnitude_same V W (by omega))
        have HC : Hid (cnE e = some (litX V)) := Lib.hid (by unfold cnE; rw [if_pos ⟨HTY.out, h3⟩, hV])
        rw [hV]
        clear h3 hV
        go_wp2_with fail
        refine (HMG.out _).mono ?_
        rintro x w6 ⟨rfl, hw⟩
        have hw := hw.symm
        subst hw
        by_cases hn : V < 0
        · have hna : (V.natAbs : Int) = -V := by omega
          rw [hna]
          clear hna hrg
          have HBX : Hid (Below w5.heap.size w5 ((w5.alloc (.cells #[.int .i64 1, .int .i64 0, .string ⟨#[]⟩, .int .i64 (-V), .slice none 0 0] TX (0, 0))).alloc (.cells #[.int .i64 1, .int .i64 0, .string ⟨#[]⟩, .int .i64 (-V), .slice none 0 0] TX (0, 0)))) := Lib.hid ((twoBlocks w5 _ _).2.2)
          have H27 := Lib.hid ((HBX.out.block _ (Array.getElem?_eq_some_iff.1 H25.out).1).trans H25.out)
          have HB7 := Lib.hid (HB5.out.trans (HBX.out.mono HB5.out.size))
          have HH4 := Lib.hid (setRow_heap ((w5.alloc (.cells #[.int .i64 1, .int .i64 0, .string ⟨#[]⟩, .int .i64 (-V), .slice none 0 0] TX (0, 0))).alloc (.cells #[.int .i64 1, .int .i64 0, .string ⟨#[]⟩, .int .i64 (-V), .slice none 0 0] TX (0, 0))) (w.heap.size + 1 + 1) _ #[.int .i64 3, .int .i64 1, .string ⟨#[]⟩, .int .i64 0, .slice (some ⟨w5.heap.size + 1, 0, none⟩) 1 1] _ _ H27.out)
          have HB9 : Hid (Below w.heap.size w (((w5.alloc (.cells #[.int .i64 1, .int .i64 0, .string ⟨#[]⟩, .int .i64 (-V), .slice none 0 0] TX (0, 0))).alloc (.cells #[.int .i64 1, .int .i64 0, .string ⟨#[]⟩, .int .i64 (-V), .slice none 0 0] TX (0, 0))).setRow (w.heap.size + 1 + 1) #[.int .i64 3, .int .i64 1, .string ⟨#[]⟩, .int .i64 0, .slice (some ⟨w5.heap.size + 1, 0, none⟩) 1 1])) := Lib.hid (below_setRow HB7.out (by omega) _)
          have HLT := Lib.hid (Array.getElem?_eq_some_iff.1 H25.out).1
          have HLX : Hid (litX V = .mk 3 1 .empty 0 [numX (-V)]) := Lib.hid (by unfold litX; rw [if_pos hn])
          have HKA : Hid (KA (fun b => w.heap.size ≤ b) (((w5.alloc (.cells #[.int .i64 1, .int .i64 0, .string ⟨#[]⟩, .int .i64 (-V), .slice none 0 0] TX (0, 0))).alloc (.cells #[.int .i64 1, .int .i64 0, .string ⟨#[]⟩, .int .i64 (-V), .slice none 0 0] TX (0, 0))).setRow (w.heap.size + 1 + 1) #[.int .i64 3, .int .i64 1, .string ⟨#[]⟩, .int .i64 0, .slice (some ⟨w5.heap.size + 1, 0, none⟩) 1 1]) [numX (-V)] (.slice (some ⟨w5.heap.size + 1, 0, none⟩) 1 1)) := Lib.hid (by
            have hb := (twoBlocks w5 (.cells #[.int .i64 1, .int .i64 0, .string ⟨#[]⟩, .int .i64 (-V), .slice none 0 0] TX (0, 0)) (.cells #[.int .i64 1, .int .i64 0, .string ⟨#[]⟩, .int .i64 (-V), .slice none 0 0] TX (0, 0))).2.1
            have hlt := HLT.out
            rw [← setRow_other _ (w.heap.size + 1 + 1) _ #[.int .i64 3, .int .i64 1, .string ⟨#[]⟩, .int .i64 0, .slice (some ⟨w5.heap.size + 1, 0, none⟩) 1 1] (by omega)] at hb
            exact one_known (numX (-V)) _ hb (KA.nil0 _ _) (by have := HB5.out.size; omega))
          go_wp2_with (refine wpList_store_row rfl TX (.tmp 4) (.tmp 40) rfl (w.heap.size + 1 + 1) #[.int .i64 3, .int .i64 1, .string ⟨#[]⟩, .int .i64 0, .slice (some ⟨w5.heap.size + 1, 0, none⟩) 1 1] rfl rfl _ _ H27.out (by kernel_rfl) rfl (by simp [Value.oneCell']) ?_)
          have hl := run_loadVar_row (P := Tryz.prog) (((w5.alloc (.cells #[.int .i64 1, .int .i64 0, .string ⟨#[]⟩, .int .i64 (-V), .slice none 0 0] TX (0, 0))).alloc (.cells #[.int .i64 1, .int .i64 0, .string ⟨#[]⟩, .int .i64 (-V), .slice none 0 0] TX (0, 0))).setRow (w.heap.size + 1 + 1) #[.int .i64 3, .int .i64 1, .string ⟨#[]⟩, .int .i64 0, .slice (some ⟨w5.heap.size + 1, 0, none⟩) 1 1]) (w.heap.size + 1 + 1) _ TX _ (0, 0) _ HH4.out Tryz.underlying24 rfl (by kernel_rfl)
          try simp only [Exit.inBlock, Exit.then]
          refine bodyPost_ret (v := .tuple #[exV (.mk 3 1 .empty 0 [numX (-V)]) (.slice (some ⟨w5.heap.size + 1, 0, none⟩) 1 1), .bool true]) ?_ rfl ⟨_, _, by rw [HC.out, HLX.out]; rfl, by rw [HC.out, HLX.out]; exact HKA.out, HB9.out⟩
          rw [results_cell_tmp Tryz.results53]
          simp [asAddr, hl, Result.andThen, exV, numX, Ex.k, Ex.o, Ex.s, Ex.v]
          rfl
        · have hna : (V.natAbs : Int) = V := by omega
          rw [hna]
          clear hna hrg
          have HBX : Hid (Below w5.heap.size w5 (w5.alloc (.cells #[.int .i64 1, .int .i64 0, .string ⟨#[]⟩, .int .i64 V, .slice none 0 0] TX (0, 0)))) := Lib.hid ((Below.refl _ w5).alloc (Nat.le_refl _) _)
          have H27 := Lib.hid ((HBX.out.block _ (Array.getElem?_eq_some_iff.1 H25.out).1).trans H25.out)
          have HB7 := Lib.hid (HB5.out.trans (HBX.out.mono HB5.out.size))
          have HH4 := Lib.hid (setRow_heap (w5.alloc (.cells #[.int .i64 1, .int .i64 0, .string ⟨#[]⟩, .int .i64 V, .slice none 0 0] TX (0, 0))) (w.heap.size + 1 + 1) _ #[.int .i64 1, .int .i64 0, .string ⟨#[]⟩, .int .i64 V, .slice none 0 0] _ _ H27.out)
          have HB9 : Hid (Below w.heap.size w ((w5.alloc (.cells #[.int .i64 1, .int .i64 0, .string ⟨#[]⟩, .int .i64 V, .slice none 0 0] TX (0, 0))).setRow (w.heap.size + 1 + 1) #[.int .i64 1, .int .i64 0, .string ⟨#[]⟩, .int .i64 V, .slice none 0 0])) := Lib.hid (below_setRow HB7.out (by omega) _)
          have HLT := Lib.hid (Array.getElem?_eq_some_iff.1 H25.out).1
          have HLX : Hid (litX V = numX V) := Lib.hid (by unfold litX; rw [if_neg hn])
          have HKA : Hid (KA (fun b => w.heap.size ≤ b) ((w5.alloc (.cells #[.int .i64 1, .int .i64 0, .string ⟨#[]⟩, .int .i64 V, .slice none 0 0] TX (0, 0))).setRow (w.heap.size + 1 + 1) #[.int .i64 1, .int .i64 0, .string ⟨#[]⟩, .int .i64 V, .slice none 0 0]) [] (.slice none 0 0)) := Lib.hid (KA.nil0 _ _)
          go_wp2_with (refine wpList_store_row rfl TX (.tmp 4) (.tmp 41) rfl (w.heap.size + 1 + 1) #[.int .i64 1, .int .i64 0, .string ⟨#[]⟩, .int .i64 V, .slice none 0 0] rfl rfl _ _ H27.out (by kernel_rfl) rfl (by simp [Value.oneCell']) ?_)
          have hl := run_loadVar_row (P := Tryz.prog) ((w5.alloc (.cells #[.int .i64 1, .int .i64 0, .string ⟨#[]⟩, .int .i64 V, .slice none 0 0] TX (0, 0))).setRow (w.heap.size + 1 + 1) #[.int .i64 1, .int .i64 0, .string ⟨#[]⟩, .int .i64 V, .slice none 0 0]) (w.heap.size + 1 + 1) _ TX _ (0, 0) _ HH4.out Tryz.underlying24 rfl (by kernel_rfl)
          try simp only [Exit.inBlock, Exit.then]
          refine bodyPost_ret (v := .tuple #[exV (numX V) (.slice none 0 0), .bool true]) ?_ rfl ⟨_, _, by rw [HC.out, HLX.out]; rfl, by rw [HC.out, HLX.out]; exact HKA.out, HB9.out⟩
          rw [results_cell_tmp Tryz.results53]
          simp [asAddr, hl, Result.andThen, exV, numX, Ex.k, Ex.o, Ex.s, Ex.v]
          rfl
      · obtain ⟨q1, q2⟩ := ine h3
        have HC : Hid (cnE e = none) := Lib.hid (by unfold cnE; rw [if_neg (fun h => h3 h.2)])
        clear h3
        have HH4 := Lib.hid (setRow_heap w5 (w.heap.size + 1 + 1) _ #[.int .i64 0, .int .i64 0, .string ⟨#[]⟩, .int .i64 0, .slice none 0 0] _ _ H25.out)
        have HB9 : Hid (Below w.heap.size w (w5.setRow (w.heap.size + 1 + 1) #[.int .i64 0, .int .i64 0, .string ⟨#[]⟩, .int .i64 0, .slice none 0 0])) := Lib.hid (below_setRow HB5.out (by omega) _)
        go_wp2_with (refine wpList_store_row rfl TX (.tmp 4) (.tmp 32) rfl (w.heap.size + 1 + 1) #[.int .i64 0, .int .i64 0, .string ⟨#[]⟩, .int .i64 0, .slice none 0 0] rfl rfl _ _ H25.out (by kernel_rfl) rfl (by simp [Value.oneCell']) ?_)
        have hl := run_loadVar_row (P := Tryz.prog) (w5.setRow (w.heap.size + 1 + 1) #[.int .i64 0, .int .i64 0, .string ⟨#[]⟩, .int .i64 0, .slice none 0 0]) (w.heap.size + 1 + 1) _ TX _ (0, 0) _ HH4.out Tryz.underlying24 rfl (by kernel_rfl)
        try simp only [Exit.inBlock, Exit.then]
        refine bodyPost_ret (v := .tuple #[exV zeroX (.slice none 0 0), .bool false]) ?_ rfl ⟨none, 0, by rw [HC.out]; rfl, by rw [HC.out]; exact KA.nil0 _ _, HB9.out⟩
        rw [results_cell_tmp Tryz.results53]
        simp [asAddr, hl, Result.andThen, exV, zeroX, Ex.k, Ex.o, Ex.s, Ex.v]
        rfl
    · obtain ⟨p1, p2⟩ := ine h1
      obtain ⟨q1, q2⟩ := ieq h2
      have HC : Hid (cnE e = none) := Lib.hid (by unfold cnE; rw [if_neg (fun h => h1 (by rw [h.1]))])
      clear h1
      have HH4 := Lib.hid (setRow_heap w4 (w.heap.size + 1 + 1) _ #[.int .i64 0, .int .i64 0, .string ⟨#[]⟩, .int .i64 0, .slice none 0 0] _ _ H24.out)
      have HB9 : Hid (Below w.heap.size w (w4.setRow (w.heap.size + 1 + 1) #[.int .i64 0, .int .i64 0, .string ⟨#[]⟩, .int .i64 0, .slice none 0 0])) := Lib.hid (below_setRow HB4.out (by omega) _)
      go_wp2_with (refine wpList_store_row rfl TX (.tmp 4) (.tmp 23) rfl (w.heap.size + 1 + 1) #[.int .i64 0, .int .i64 0, .string ⟨#[]⟩, .int .i64 0, .slice none 0 0] rfl rfl _ _ H24.out (by kernel_rfl) rfl (by simp [Value.oneCell']) ?_)
      have hl := run_loadVar_row (P := Tryz.prog) (w4.setRow (w.heap.size + 1 + 1) #[.int .i64 0, .int .i64 0, .string ⟨#[]⟩, .int .i64 0, .slice none 0 0]) (w.heap.size + 1 + 1) _ TX _ (0, 0) _ HH4.out Tryz.underlying24 rfl (by kernel_rfl)
      try simp only [Exit.inBlock, Exit.then]
      refine bodyPost_ret (v := .tuple #[exV zeroX (.slice none 0 0), .bool false]) ?_ rfl ⟨none, 0, by rw [HC.out]; rfl, by rw [HC.out]; exact KA.nil0 _ _, HB9.out⟩
      rw [results_cell_tmp Tryz.results53]
      simp [asAddr, hl, Result.andThen, exV, zeroX, Ex.k, Ex.o, Ex.s, Ex.v]
      rfl
  · obtain ⟨q1, q2⟩ := ine h2
    have HC : Hid (cnE e = none) := Lib.hid (by unfold cnE; rw [if_neg (fun h => h2 (by rw [h.1]))])
    clear h2
    have HH4 := Lib.hid (setRow_heap w4 (w.heap.size + 1 + 1) _ #[.int .i64 0, .int .i64 0, .string ⟨#[]⟩, .int .i64 0, .slice none 0 0] _ _ H24.out)
    have HB9 : Hid (Below w.heap.size w (w4.setRow (w.heap.size + 1 + 1) #[.int .i64 0, .int .i64 0, .string ⟨#[]⟩, .int .i64 0, .slice none 0 0])) := Lib.hid (below_setRow HB4.out (by omega) _)
    go_wp2_with (refine wpList_store_row rfl TX (.tmp 4) (.tmp 23) rfl (w.heap.size + 1 + 1) #[.int .i64 0, .int .i64 0, .string ⟨#[]⟩, .int .i64 0, .slice none 0 0] rfl rfl _ _ H24.out (by kernel_rfl) rfl (by simp [Value.oneCell']) ?_)
    have hl := run_loadVar_row (P := Tryz.prog) (w4.setRow (w.heap.size + 1 + 1) #[.int .i64 0, .int .i64 0, .string ⟨#[]⟩, .int .i64 0, .slice none 0 0]) (w.heap.size + 1 + 1) _ TX _ (0, 0) _ HH4.out Tryz.underlying24 rfl (by kernel_rfl)
    try simp only [Exit.inBlock, Exit.then]
    refine bodyPost_ret (v := .tuple #[exV zeroX (.slice none 0 0), .bool false]) ?_ rfl ⟨none, 0, by rw [HC.out]; rfl, by rw [HC.out]; exact KA.nil0 _ _, HB9.out⟩
    rw [results_cell_tmp Tryz.results53]
    simp [asAddr, hl, Result.andThen, exV, zeroX, Ex.k, Ex.o, Ex.s, Ex.v]
    rfl

end Go.Proofs.YtfgaihajopfmfaaGreatDoor

/-! ### HeldTail: A region that draws its order and ends with a forced tail (from operation t on) that may write what the region's loads have read. -/
namespace Go.Proofs.YtfgaihajopfmfaaGreatDoor
set_option linter.unusedSimpArgs false
set_option linter.unusedVariables false
open Go.RowKit

section
variable {P : Program} {ops : Array Oper} {Q : Exit → Act → World → Prop} {md : Region.Mode} {S : World → Prop} {t : Nat}

def wpAnyT (P : Program) (md : Region.Mode) (ops : Array Oper) (Q : Exit → Act → World → Prop) (S : World → Prop) (t : Nat) : Nat → Array Bool → Act → World → Prop
  | 0, listed, a, w => Region.ready md ops listed = [] ∧ Q .normal a w
  | fuel + 1, listed, a, w =>
    (Region.ready md ops listed = [] → Q .normal a w) ∧
    ∀ i ∈ Region.ready md ops listed, wpOp P ops Q i (fun a' w' => ((listed.setIfInBounds i true).getD t true = false → S w') ∧ wpAnyT P md ops Q S t fuel (listed.setIfInBounds i true) a' w') a w
theorem wpAny_of_T : ∀ (fuel : Nat) (listed : Array Bool) (a : Act) (w : World), wpAnyT P md ops Q S t fuel listed a w → wpAny P md ops Q fuel listed a w
  | 0, _, _, _, h => h
  | fuel + 1, _, _, _, h => ⟨h.1, fun i hi => wpOp_mono (fun a' w' h' => wpAny_of_T fuel _ a' w' h'.2) (h.2 i hi)⟩
theorem wpAnyT_first {i : Nat} {oi ot : Oper} {v : Value} (hi : ops[i]? = some oi) (hsel : ∀ (j : Nat) (o : Oper) cs b, ops[j]? = some o → o.op ≠ .select cs b)
    (hQ : ∀ c a w, Q (.panic c) (a.put oi.dst v) w → Q (.panic c) a w) (hti : t ≠ i) (hot : ops[t]? = some ot) (hwt : ∃ e ∈ ot.after, Region.binds md e = true ∧ e.on = i) :
    ∀ (fuel : Nat) (listed : Array Bool) (a : Act) (w : World), listed.getD t true = false →
      (∀ j oj, ops[j]? = some oj → j ≠ i → listed.getD j true = false → (∀ e ∈ oj.after, Region.binds md e = true → e.on ≠ i) → oi.apart ops oj = true) →
      i ∈ Region.ready md ops listed → YieldsIf P ops S oi v a → S w →
      wpAnyT P md ops Q S t fuel (listed.setIfInBounds i true) (a.put oi.dst v) w → wpAnyT P md ops Q S t (fuel + 1) listed a w := by
  intro fuel
  induction fuel with
  | zero =>
    intro listed a w _ _ hr hy hS H
    refine ⟨fun h => (by rw [h] at hr; cases hr), fun j hj => ?_⟩
    by_cases hji : j = i
    · subst hji; exact hy.wpOp hi hS ⟨fun _ => hS, H⟩
    · have := ready_mono hj hji
      rw [H.1] at this
      cases this
  | succ fuel ih =>
    intro listed a w ht hfree hr hy hS H
    refine ⟨fun h => (by rw [h] at hr; cases hr), fun j hj => ?_⟩
    by_cases hji : j = i
    · subst hji; exact hy.wpOp hi hS ⟨fun _ => hS, H⟩
    · have h1 := H.2 j (ready_mono hj hji)
      obtain ⟨hjun, oj, hoj, hall⟩ := mem_ready.1 hj
      have hnot : ∀ e ∈ oj.after, Region.binds md e = true → e.on ≠ i := fun e he hb heq => by
        have h1 := hall e he hb
        have h0 := (mem_ready.1 hr).1
        rw [heq] at h1
        rcases Nat.lt_or_ge i listed.size with h' | h'
        · simp [h'] at h0 h1; rw [h0] at h1; cases h1
        · simp [Array.getElem?_eq_none h'] at h1
      have hjt : j ≠ t := fun e => by
        subst e
        rw [hoj] at hot
        injection hot with hot
        subst hot
        obtain ⟨e, he, hb, heq⟩ := hwt
        exact hnot e he hb heq
      have ht2 : (listed.setIfInBounds j true).getD t true = false := by rw [getD_set_ne true hjt]; exact ht
      have ht3 : ((listed.setIfInBounds i true).setIfInBounds j true).getD t true = false := by rw [getD_set_ne true hjt, getD_set_ne true (Ne.symm hti)]; exact ht
      have h2 := wpOp_putIf hoj (hfree j oj hoj hji hjun hnot) (fun cs b => hsel i oi cs b hi) (fun cs b => hsel j oj cs b hoj) hQ hy h1
      have hfree' : ∀ k ok, ops[k]? = some ok → k ≠ i → (listed.setIfInBounds j true).getD k true = false →
          (∀ e ∈ ok.after, Region.binds md e = true → e.on ≠ i) → oi.apart ops ok = true := fun k ok hk hki hun hno => by
        refine hfree k ok hk hki ?_ hno
        by_cases hjk : j = k
        · subst hjk; exact hjun
        · rw [getD_set_ne true hjk] at hun; exact hun
      refine wpOp_mono (fun a' w' h3 => ⟨fun _ => h3.2.1 ht3, ih (listed.setIfInBounds j true) a' w' ht2 hfree' (ready_mono hr (Ne.symm hji)) h3.1 (h3.2.1 ht3) ?_⟩) h2
      rw [Array.setIfInBounds_comm _ _ hji]
      exact h3.2.2
def waitsB (md : Region.Mode) (ops : Array Oper) (t i : Nat) : Bool := match ops[t]? with
  | some o => o.after.any fun e => Region.binds md e && e.on == i
  | none => false
theorem waitsB_spec {md : Region.Mode} {ops : Array Oper} {t i : Nat} (h : waitsB md ops t i = true) : ∃ ot, ops[t]? = some ot ∧ ∃ e ∈ ot.after, Region.binds md e = true ∧ e.on = i := by
  unfold waitsB at h
  cases ho : ops[t]? with
  | none => rw [ho] at h; cases h
  | some o =>
    rw [ho] at h
    refine ⟨o, rfl, ?_⟩
    simp only at h
    rw [Array.any_eq_true'] at h
    obtain ⟨e, he, h2⟩ := h
    simp only [Bool.and_eq_true, beq_iff_eq] at h2
    exact ⟨e, he, h2.1, h2.2⟩
theorem wpAnyT_read {i : Nat} {oi : Oper} {v : Value} {fuel : Nat} {listed : Array Bool} {a : Act} {w : World} (hi : ops.toList[i]? = some oi)
    (hs : Region.noSelect ops = true) (hf : Region.free md ops listed i = true) (hr : (Region.ready md ops listed).contains i = true) (hl : listed.getD t true = false) (hti : (t == i) = false) (hwt : waitsB md ops t i = true)
    (hQ : ∀ c a w, Q (.panic c) (a.put oi.dst v) w → Q (.panic c) a w) (hw : Region.wanted oi (yielded ops a.tmps) = true) (hy : ∀ w, S w → (execOp a.eval oi).run P w = .ok (.value v) w) (hS : S w)
    (h : wpAnyT P md ops Q S t fuel (listed.setIfInBounds i true) (a.put oi.dst v) w) : wpAnyT P md ops Q S t (fuel + 1) listed a w := by
  obtain ⟨oq, h1, h2⟩ := waitsB_spec hwt
  exact wpAnyT_first (by rw [← hi]; exact Array.getElem?_toList.symm) (Region.noSelect_spec hs) hQ (by simpa using hti) h1 h2 fuel listed a w hl (Region.free_spec (by rw [← hi]; exact Array.getElem?_toList.symm) hf) (by simpa using hr) (Or.inl ⟨hw, hy⟩) hS h
theorem wpAnyT_next {i : Nat} {o : Oper} {fuel : Nat} {listed : Array Bool} {a : Act} {w : World} (hi : ops.toList[i]? = some o) (hr : Region.ready md ops listed = [i])
    (h : wpList P ops (nextQ Q fun a' w' => ((listed.setIfInBounds i true).getD t true = false → S w') ∧ wpAnyT P md ops Q S t fuel (listed.setIfInBounds i true) a' w') [o] a w) : wpAnyT P md ops Q S t (fuel + 1) listed a w :=
  ⟨fun h0 => (by rw [hr] at h0; cases h0), fun j hj => by
    rw [hr] at hj
    obtain rfl : j = i := by simpa using hj
    exact wpOp_of_list hi h⟩
theorem wpAnyT_done {listed : Array Bool} {a : Act} {w : World} (hr : Region.ready md ops listed = []) (h : Q .normal a w) :
    ∀ fuel, wpAnyT P md ops Q S t fuel listed a w
  | 0 => ⟨hr, h⟩
  | _ + 1 => ⟨fun _ => h, by rw [hr]; simp⟩
theorem wp_region_T {id : Nat} {a : Act} {w : World} (S : World → Prop) (t : Nat) (hm : P.follows .mixedOrders = true)
    (h : wpAnyT P .any ops Q S t ops.size (Array.replicate ops.size false) a { w with drawn := w.drawn + 1 }) : (Code.region id ops true).wp P Q a w :=
  wp_region_any hm (wpAny_of_T _ _ _ _ h)
end

end Go.Proofs.YtfgaihajopfmfaaGreatDoor

/-! ### ExRepK: The program's replace, by its function (K). -/
namespace Go.Proofs.YtfgaihajopfmfaaGreatDoor
set_option linter.unusedSimpArgs false
set_option linter.unusedVariables false
open Go.RowKit

/-- What a function that gives a tree gives: in blocks from n on. -/
def RetE (n : Nat) (r : Ex) (w : World) (x : Ending) (w' : World) : Prop := ∃ a c, x = .returned (exV r (.slice a r.es.length c)) ∧ KA (fun b => n ≤ b) w' r.es (.slice a r.es.length c) ∧ Below n w w'
theorem rpE_some {f : Ex → Option Ex} {k o : Int} {s : ByteArray} {v : Int} {es : List Ex} {b : Ex} (h : f (.mk k o s v es) = some b) : rpE f (.mk k o s v es) = b := by simp only [rpE, h]
theorem rpE_no {f : Ex → Option Ex} {k o : Int} {s : ByteArray} {v : Int} {es : List Ex} (h : f (.mk k o s v es) = none) : rpE f (.mk k o s v es) = .mk k o s v (rpL f es) := by simp only [rpE, h]
theorem take_mapX (f : Ex → Option Ex) (es : List Ex) (j : Nat) (h : j < es.length) : (es.take (j + 1)).map (rpE f) = (es.take j).map (rpE f) ++ [rpE f (ga es j)] := by
  rw [take_snocX es j h, List.map_append]
  rfl
/-- What is read in a round: the row, the argument. -/
def RpS (n bq : Nat) (yv : Value) (e : Ex) (sl : Value) (w : World) : Prop := w.cell? ⟨n, 4, none⟩ = some yv ∧ w.cell? ⟨bq, 0, none⟩ = some (.int .i64 e.k) ∧ w.cell? ⟨bq, 1, none⟩ = some (.int .i64 e.o) ∧ w.cell? ⟨bq, 2, none⟩ = some (.string e.s) ∧ w.cell? ⟨bq, 3, none⟩ = some (.int .i64 e.v) ∧ w.cell? ⟨bq, 4, none⟩ = some sl
theorem RpS.keepB {n bq : Nat} {yv sl : Value} {e : Ex} {w w' : World} (h : RpS n bq yv e sl w) (h1 : w'.heap[n]? = w.heap[n]?) (h2 : w'.heap[bq]? = w.heap[bq]?) : RpS n bq yv e sl w' := by
  obtain ⟨a0, a1, a2, a3, a4, a5⟩ := h
  exact ⟨(World.cell?_of_block h1).trans a0, (World.cell?_of_block h2).trans a1, (World.cell?_of_block h2).trans a2, (World.cell?_of_block h2).trans a3, (World.cell?_of_block h2).trans a4, (World.cell?_of_block h2).trans a5⟩
theorem RpS.lt {n bq : Nat} {yv sl : Value} {e : Ex} {w : World} (h : RpS n bq yv e sl w) : n < w.heap.size ∧ bq < w.heap.size := ⟨World.block_lt_of_cell? _ _ h.1, World.block_lt_of_cell? _ _ h.2.1⟩
theorem RpS.keep {n bq : Nat} {yv sl : Value} {e : Ex} {w w' : World} (h : RpS n bq yv e sl w) (hb : Below w.heap.size w w') : RpS n bq yv e sl w' := h.keepB (hb.block _ h.lt.1) (hb.block _ h.lt.2)
theorem KA.put {n g : Nat} {W : World} {es : List Ex} {v : Value} (h : KA (fun b => n ≤ b) W es v) (hg : g < n) (cs : Array Value) : KA (fun b => n ≤ b) (W.setRow g cs) es v :=
  h.keep (by simp) (fun b _ hb => ⟨hb, setRow_other W g b cs (by omega)⟩)
theorem setC_grown (W : World) (n i : Nat) (v : Value) : W.grownBy (W.setCell ⟨n, i, none⟩ v) (some n) := ⟨rfl, rfl, rfl, by simp [World.setCell], fun k _ hk => heap_setCell_other W ⟨n, i, none⟩ k _ (fun e => hk (by rw [e]))⟩
theorem OwnX.setC {φ : Nat → Prop} {B n i : Nat} {ps : List (Ex × Value)} {v u : Value} {W : World} (h : OwnX φ B ps v W) (hn : v.ownBlock ≠ some n) (hp : ¬ φ n) : OwnX φ B ps v (W.setCell ⟨n, i, none⟩ u) :=
  ⟨World.ownsRow.kept h.1 (setC_grown W n i u) (by first | exact hn | exact fun e => hn e.symm | (intro k e1 e2; exact hn (by rw [← e1, e2])) | simp_all), fun p hp' => (h.2 p hp').keep (setC_grown W n i u).size (fun b hb hq => ⟨hq, (setC_grown W n i u).block b hb (fun e => by injection e with e; exact hp (e ▸ hq.1))⟩)⟩
set_option maxRecDepth 100000 in
set_option maxHeartbeats 8000000 in
theorem repK_any (m : Nat) (e : Ex) : ∀ (sl : Value) (w : World), KX w e sl → TabO m w → prE e = 0 → szE e ≤ 100 →
    Calls Tryz.prog 51 #[exV e sl, .func (.func 53) #[.agg #[.map (some m), .slice none 0 0]] #[]] w (RetE w.heap.size (rpE cnE e) w) := by
  induction e using Ex.ind with
  | h k o s v es ih =>
  intro sl w hK hC hP hS
  obtain ⟨a, c, sf, rfl, h1, h2, hc⟩ := KA.inv hK
  have h1 : es.length ≤ c := h1
  have HIH := Lib.hid ih
  obtain ⟨w1, hw1⟩ : ∃ W, (w.alloc (.cells #[.int .i64 k, .int .i64 o, .string s, .int .i64 v, .slice a es.length c] TX (0, 0))).alloc (.cells #[.int .i64 0, .int .i64 0, .string ⟨#[]⟩, .int .i64 0, .slice none 0 0] TX (0, 0)) = W := ⟨_, rfl⟩
  obtain ⟨t0, t1, hb1⟩ := twoBlocks w (.cells #[.int .i64 k, .int .i64 o, .string s, .int .i64 v, .slice a es.length c] TX (0, 0)) (.cells #[.int .i64 0, .int .i64 0, .string ⟨#[]⟩, .int .i64 0, .slice none 0 0] TX (0, 0))
  rw [hw1] at t0 t1 hb1
  have HX1 : Hid (AtX w1 w.heap.size 0 (.mk k o s v es) (.slice a es.length c)) := Lib.hid (by
    refine ⟨?_, ?_, ?_, ?_, ?_⟩ <;> simp [World.cell?, t0, Ex.k, Ex.o, Ex.s, Ex.v])
  have HR1 := Lib.hid t1
  have HK1 : Hid (KX w1 (.mk k o s v es) (.slice a es.length c)) := Lib.hid (hK.carry hb1)
  have HC1 := Lib.hid (TabO.below hC hb1)
  have HB1 := Lib.hid hb1
  have HW := Lib.hid hw1
  have HP := Lib.hid (prE_arg hP)
  have HS : Hid (szL es ≤ 100) := Lib.hid (by simp only [szE] at hS; omega)
  have HLen : Hid (es.length ≤ 100) := Lib.hid (Nat.le_trans (szL_len es) HS.out)
  have HIN := Lib.hid (constant_any m (.mk k o s v es) (.slice a es.length c) w1 HK1.out HC1.out hP hS)
  simp only [exV, Ex.k, Ex.o, Ex.s, Ex.v, Ex.es] at *
  clear hc ih hK hC hP hS hb1 hw1 t0 t1
  go_enter Tryz.func51, Tryz.ntmps51
  go_wp2_with fail
  rw [HW.out]
  refine HIN.out.mono ?_
  rintro x w4 ⟨a4, c4, rfl, hk4, b4⟩
  have HB4 := Lib.hid (HB1.out.trans (b4.mono HB1.out.size))
  have HR4 := Lib.hid ((b4.block _ (Array.getElem?_eq_some_iff.1 HR1.out).1).trans HR1.out)
  have HX4 := Lib.hid (HX1.out.keep (b4.block _ HX1.out.lt))
  have HK4 := Lib.hid (HK1.out.carry b4)
  have HC4 := Lib.hid (TabO.below HC1.out b4)
  have HKR := Lib.hid hk4
  clear hk4 b4 HIN
  cases hf : cnE (.mk k o s v es) with
  | some r =>
    have HE : Hid (rpE cnE (.mk k o s v es) = r) := Lib.hid (rpE_some hf)
    rw [hf] at HKR
    simp only [Option.getD_some, Option.isSome_some, exV] at HKR ⊢
    have HSZ := Lib.hid (show w1.heap.size = w.heap.size + 2 by rw [← HW.out]; simp)
    obtain ⟨V, hV⟩ : ∃ V, w4.alloc (.cells #[.int .i64 r.k, .int .i64 r.o, .string r.s, .int .i64 r.v, .slice a4 r.es.length c4] TX (0, 0)) = V := ⟨_, rfl⟩
    have hbV : Below w4.heap.size w4 V := by rw [← hV]; exact below_allocW w4 _
    have H2 := Lib.hid ((hbV.block _ (Array.getElem?_eq_some_iff.1 HR4.out).1).trans HR4.out)
    have HB5 := Lib.hid (HB4.out.trans (hbV.mono HB4.out.size))
    have HKV := Lib.hid (KA.carry HKR.out hbV)
    have HV := Lib.hid hV
    have HH4 := Lib.hid (setRow_heap V (w.heap.size + 1) _ #[.int .i64 r.k, .int .i64 r.o, .string r.s, .int .i64 r.v, .slice a4 r.es.length c4] _ _ H2.out)
    have HB9 : Hid (Below w.heap.size w (V.setRow (w.heap.size + 1) #[.int .i64 r.k, .int .i64 r.o, .string r.s, .int .i64 r.v, .slice a4 r.es.length c4])) := Lib.hid (below_setRow HB5.out (by omega) _)
    have HK9 := Lib.hid ((KA.put HKV.out (g := w.heap.size + 1) (by have := HSZ.out; omega) #[.int .i64 r.k, .int .i64 r.o, .string r.s, .int .i64 r.v, .slice a4 r.es.length c4]).mono (ψ := fun b => w.heap.size ≤ b) (fun b _ h => by have := HSZ.out; omega))
    clear hf hbV hV
    go_wp2_with (rw [HV.out]; refine wpList_store_row rfl TX (.tmp 4) (.tmp 17) rfl (w.heap.size + 1) #[.int .i64 r.k, .int .i64 r.o, .string r.s, .int .i64 r.v, .slice a4 r.es.length c4] rfl rfl _ _ H2.out (by kernel_rfl) rfl (by simp [Value.oneCell']) ?_)
    try simp only [Exit.inBlock, Exit.then]
    exact bodyPost_ret (results_cell_row (P := Tryz.prog) Tryz.results51 _ _ (w.heap.size + 1) TX _ (0, 0) _ rfl HH4.out Tryz.underlying24 rfl (by kernel_rfl)) rfl ⟨a4, c4, by rw [HE.out]; rfl, by rw [HE.out]; exact HK9.out, HB9.out⟩
  | none =>
    have HE : Hid (rpE cnE (.mk k o s v es) = .mk k o s v (rpL cnE es)) := Lib.hid (rpE_no hf)
    simp only [Option.getD_none, Option.isSome_none, exV, zeroX, Ex.k, Ex.o, Ex.s, Ex.v, Ex.es, List.length_nil] at HKR ⊢
    obtain ⟨x0, x1, x2, x3, x4⟩ := HX4.out
    simp only [Ex.k, Ex.o, Ex.s, Ex.v, Ex.es, Nat.zero_add] at x0 x1 x2 x3 x4
    have HSZ := Lib.hid (show w1.heap.size = w.heap.size + 2 by rw [← HW.out]; simp)
    have hl4 : w.heap.size < w4.heap.size := HX4.out.lt
    obtain ⟨w6, hw6⟩ : ∃ X, (w4.alloc (.cells #[.int .i64 0, .int .i64 0, .string .empty, .int .i64 0, .slice a4 0 c4] TX (0, 0))).alloc (.cells #[.int .i64 k, .int .i64 o, .string s, .int .i64 v, .slice none 0 0] TX (0, 0)) = X := ⟨_, rfl⟩
    obtain ⟨_, t6, hb6⟩ := twoBlocks w4 (.cells #[.int .i64 0, .int .i64 0, .string .empty, .int .i64 0, .slice a4 0 c4] TX (0, 0)) (.cells #[.int .i64 k, .int .i64 o, .string s, .int .i64 v, .slice none 0 0] TX (0, 0))
    have hs6 : w6.heap.size = w4.heap.size + 2 := by rw [← hw6]; simp
    rw [hw6] at t6 hb6
    have HW6 := Lib.hid hw6
    have HS6 := Lib.hid hs6
    have HH6 := Lib.hid t6
    have HB6 := Lib.hid hb6
    clear hf hw6 hs6 t6 hb6 HKR
    go_wp2
    rw [HW6.out]
    go_loopw [30] (fun x wr => ∃ (j : Nat) (ps : List (Ex × Value)) (yv : Value), j ≤ es.length ∧ x = .int .i64 j ∧ Hid (wr.heap[w4.heap.size + 1]? = some (.cells #[.int .i64 k, .int .i64 o, .string s, .int .i64 v, yv] TX (0, 0))) ∧ Hid (OwnX (fun b => w4.heap.size + 1 < b) (w4.heap.size + 2) ps yv wr) ∧ Hid (ps.map (·.1) = (es.take j).map (rpE cnE)) ∧ Hid (Below (w4.heap.size + 1) w6 wr)) (fun x _ => es.length - (intOf x).toNat)
    case atStart => exact ⟨0, [], .slice none 0 0, Nat.zero_le _, rfl, HH6, Lib.hid (OwnX.nil _ _ _), Lib.hid rfl, Lib.hid (Below.refl _ w6)⟩
    case round =>
      obtain ⟨j, ps, yv, hj, rfl, HY, HO, HI, HB⟩ := hrel
      have HBw := Lib.hid (HB6.out.trans (HB.out.mono (Nat.le_succ _)))
      have HKr := Lib.hid (HK4.out.carry HBw.out)
      have HCr := Lib.hid (TabO.below HC4.out HBw.out)
      have HSr := Lib.hid (show w4.heap.size + 2 ≤ wr.heap.size by have := HB.out.size; have := HS6.out; omega)
      by_cases hlt : j < es.length
      · have k1 : (j : Int) < (es.length : Int) := by omega
        obtain ⟨sr, hcr⟩ := KA.at_ (show KA anyB wr es _ from HKr.out)
        obtain ⟨hKj, b, off, rfl, _, hbl, y0, y1, y2, y3, y4⟩ := hcr j hlt
        obtain ⟨a2, c2, _, hsr, _, _, _⟩ := KA.inv hKj
        obtain ⟨n2', hn2⟩ : ∃ n, (ga es j).es.length = n := ⟨_, rfl⟩
        rw [hn2] at hsr
        rw [hsr] at hKj y4
        obtain ⟨ya, yc, hyv, _, _⟩ := ownZ_slice HO.out.1
        obtain ⟨yn, hyn⟩ : ∃ n, ps.length = n := ⟨_, rfl⟩
        rw [hyn] at hyv
        subst hyv
        obtain ⟨wb, hwb⟩ : ∃ X, wr.alloc (.cells #[.int .i64 (ga es j).k, .int .i64 (ga es j).o, .string (ga es j).s, .int .i64 (ga es j).v, .slice a2 n2' c2] TX) = X := ⟨_, rfl⟩
        have hbb : Below wr.heap.size wr wb.drew := by rw [← hwb]; exact (below_allocW wr _).drew
        have hbx := World.alloc_heap_new wr (.cells #[.int .i64 (ga es j).k, .int .i64 (ga es j).o, .string (ga es j).s, .int .i64 (ga es j).v, .slice a2 n2' c2] TX)
        rw [hwb] at hbx
        have hyb := (hbb.block _ (Array.getElem?_eq_some_iff.1 HY.out).1).trans HY.out
        have HST : Hid (RpS (w4.heap.size + 1) wr.heap.size (.slice ya yn yc) (ga es j) (.slice a2 n2' c2) wb.drew) := Lib.hid (by
          have hbx : wb.drew.heap[wr.heap.size]? = _ := hbx
          refine ⟨?_, ?_, ?_, ?_, ?_, ?_⟩
          · simp [World.cell?, hyb]
          all_goals simp [World.cell?, hbx])
        have HBb := Lib.hid (HB.out.trans (hbb.mono (show w4.heap.size + 1 ≤ wr.heap.size by have := HSr.out; omega)))
        have HOb := Lib.hid (HO.out.below hbb)
        have HYb := Lib.hid hyb
        have HZb := Lib.hid (show wr.heap.size < wb.drew.heap.size from (Array.getElem?_eq_some_iff.1 hbx).1)
        have HIN := Lib.hid (HIH.out (ga es j) (ga_mem hlt) (.slice a2 n2' c2) wb.drew (KA.carry hKj hbb) (TabO.below HCr.out hbb) (HP.out _ (ga_mem hlt)) (Nat.le_trans (szE_arg (ga_mem hlt)) HS.out))
        have HTM := Lib.hid (take_mapX cnE es j hlt)
        have HPL : Hid (ps.length ≤ 100) := Lib.hid (by have := congrArg List.length HI.out; simp at this; have := HLen.out; omega)
        have HWB := Lib.hid hwb
        clear hKj hcr hsr hn2 hbb hwb hbx hyb hyn
        go_wp2_with fail
        rw [HWB.out]
        refine wp_region_T (RpS (w4.heap.size + 1) wr.heap.size (.slice ya yn yc) (ga es j) (.slice a2 n2' c2)) 7 (by kernel_rfl) ?_
        change wpAnyT _ _ _ _ _ _ _ _ _ wb.drew
        generalize wb.drew = W1 at HST HBb HOb HYb HZb HIN ⊢
        refine wpAnyT_read (i := 0) (v := .pointer (some ⟨w4.heap.size + 1, 4, none⟩)) rfl (by kernel_rfl) (by kernel_rfl) (by kernel_rfl) (by kernel_rfl) (by rfl) (by kernel_rfl) (fun _ _ _ h => h) (by rfl) (fun _ _ => by rfl) HST.out ?_
        simp only [Act.put, List.setIfInBounds_toArray, List.set_cons_zero, List.set_cons_succ]
        refine wpAnyT_read (i := 1) (v := .slice ya yn yc) rfl (by kernel_rfl) (by kernel_rfl) (by kernel_rfl) (by kernel_rfl) (by rfl) (by kernel_rfl) (fun _ _ _ h => h) (by rfl) (by rintro V ⟨h0, h1, h2, h3, h4, h5⟩; go_simp) HST.out ?_
        simp only [Act.put, List.setIfInBounds_toArray, List.set_cons_zero, List.set_cons_succ]
        refine wpAnyT_read (i := 2) (v := .agg #[.int .i64 (ga es j).k, .int .i64 (ga es j).o, .string (ga es j).s, .int .i64 (ga es j).v, .slice a2 n2' c2]) rfl (by kernel_rfl) (by kernel_rfl) (by kernel_rfl) (by kernel_rfl) (by rfl) (by kernel_rfl) (fun _ _ _ h => h) (by rfl) (by rintro V ⟨h0, h1, h2, h3, h4, h5⟩; go_simp) HST.out ?_
        simp only [Act.put, List.setIfInBounds_toArray, List.set_cons_zero, List.set_cons_succ]
        refine wpAnyT_read (i := 3) (v := .func (.func 53) #[.agg #[.map (some m), .slice none 0 0]] #[]) rfl (by kernel_rfl) (by kernel_rfl) (by kernel_rfl) (by kernel_rfl) (by rfl) (by kernel_rfl) (fun _ _ _ h => h) (by rfl) (fun _ _ => by rfl) HST.out ?_
        simp only [Act.put, List.setIfInBounds_toArray, List.set_cons_zero, List.set_cons_succ]
        refine wpAnyT_next (i := 4) rfl (by kernel_rfl) ?_
        go_wp2_with fail
        refine HIN.out.mono ?_
        rintro x w7 ⟨a7, c7, rfl, hk7, b7⟩
        obtain ⟨r, hr⟩ : ∃ r, rpE cnE (ga es j) = r := ⟨_, rfl⟩
        rw [hr] at hk7 HTM ⊢
        have HST7 := Lib.hid (HST.out.keep b7)
        have HB7 := Lib.hid (HBb.out.trans (b7.mono (show w4.heap.size + 1 ≤ W1.heap.size by have := HSr.out; have := HZb.out; omega)))
        have HO7 := Lib.hid (HOb.out.below b7)
        have HY7 := Lib.hid ((b7.block _ (Array.getElem?_eq_some_iff.1 HYb.out).1).trans HYb.out)
        have HZ7 := Lib.hid (Nat.lt_of_lt_of_le HZb.out b7.size)
        have HOL := Lib.hid HOb.out.lt
        have HK7 := Lib.hid hk7
        have HS7 := Lib.hid b7.size
        simp only [exV]
        clear hk7 b7 hr HIN
        go_wp2_with fail
        refine ⟨fun _ => HST7.out, ?_⟩
        refine wpAnyT_next (i := 5) rfl (by kernel_rfl) ?_
        go_wp2_with fail
        obtain ⟨w8, hw8⟩ : ∃ X, w7.alloc (.cells #[.int .i64 r.k, .int .i64 r.o, .string r.s, .int .i64 r.v, .slice a7 r.es.length c7] TX) = X := ⟨_, rfl⟩
        have hb8 : Below w7.heap.size w7 w8 := by rw [← hw8]; exact below_allocW w7 _
        have h8y := World.alloc_heap_new w7 (.cells #[.int .i64 r.k, .int .i64 r.o, .string r.s, .int .i64 r.v, .slice a7 r.es.length c7] TX)
        rw [hw8] at h8y
        have HO8 := Lib.hid (HO7.out.below hb8)
        have HK8 := Lib.hid (KA.carry HK7.out hb8)
        have HST8 := Lib.hid (HST7.out.keep hb8)
        have HY8 := Lib.hid ((hb8.block _ (Array.getElem?_eq_some_iff.1 HY7.out).1).trans HY7.out)
        have HB8 := Lib.hid (HB7.out.trans (hb8.mono (show w4.heap.size + 1 ≤ w7.heap.size by have := HSr.out; have := HZ7.out; omega)))
        have HZ8 := Lib.hid (Nat.lt_of_lt_of_le HZ7.out hb8.size)
        obtain ⟨v', w9, hr9, ho9, hb9, hs9, hkeep9⟩ := appX w8 (w4.heap.size + 2) (.slice ya yn yc) ps r (.slice a7 r.es.length c7) w7.heap.size HO8.out (HK8.out.mono (fun b _ h => ⟨by have := HS7.out; have := HSr.out; have := HZb.out; omega, fun e => by have := (HOL.out b e).2; omega⟩)) h8y rfl (by have := HPL.out; omega) (by have := HSr.out; have := HZ8.out; omega)
        have HOL8 := Lib.hid HO8.out.lt
        have HST9 : Hid (RpS (w4.heap.size + 1) wr.heap.size (.slice ya yn yc) (ga es j) (.slice a2 n2' c2) w9) := Lib.hid (HST8.out.keepB (hkeep9 _ HST8.out.lt.1 (fun e => by have := (HO.out.lt _ e).1; omega)) (hkeep9 _ HST8.out.lt.2 (fun e => by have := (HO.out.lt _ e).2; omega)))
        have HY9 := Lib.hid ((hkeep9 _ HST8.out.lt.1 (fun e => by have := (HO.out.lt _ e).1; omega)).trans HY8.out)
        have HB9 := Lib.hid (HB8.out.trans (hb9.mono (Nat.le_succ _)))
        have HO9 := Lib.hid ho9
        obtain ⟨za, zc, hzv, _, _⟩ := ownZ_slice ho9.1
        obtain ⟨zn, hzn⟩ : ∃ n, (ps ++ [(r, Value.slice a7 r.es.length c7)]).length = n := ⟨_, rfl⟩
        rw [hzn] at hzv
        subst hzv
        rw [hw8]
        refine ⟨fun _ => HST8.out, ?_⟩
        clear ho9 hb9 hkeep9 h8y hb8 hzn
        refine wpAnyT_next (i := 6) rfl (by kernel_rfl) ?_
        go_wp2_with (at_builtin; refine append_by_run _ rfl _ _ 22 rfl _ _ rfl rfl _ _ hr9 ?_)
        refine And.intro (by first | exact HST9.out | exact fun _ => HST9.out) ?_
        clear hr9
        refine wpAnyT_next (i := 7) rfl (by kernel_rfl) ?_
        go_wp2_with fail
        refine And.intro (by first | trivial | exact fun h => (by simp at h) | exact fun h => (by cases h)) ?_
        have c4' := HST9.out.1
        have hfz := Lib.frozen_of_heap HY9.out
        refine wpAnyT_next (i := 8) rfl (by kernel_rfl) ?_
        go_wp2_with fail
        have HY10 : Hid ((w9.setCell ⟨w4.heap.size + 1, 4, none⟩ (.slice za zn zc)).heap[w4.heap.size + 1]? = some (.cells #[.int .i64 k, .int .i64 o, .string s, .int .i64 v, .slice za zn zc] TX (0, 0))) := Lib.hid (by
          have := heap_setCell_same w9 (w4.heap.size + 1) 4 _ TX (.slice za zn zc) HY9.out
          simpa using this)
        have HO10 := Lib.hid (HO9.out.setC (n := w4.heap.size + 1) (i := 4) (u := .slice za zn zc) (fun e => by have := (HO9.out.lt _ e).1; omega) (by omega))
        have HB10 : Hid (Below (w4.heap.size + 1) w6 (w9.setCell ⟨w4.heap.size + 1, 4, none⟩ (.slice za zn zc))) := Lib.hid (HB9.out.trans ((Below.refl _ w9).grown (setC_grown w9 _ _ _) (Nat.le_of_lt HST9.out.lt.1) (fun k e => by injection e with e; omega)))
        have HI10 : Hid ((ps ++ [(r, Value.slice a7 r.es.length c7)]).map (·.1) = (es.take (j + 1)).map (rpE cnE)) := Lib.hid (by rw [HTM.out, List.map_append, HI.out]; rfl)
        refine And.intro (by first | trivial | exact fun h => (by simp at h) | exact fun h => (by cases h)) ?_
        refine wpAnyT_done (by kernel_rfl) ?_ _
        clear c4' hfz
        go_wp2
        go_roundw
        case rel => exact ⟨j + 1, _, _, by omega, by go_num, HY10, HO10, HI10, HB10⟩
        case measure => simp [intOf]; omega
      · have k1 : ¬ (j : Int) < (es.length : Int) := by omega
        have hje : j = es.length := by omega
        obtain ⟨ya, yc, hyv, _, _⟩ := ownZ_slice HO.out.1
        have hpl : ps.length = es.length := by have := congrArg List.length HI.out; simpa [hje] using this
        rw [hpl] at hyv
        subst hyv
        have HE2 : Hid (rpE cnE (.mk k o s v es) = .mk k o s v (ps.map (·.1))) := Lib.hid (by rw [HE.out, rpL_map, HI.out, hje, List.take_length])
        have HEL : Hid ((ps.map (·.1)).length = es.length) := Lib.hid (by rw [List.length_map, hpl])
        have H2 : Hid (wr.heap[w.heap.size + 1]? = some (.cells #[.int .i64 0, .int .i64 0, .string ⟨#[]⟩, .int .i64 0, .slice none 0 0] TX (0, 0))) := Lib.hid ((HBw.out.block _ (Array.getElem?_eq_some_iff.1 HR4.out).1).trans HR4.out)
        have HB5 := Lib.hid (HB4.out.trans (HBw.out.mono HB4.out.size))
        have hne : w.heap.size + 1 < w4.heap.size := (Array.getElem?_eq_some_iff.1 HR4.out).1
        have HKV := Lib.hid (HO.out.known.mono (ψ := fun b => w.heap.size + 2 ≤ b) (fun b _ h => by rcases h with h | h <;> omega))
        have z0 : wr.cell? ⟨w4.heap.size + 1, 0, none⟩ = some (.int .i64 k) := by simp [World.cell?, HY.out]
        have z1 : wr.cell? ⟨w4.heap.size + 1, 1, none⟩ = some (.int .i64 o) := by simp [World.cell?, HY.out]
        have z2 : wr.cell? ⟨w4.heap.size + 1, 2, none⟩ = some (.string s) := by simp [World.cell?, HY.out]
        have z3 : wr.cell? ⟨w4.heap.size + 1, 3, none⟩ = some (.int .i64 v) := by simp [World.cell?, HY.out]
        have z4 : wr.cell? ⟨w4.heap.size + 1, 4, none⟩ = some (.slice ya es.length yc) := by simp [World.cell?, HY.out]
        have HH4 := Lib.hid (setRow_heap wr (w.heap.size + 1) _ #[.int .i64 k, .int .i64 o, .string s, .int .i64 v, .slice ya es.length yc] _ _ H2.out)
        have HB9 : Hid (Below w.heap.size w (wr.setRow (w.heap.size + 1) #[.int .i64 k, .int .i64 o, .string s, .int .i64 v, .slice ya es.length yc])) := Lib.hid (below_setRow HB5.out (by omega) _)
        have HK9 := Lib.hid ((KA.put HKV.out (g := w.heap.size + 1) (by omega) #[.int .i64 k, .int .i64 o, .string s, .int .i64 v, .slice ya es.length yc]).mono (ψ := fun b => w.heap.size ≤ b) (fun b _ h => by omega))
        clear hje hpl hne
        go_wp2_with (refine wpList_store_row rfl TX (.tmp 4) (.tmp 43) rfl (w.heap.size + 1) #[.int .i64 k, .int .i64 o, .string s, .int .i64 v, .slice ya es.length yc] rfl rfl _ _ H2.out (by kernel_rfl) rfl (by simp [Value.oneCell']) ?_)
        try simp only [Exit.inBlock, Exit.then]
        exact bodyPost_ret (results_cell_row (P := Tryz.prog) Tryz.results51 _ _ (w.heap.size + 1) TX _ (0, 0) _ rfl HH4.out Tryz.underlying24 rfl (by kernel_rfl)) rfl ⟨ya, yc, by rw [HE2.out]; simp only [exV, Ex.k, Ex.o, Ex.s, Ex.v, Ex.es, HEL.out], by rw [HE2.out]; simp only [Ex.es, HEL.out]; exact HK9.out, HB9.out⟩

end Go.Proofs.YtfgaihajopfmfaaGreatDoor

/-! ### ExFold: What the program's Fold returns. -/
namespace Go.Proofs.YtfgaihajopfmfaaGreatDoor
set_option linter.unusedSimpArgs false
set_option linter.unusedVariables false
open Go.RowKit

def RetX2 (n : Nat) (r : Ex) (q : Int) (w : World) (x : Ending) (w' : World) : Prop := ∃ a c, x = .returned (.tuple #[exV r (.slice a r.es.length c), .int .i64 q]) ∧ KA (fun b => n ≤ b) w' r.es (.slice a r.es.length c) ∧ Below n w w'
def fldF (e : Ex) : Ex := if ckE e = 0 then fldE e else zeroX
set_option maxRecDepth 100000 in
set_option maxHeartbeats 4000000 in
theorem Fold_any (e : Ex) (sl : Value) (w : World) (hK : KX w e sl) (hf : fitE e) : Calls Tryz.prog 20 #[exV e sl] w (RetX2 w.heap.size (fldF e) (ckE e) w) := by
  obtain ⟨sa, sc, sf, rfl, s1, s2, sx⟩ := KA.inv hK
  obtain ⟨W, hW⟩ : ∃ W, (w.alloc (.cells #[.int .i64 e.k, .int .i64 e.o, .string e.s, .int .i64 e.v, .slice sa e.es.length sc] TX (0, 0))).alloc (.cells #[.int .i64 0, .int .i64 0, .string ⟨#[]⟩, .int .i64 0, .slice none 0 0] TX (0, 0)) = W := ⟨_, rfl⟩
  obtain ⟨t0, t1, hb⟩ := twoBlocks w (.cells #[.int .i64 e.k, .int .i64 e.o, .string e.s, .int .i64 e.v, .slice sa e.es.length sc] TX (0, 0)) (.cells #[.int .i64 0, .int .i64 0, .string ⟨#[]⟩, .int .i64 0, .slice none 0 0] TX (0, 0))
  have hsW : W.heap.size = w.heap.size + 2 := by rw [← hW]; simp
  rw [hW] at t0 t1 hb
  have HX : Hid (AtX W w.heap.size 0 e (.slice sa e.es.length sc)) := Lib.hid (by
    refine ⟨?_, ?_, ?_, ?_, ?_⟩ <;> simp [World.cell?, t0])
  have H1 := Lib.hid t1
  have HB := Lib.hid hb
  have HSZ := Lib.hid hsW
  have HIN := Lib.hid (check_any e _ W (hK.carry hb) hf)
  have HK := Lib.hid (hK.carry hb)
  have HW := Lib.hid hW
  simp only [exV] at HIN ⊢
  clear hK hf t0 t1 hb hW sx hsW
  go_enter Tryz.func20, Tryz.ntmps20
  go_wp2_with fail
  rw [HW.out]
  refine HIN.out.mono ?_
  rintro x w4 ⟨rfl, b4⟩
  have HB4 := Lib.hid (HB.out.trans (b4.mono HB.out.size))
  have H14 := Lib.hid ((b4.block _ (Array.getElem?_eq_some_iff.1 H1.out).1).trans H1.out)
  have HX4 := Lib.hid (HX.out.keep (b4.block _ HX.out.lt))
  have HK4 := Lib.hid (HK.out.carry b4)
  have HS4 := Lib.hid (show w.heap.size + 2 ≤ w4.heap.size by have := b4.size; have := HSZ.out; omega)
  clear b4 HIN
  by_cases h : ckE e = 0
  · obtain ⟨q1, q2⟩ := ieq h
    have HE : Hid (fldF e = fldE e) := Lib.hid (by unfold fldF; rw [if_pos h])
    have HC := Lib.hid (ckE_ok.1 h)
    have HQ := Lib.hid h
    rw [h] at q1 q2 ⊢
    have hS : Hid (RpS w.heap.size w.heap.size (.slice sa e.es.length sc) e (.slice sa e.es.length sc) w4.drew) := Lib.hid (by
      obtain ⟨x0, x1, x2, x3, x4⟩ := HX4.out
      simp only [Nat.zero_add] at x1 x2 x3 x4
      exact ⟨x4, x0, x1, x2, x3, x4⟩)
    have hbd : Below w4.heap.size w4 w4.drew := (Below.refl _ w4).drew
    have HKd := Lib.hid (HK4.out.carry hbd)
    have HBd := Lib.hid (HB4.out.trans (hbd.mono HB4.out.size))
    have H1d := Lib.hid ((hbd.block _ (Array.getElem?_eq_some_iff.1 H14.out).1).trans H14.out)
    have HSd : Hid (w.heap.size + 2 ≤ w4.drew.heap.size) := HS4
    clear h q1 q2 hbd
    go_wp2_with fail
    refine wp_region_T (RpS w.heap.size w.heap.size (.slice sa e.es.length sc) e (.slice sa e.es.length sc)) 4 (by kernel_rfl) ?_
    change wpAnyT _ _ _ _ _ _ _ _ _ w4.drew
    generalize w4.drew = W1 at hS HKd HBd H1d HSd ⊢
    have HEV := Lib.hid (evF_any [] (.slice none 0 0) W1 (KB.nil W1 none 0 (by decide)))
    refine wpAnyT_read (i := 0) (v := .agg #[.int .i64 e.k, .int .i64 e.o, .string e.s, .int .i64 e.v, .slice sa e.es.length sc]) rfl (by kernel_rfl) (by kernel_rfl) (by kernel_rfl) (by kernel_rfl) (by rfl) (by kernel_rfl) (fun _ _ _ h => h) (by rfl) (by rintro V ⟨h0, h1, h2, h3, h4, h5⟩; go_simp) hS.out ?_
    simp only [Act.put, List.setIfInBounds_toArray, List.set_cons_zero, List.set_cons_succ]
    refine wpAnyT_next (i := 1) rfl (by kernel_rfl) ?_
    go_wp2_with fail
    refine HEV.out.mono ?_
    rintro x w5 ⟨m, rfl, ht5, b5⟩
    have hS5 := Lib.hid (hS.out.keep b5)
    have HB5 := Lib.hid (HBd.out.trans (b5.mono HBd.out.size))
    have H15 := Lib.hid ((b5.block _ (Array.getElem?_eq_some_iff.1 H1d.out).1).trans H1d.out)
    have HRP := Lib.hid (repK_any m e _ w5 (HKd.out.carry b5) ht5 HC.out.2.2 HC.out.1)
    have HS5 := Lib.hid (Nat.le_trans HSd.out b5.size)
    simp only [exV] at HRP
    clear ht5 b5
    go_wp2_with fail
    refine And.intro (by first | exact hS5.out | exact fun _ => hS5.out) ?_
    refine wpAnyT_next (i := 2) rfl (by kernel_rfl) ?_
    go_wp2_with fail
    refine And.intro (by first | exact hS5.out | exact fun _ => hS5.out) ?_
    refine wpAnyT_next (i := 3) rfl (by kernel_rfl) ?_
    go_wp2_with fail
    refine HRP.out.mono ?_
    rintro x w6 ⟨a6, c6, rfl, hk6, b6⟩
    have hS6 := Lib.hid (hS5.out.keep b6)
    have HB6 := Lib.hid (HB5.out.trans (b6.mono HB5.out.size))
    have H16 := Lib.hid ((b6.block _ (Array.getElem?_eq_some_iff.1 H15.out).1).trans H15.out)
    have HK6 := Lib.hid (hk6.mono (ψ := fun b => w.heap.size + 2 ≤ b) (fun b _ h => Nat.le_trans HS5.out h))
    obtain ⟨r, hr⟩ : ∃ r, rpE cnE e = r := ⟨_, rfl⟩
    have HF : Hid (fldE e = r) := Lib.hid hr
    rw [hr] at HK6 ⊢
    have HH4 := Lib.hid (setRow_heap w6 (w.heap.size + 1) _ #[.int .i64 r.k, .int .i64 r.o, .string r.s, .int .i64 r.v, .slice a6 r.es.length c6] _ _ H16.out)
    have HB9 : Hid (Below w.heap.size w (w6.setRow (w.heap.size + 1) #[.int .i64 r.k, .int .i64 r.o, .string r.s, .int .i64 r.v, .slice a6 r.es.length c6])) := Lib.hid (below_setRow HB6.out (by omega) _)
    have HK9 := Lib.hid ((KA.put HK6.out (g := w.heap.size + 1) (by omega) #[.int .i64 r.k, .int .i64 r.o, .string r.s, .int .i64 r.v, .slice a6 r.es.length c6]).mono (ψ := fun b => w.heap.size ≤ b) (fun b _ h => by omega))
    simp only [exV]
    clear hk6 b6 hr
    go_wp2_with fail
    refine And.intro (by first | exact hS6.out | exact fun _ => hS6.out) ?_
    refine wpAnyT_next (i := 4) rfl (by kernel_rfl) ?_
    go_wp2_with (refine wpList_store_row rfl TX (.tmp 2) (.tmp 14) rfl (w.heap.size + 1) #[.int .i64 r.k, .int .i64 r.o, .string r.s, .int .i64 r.v, .slice a6 r.es.length c6] rfl rfl _ _ H16.out (by kernel_rfl) rfl (by simp [Value.oneCell']) ?_)
    first
      | refine wpAnyT_next (i := 5) rfl (by kernel_rfl) ?_
      | (refine And.intro (fun h => by simp at h) ?_
         refine wpAnyT_next (i := 5) rfl (by kernel_rfl) ?_)
    go_wp2_with fail
    first
      | refine wpAnyT_done (by kernel_rfl) ?_ _
      | (refine And.intro (fun h => by simp at h) ?_
         refine wpAnyT_done (by kernel_rfl) ?_ _)
    have hl := run_loadVar_row (P := Tryz.prog) (w6.setRow (w.heap.size + 1) #[.int .i64 r.k, .int .i64 r.o, .string r.s, .int .i64 r.v, .slice a6 r.es.length c6]) (w.heap.size + 1) _ TX _ (0, 0) _ HH4.out Tryz.underlying24 rfl (by kernel_rfl)
    go_wp2
    refine bodyPost_ret (v := .tuple #[exV r (.slice a6 r.es.length c6), .int .i64 0]) ?_ rfl ⟨a6, c6, by rw [HE.out, HF.out, HQ.out], by rw [HE.out, HF.out]; exact HK9.out, HB9.out⟩
    rw [results_cell_tmp Tryz.results20]
    simp [asAddr, hl, Result.andThen, exV]
  · obtain ⟨q1, q2⟩ := ine h
    have HE : Hid (fldF e = zeroX) := Lib.hid (by unfold fldF; rw [if_neg h])
    clear h
    have HH4 := Lib.hid (setRow_heap w4 (w.heap.size + 1) _ #[.int .i64 0, .int .i64 0, .string ⟨#[]⟩, .int .i64 0, .slice none 0 0] _ _ H14.out)
    have HB9 : Hid (Below w.heap.size w (w4.setRow (w.heap.size + 1) #[.int .i64 0, .int .i64 0, .string ⟨#[]⟩, .int .i64 0, .slice none 0 0])) := Lib.hid (below_setRow HB4.out (by omega) _)
    go_wp2_with (refine wpList_store_row rfl TX (.tmp 2) (.tmp 9) rfl (w.heap.size + 1) #[.int .i64 0, .int .i64 0, .string ⟨#[]⟩, .int .i64 0, .slice none 0 0] rfl rfl _ _ H14.out (by kernel_rfl) rfl (by simp [Value.oneCell']) ?_)
    have hl := run_loadVar_row (P := Tryz.prog) (w4.setRow (w.heap.size + 1) #[.int .i64 0, .int .i64 0, .string ⟨#[]⟩, .int .i64 0, .slice none 0 0]) (w.heap.size + 1) _ TX _ (0, 0) _ HH4.out Tryz.underlying24 rfl (by kernel_rfl)
    try simp only [Exit.inBlock, Exit.then]
    refine bodyPost_ret (v := .tuple #[exV zeroX (.slice none 0 0), .int .i64 (ckE e)]) ?_ rfl ⟨none, 0, by rw [HE.out]; rfl, by rw [HE.out]; exact KA.nil0 _ _, HB9.out⟩
    rw [results_cell_tmp Tryz.results20]
    simp [asAddr, hl, Result.andThen, exV, zeroX, Ex.k, Ex.o, Ex.s, Ex.v]
    rfl

end Go.Proofs.YtfgaihajopfmfaaGreatDoor
