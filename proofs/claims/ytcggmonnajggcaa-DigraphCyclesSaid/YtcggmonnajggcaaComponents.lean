/-
  What the reference's Components of digraph returns.
-/
import Derived.Test.YtcggmonnajggcaaRefOrder
import Derived.Test.YtcggmonnajggcaaCompPlain
namespace Go.Proofs.Ytcggmonnajggcaa
open Go.RowKit

abbrev TL : TypeId := 28
theorem infoL : (Try.prog.info? TL).map (fun i => (i.zero, i.size, i.bytes)) = some (some (.slice none 0 0), 1, 24) := by kernel_rfl

theorem below_grown {W W' : World} (h : Below W.heap.size W W') : W.grownBy W' none := ⟨h.os, h.tape, h.output, h.size, fun k hk _ => h.block k hk⟩
/-- The block in which an owned row lies is a row of its element type. -/
theorem own_type {B n g cap : Nat} {T : TypeId} {xs : List Value} {w : World} (h : w.ownsRow B T 1 (.slice (some ⟨g, 0, none⟩) n cap) n xs) : ∃ c, w.heap[g]? = some (.cells c T (0, 0)) := by
  rcases h.2 with ⟨e, _⟩ | ⟨g', cap', cur, e, _, hg, _⟩
  · cases e
  · cases e
    exact ⟨_, hg⟩

theorem one_slice (a : Option Addr) (n c : Nat) : ∀ u ∈ [Value.slice a n c], u.oneCell' = true := by
  intro u hu
  simp at hu
  subst hu
  rfl

/-- A slice of slices that the call itself made: it holds the lists ll; all its blocks are below U. -/
def RowLs (B U : Nat) (ll : List (List Nat)) (v : Value) (w : World) : Prop :=
  ∃ g cap vs, v = .slice (some ⟨g, 0, none⟩) ll.length cap ∧ g < U ∧ w.ownsRow B TL 1 (.slice (some ⟨g, 0, none⟩) ll.length cap) ll.length vs ∧ vs.length = ll.length ∧
    ∀ (i : Nat) (x : Value) (l : List Nat), vs[i]? = some x → ll[i]? = some l → ∃ g' cap', x = .slice (some ⟨g', 0, none⟩) l.length cap' ∧ g' < U ∧ w.ownsRow B TI 1 (.slice (some ⟨g', 0, none⟩) l.length cap') l.length (natV l)
theorem RowLs.mono {B U V : Nat} {ll : List (List Nat)} {v : Value} {w : World} (h : RowLs B U ll v w) (hUV : U ≤ V) : RowLs B V ll v w := by
  obtain ⟨g, cap, vs, e, hg, ho, hl, hi⟩ := h
  refine ⟨g, cap, vs, e, by omega, ho, hl, fun i x l hx hll => ?_⟩
  obtain ⟨g', cap', e', hg', ho'⟩ := hi i x l hx hll
  exact ⟨g', cap', e', by omega, ho'⟩
/-- What writes above U, or into a row of another type, keeps it. -/
theorem RowLs.kept {B U : Nat} {ll : List (List Nat)} {v : Value} {w w' : World} {row : Option Nat} (h : RowLs B U ll v w) (hg : w.grownBy w' row)
    (hr : ∀ r, row = some r → U ≤ r ∨ ∃ c, w.heap[r]? = some (.cells c TBool (0, 0))) : RowLs B U ll v w' := by
  have key : ∀ (g n cap : Nat) (T : TypeId) (xs : List Value), T ≠ TBool → g < U → w.ownsRow B T 1 (.slice (some ⟨g, 0, none⟩) n cap) n xs → w'.ownsRow B T 1 (.slice (some ⟨g, 0, none⟩) n cap) n xs := by
    intro g n cap T xs hT hgU ho
    refine ho.kept hg (.inr ?_)
    intro e
    simp [Value.ownBlock] at e
    rcases hr g e.symm with h1 | ⟨c, h1⟩
    · omega
    · obtain ⟨c', h2⟩ := own_type ho
      rw [h1] at h2
      injection h2 with h2
      injection h2 with _ h2 _
      exact hT h2.symm
  obtain ⟨g, cap, vs, e, hgU, ho, hl, hi⟩ := h
  refine ⟨g, cap, vs, e, hgU, key _ _ _ _ _ (by decide) hgU ho, hl, fun i x l hx hll => ?_⟩
  obtain ⟨g', cap', e', hg', ho'⟩ := hi i x l hx hll
  exact ⟨g', cap', e', hg', key _ _ _ _ _ (by decide) hg' ho'⟩
theorem RowLs.empty (w : World) (B : Nat) (hB : B ≤ w.heap.size) : RowLs B (w.heap.size + 1) [] (.slice (some ⟨w.heap.size, 0, none⟩) 0 0) (w.alloc (.cells #[] TL)) :=
  ⟨_, _, [], rfl, by omega, ownsRow_new w B hB TL #[] 0 rfl (by decide), rfl, fun i x l hx => by simp at hx⟩
/-- One list more. -/
theorem RowLs.append {B U : Nat} {ll : List (List Nat)} {l : List Nat} {g cap g2 cap2 gc capc : Nat} {vs : List Value} {w w2 : World} {z : Value}
    (hg : g < U) (ho : w.ownsRow B TL 1 (.slice (some ⟨g, 0, none⟩) ll.length cap) ll.length vs) (hl : vs.length = ll.length)
    (hi : ∀ (i : Nat) (x : Value) (l : List Nat), vs[i]? = some x → ll[i]? = some l → ∃ g' cap', x = .slice (some ⟨g', 0, none⟩) l.length cap' ∧ g' < U ∧ w.ownsRow B TI 1 (.slice (some ⟨g', 0, none⟩) l.length cap') l.length (natV l))
    (hc : w.ownsRow B TI 1 (.slice (some ⟨gc, 0, none⟩) l.length capc) l.length (natV l)) (hcU : gc < U)
    (hgrow : (w.alloc (.cells #[z] TL)).grownBy w2 (some g)) (ho2 : w2.ownsRow B TL 1 (.slice (some ⟨g2, 0, none⟩) (ll.length + 1) cap2) (ll.length + 1) (vs ++ [.slice (some ⟨gc, 0, none⟩) l.length capc])) (hg2 : g2 < w2.heap.size) (hU2 : U ≤ w2.heap.size) :
    RowLs B w2.heap.size (ll ++ [l]) (.slice (some ⟨g2, 0, none⟩) (ll.length + 1) cap2) w2 := by
  have key : ∀ (g' n c' : Nat) (xs : List Value), w.ownsRow B TI 1 (.slice (some ⟨g', 0, none⟩) n c') n xs → w2.ownsRow B TI 1 (.slice (some ⟨g', 0, none⟩) n c') n xs := by
    intro g' n c' xs h
    refine (h.alloc _).kept hgrow (.inr ?_)
    intro e
    simp [Value.ownBlock] at e
    subst e
    obtain ⟨c1, h1⟩ := own_type h
    obtain ⟨c2, h2⟩ := own_type ho
    rw [h1] at h2
    simp [TI, TL] at h2
  refine ⟨g2, cap2, vs ++ [.slice (some ⟨gc, 0, none⟩) l.length capc], by simp, hg2, by simpa using ho2, by simp [hl], fun i x l' hx hll => ?_⟩
  by_cases e : i < ll.length
  · rw [List.getElem?_append_left (by omega)] at hx hll
    obtain ⟨g', cap', e', hg', ho'⟩ := hi i x l' hx hll
    exact ⟨g', cap', e', by omega, key _ _ _ _ ho'⟩
  · rw [List.getElem?_append_right (by omega)] at hx hll
    have h0 : i - ll.length = 0 := by
      have : i - ll.length < [l].length := (List.getElem?_eq_some_iff.1 hll).1
      simp at this
      omega
    rw [h0] at hll
    rw [hl, h0] at hx
    simp at hx hll
    subst hx; subst hll
    exact ⟨gc, capc, rfl, by omega, key _ _ _ _ hc⟩

/-- What Components returns. -/
noncomputable def compL (n : Int) (es : List (Int × Int)) : List (List Nat) := if chkE n es = 0 then compsK n.toNat (gN es) n.toNat else []
/-- A list of lists of nodes. -/
def GivesL (ll : List (List Nat)) (w : World) (e : Ending) (w' : World) : Prop := ∃ v, e = .returned v ∧ RowLs w.heap.size w'.heap.size ll v w' ∧ Below w.heap.size w w'

set_option maxRecDepth 100000 in
set_option maxHeartbeats 8000000 in
theorem components_ok (n₀ N : Nat) (ad : Option Addr) (cap : Nat) (es : List (Int × Int)) (w : World) (hE : EdgesA n₀ w ad es) (hn₀ : n₀ ≤ w.heap.size) (hc : chkE (N : Int) es = 0) (hl : es.length ≤ 2000) (hN : N ≤ 200) (hok : OkE N es) :
    Calls Try.prog 20 #[.int .i64 (N : Int), .slice ad es.length cap] w (GivesL (compsK N (gN es) N) w) := by
  obtain ⟨i0, hi, hz0, hz1, hz2⟩ := info_parts infoBool
  obtain ⟨i1, ji, jz0, jz1, jz2⟩ := info_parts infoI
  obtain ⟨i2, li, lz0, lz1, lz2⟩ := info_parts infoL
  have a0 : Below w.heap.size w (w.alloc (.cells #[] TL)) := (Below.refl _ w).alloc (Nat.le_refl _) _
  have hck := check_calm w.heap.size (N : Int) ad cap es (w.alloc (.cells #[] TL)) ((hE.mono hn₀).below a0) (by omega)
  rw [hc] at hck
  have HCK := Lib.hid hck
  have HE := Lib.hid (hE.mono hn₀)
  have HOK := Lib.hid hok
  have hr0 := RowLs.empty w w.heap.size (Nat.le_refl _)
  clear hE hn₀ hc hck hok
  obtain ⟨g0, hg0⟩ : ∃ g : List (Nat × Nat), gN es = g := ⟨_, rfl⟩
  rw [hg0]
  have HG0 := Lib.hid hg0
  clear hg0
  go_enter Try.func20, Try.ntmps20
  go_wp2_with fail
  refine HCK.out.mono ?_
  rintro e w1 ⟨rfl, b1, z1⟩
  have c1 : Below w.heap.size w w1 := a0.trans (b1.mono (by simp))
  have r1 : RowLs w.heap.size (w.heap.size + 1) [] (.slice (some ⟨w.heap.size, 0, none⟩) 0 0) w1 := hr0.kept (below_grown b1) (fun r e => by cases e)
  have z1' : w1.heap.size = w.heap.size + 1 := by rw [z1]; simp
  have Z1 := Lib.hid z1'
  have s1 : w.heap.size ≤ w1.heap.size := c1.size
  clear z1 z1' b1 a0 hr0
  go_wp2_with (at_make; refine wpList_make_full _ rfl (.tmp 17) (.tmp 17) 50 rfl w.heap.size TBool i0 (.bool false) 1 Try.underlying50 hi hz0 hz1 .i64 .i64 _ _ N rfl rfl rfl rfl (by rw [hz2]; omega) (by unfold maxLen; omega) s1 ?_)
  intro w2 ho2 hg2
  rw [madeFalse, ← doneK_zero N g0] at ho2
  obtain ⟨G, hG⟩ : ∃ G, w1.heap.size = G := ⟨_, rfl⟩
  have r2 : RowLs w.heap.size w2.heap.size [] (.slice (some ⟨w.heap.size, 0, none⟩) 0 0) w2 := (r1.kept hg2 (fun r e => by cases e)).mono (by have h1 := Z1.out; have h2 := hg2.size; omega)
  have c2 : Below w.heap.size w w2 := c1.grown hg2 s1 (fun j hj => by cases hj)
  rw [hG] at ho2 ⊢
  have hGB : w.heap.size ≤ G := by omega
  have m2 : MarksAt w.heap.size G N (doneK N g0 0 0) w2 := ho2
  have HM2 := Lib.hid m2
  have HR2 := Lib.hid r2
  clear ho2 hg2 r1 r2 m2 c1 hG Z1 s1
  go_wp2
  go_loopw [5, 7] (fun o i wr => ∃ (k : Nat) (v : Value), k ≤ N ∧ i = .int .i64 k ∧ v = o ∧ Hid (RowLs w.heap.size wr.heap.size (compsK N g0 k) v wr) ∧ Hid (MarksAt w.heap.size G N (doneK N g0 k k) wr) ∧ Below w.heap.size w wr) (fun _ i _ => N - (intOf i).toNat)
  case atStart => exact ⟨0, _, Nat.zero_le _, rfl, rfl, HR2, HM2, c2⟩
  case round =>
    obtain ⟨k, o, hk, rfl, rfl, HR, HM, hb⟩ := hrel
    by_cases hlt : k < N
    · obtain ⟨x, hx⟩ : ∃ x, doneB g0 k k = x := ⟨_, rfl⟩
      have d0 := HM.out.cell hlt (doneK_self g0 hlt)
      rw [hx] at d0
      have hkN : (k : Int) < (N : Int) := by omega
      have HX := Lib.hid hx
      clear hx
      cases x
      · have hsz := hb.size
        have hre := reached_any w.heap.size N k ad cap es wr (HE.out.below hb) hsz hl hN hlt HOK.out
        rw [HG0.out] at hre
        have HRE := Lib.hid hre
        obtain ⟨H, hH⟩ : ∃ H, wr.heap.size = H := ⟨_, rfl⟩
        rw [hH] at HRE
        have hHB : w.heap.size ≤ H := by omega
        have hGH : G < H := by have := HM.out.lt_size; omega
        have HH := Lib.hid hH
        clear hre hH hsz
        go_wp2_with fail
        refine HRE.out.mono ?_
        rintro e w3 ⟨rfl, m3, b3⟩
        have hg3 : wr.grownBy w3 none := by have := HH.out; subst this; exact below_grown b3
        have HM3 := Lib.hid (HM.out.kept hg3 (.inr (by simp [Value.ownBlock])))
        have HR3 := Lib.hid (HR.out.kept hg3 (fun r e => by cases e))
        have HT3 := Lib.hid m3
        have hb3 : Below w.heap.size w w3 := hb.trans (b3.mono hHB)
        have hz3 : wr.heap.size ≤ w3.heap.size := hg3.size
        obtain ⟨C, hC⟩ : ∃ C, w3.heap.size = C := ⟨_, rfl⟩
        have hBC : w.heap.size ≤ C := by have := HH.out; omega
        have hHC : H ≤ C := by have := HH.out; omega
        have hc4 : RowN C [] (.slice (some ⟨C, 0, none⟩) 0 0) (w3.alloc (.cells #[] TI)) := by subst hC; exact RowN.empty w3 _ (Nat.le_refl _)
        have HC4 := Lib.hid hc4
        have hb4 : Below w.heap.size w (w3.alloc (.cells #[] TI)) := hb3.alloc (by omega) _
        have HM4 := Lib.hid (HM3.out.alloc (.cells #[] TI))
        have HT4 := Lib.hid (HT3.out.alloc (.cells #[] TI))
        have HR4 : Hid (RowLs w.heap.size C (compsK N g0 k) o (w3.alloc (.cells #[] TI))) := Lib.hid ((HR3.out.kept (World.grownBy_alloc w3 (.cells #[] TI) none) (fun r e => by cases e)).mono (by omega))
        have HCZ := Lib.hid hC
        clear m3 b3 hg3 hb3 hz3 hc4 hC
        go_wp2
        rw [HCZ.out]
        go_loopw [9, 10] (fun c i wx => ∃ q : Nat, k ≤ q ∧ q ≤ N ∧ i = .int .i64 q ∧ RowN C (clsK g0 k q) c wx ∧ Hid (MarksAt w.heap.size G N (doneK N g0 k q) wx) ∧ Hid (MarksAt H H N (reachB N g0 k) wx) ∧ Hid (RowLs w.heap.size C (compsK N g0 k) o wx) ∧ Below w.heap.size w wx) (fun _ i _ => N - (intOf i).toNat)
        case atStart => exact ⟨k, Nat.le_refl _, hk, rfl, by rw [clsK_start]; exact HC4.out, HM4, HT4, HR4, hb4⟩
        case round =>
          obtain ⟨q, hkq, hqN, rfl, ⟨gc, cp, rfl, ho⟩, HMx, HTx, HRx, hbr⟩ := hrel
          have HOWN := Lib.hid ho
          clear ho
          by_cases hlq : q < N
          · obtain ⟨x, hx⟩ : ∃ x, (reachB N g0 k)[q]? = some x := ⟨_, List.getElem?_eq_getElem (by rw [reachB_length]; exact hlq)⟩
            have d1 := HTx.out.cell hlq hx
            have hqN2 : (q : Int) < (N : Int) := by omega
            have HX2 := Lib.hid hx
            clear hx
            cases x
            · have hmu := mutB_not hlq HX2.out
              have HCL : Hid (clsK g0 k (q + 1) = clsK g0 k q) := Lib.hid (by rw [clsK_succ g0 hkq, hmu]; simp)
              have HDN : Hid (doneK N g0 k (q + 1) = doneK N g0 k q) := Lib.hid (doneK_skip hmu)
              clear hmu
              go_wp2
              go_roundw
              case rel => exact ⟨q + 1, by omega, by omega, by go_num, by rw [HCL.out]; exact ⟨gc, cp, rfl, HOWN.out⟩, by rw [HDN.out]; exact HMx, HTx, HRx, hbr⟩
              case measure => simp [intOf]; omega
            · have hsx := hbr.size
              have hre := reached_any w.heap.size N q ad cap es wr (HE.out.below hbr) hsx hl hN hlq HOK.out
              rw [HG0.out] at hre
              have HRE := Lib.hid hre
              obtain ⟨y, hy⟩ : ∃ y, (reachB N g0 q)[k]? = some y := ⟨_, List.getElem?_eq_getElem (by rw [reachB_length]; exact hlt)⟩
              have HY := Lib.hid hy
              have hmu := mutB_reach hlt hlq HX2.out hy
              rw [Bool.true_and] at hmu
              have HMU := Lib.hid hmu
              clear hre hy hmu
              go_wp2_with fail
              refine HRE.out.mono ?_
              rintro e w5 ⟨rfl, m5, b5⟩
              have d2 := m5.cell hlt HY.out
              have hg5 := below_grown b5
              have HM5 := Lib.hid (HMx.out.kept hg5 (.inr (by simp [Value.ownBlock])))
              have HT5 := Lib.hid (HTx.out.kept hg5 (.inr (by simp [Value.ownBlock])))
              have HR5 := Lib.hid (HRx.out.kept hg5 (fun r e => by cases e))
              have HO5 := Lib.hid (HOWN.out.kept hg5 (.inr (by simp [Value.ownBlock])))
              have hb5 : Below w.heap.size w w5 := hbr.trans (b5.mono hsx)
              clear m5 b5 hg5
              cases y
              · have HCL : Hid (clsK g0 k (q + 1) = clsK g0 k q) := Lib.hid (by rw [clsK_succ g0 hkq, HMU.out]; simp)
                have HDN : Hid (doneK N g0 k (q + 1) = doneK N g0 k q) := Lib.hid (doneK_skip HMU.out)
                go_wp2
                go_roundw
                case rel => exact ⟨q + 1, by omega, by omega, by go_num, by rw [HCL.out]; exact ⟨gc, cp, rfl, HO5.out⟩, by rw [HDN.out]; exact HM5, HT5, HR5, hb5⟩
                case measure => simp [intOf]; omega
              · have HCL : Hid (clsK g0 k (q + 1) = clsK g0 k q ++ [q]) := Lib.hid (by rw [clsK_succ g0 hkq, HMU.out]; simp)
                have HDN : Hid ((doneK N g0 k q).set q true = doneK N g0 k (q + 1)) := Lib.hid (doneK_mark hkq HMU.out)
                have hcl := clsK_length_le g0 k q
                have hcl2 : (clsK g0 k q).length ≤ 200 := by omega
                have hs5 : C ≤ w5.heap.size := by have h1 := (HO5.out.lt gc rfl).1; have h2 := (HO5.out.lt gc rfl).2; omega
                have hne : RowN C (clsK g0 k q) (.slice (some ⟨gc, 0, none⟩) (clsK g0 k q).length cp) w5 := ⟨gc, cp, rfl, HO5.out⟩
                have HN1 := Lib.hid (hne.ne HM5.out)
                have HN2 := Lib.hid (hne.ne HT5.out)
                clear hcl hne
                go_wp2_with (at_builtin; refine wpList_append_own _ rfl _ _ 28 rfl C TI i1 (.int .i64 0) 1 8 Try.underlying28 ji jz0 jz1 jz2 rfl (by decide) _ _ _ rfl (HO5.out.alloc _) ⟨w5.heap.size, 0, none⟩ 1 1 [.int .i64 (q : Int)] rfl rfl (newCell w5 _ TI) (one_one _) (by unfold maxLen; omega) (by omega) (by simp; omega) ?_)
                intro v' w6 hown' hgrow hnil
                obtain ⟨g2, cap2, rfl⟩ := ownsRow_some hown' hnil
                have m6 : MarksAt w.heap.size G N (doneK N g0 k q) w6 := (HM5.out.alloc _).kept hgrow (.inr (by intro e; exact HN1.out e.symm))
                have t6 : MarksAt H H N (reachB N g0 k) w6 := (HT5.out.alloc _).kept hgrow (.inr (by intro e; exact HN2.out e.symm))
                have hr6 : RowLs w.heap.size C (compsK N g0 k) o w6 := (HR5.out.kept (World.grownBy_alloc w5 _ none) (fun r e => by cases e)).kept hgrow (fun r e => .inl (HO5.out.lt r e).1)
                have b6 : Below w.heap.size w w6 := (hb5.alloc hb5.size _).grown hgrow (by have := hb5.size; simp; omega) (fun i hi => by have := (HO5.out.lt i hi).1; omega)
                have c6 : RowN C (clsK g0 k (q + 1)) (.slice (some ⟨g2, 0, none⟩) ((clsK g0 k q).length + 1) cap2) w6 := by
                  rw [HCL.out]
                  exact ⟨g2, cap2, by simp, by simpa [natV] using hown'⟩
                have d6 := m6.cell hlq (doneK_get g0 k q hlq)
                have f6 := m6.free q
                have hst := (World.ownsRow.stored m6 q (.bool true)).2
                have m7 := m6.store q true
                rw [HDN.out] at m7
                have HM7 := Lib.hid m7
                have HT7 := Lib.hid (t6.kept hst (.inr (by simp [Value.ownBlock]; omega)))
                have HR7 := Lib.hid (hr6.kept hst (fun r e => .inr (by cases e; exact own_type m6)))
                have HC7 : Hid (RowN C (clsK g0 k (q + 1)) (.slice (some ⟨g2, 0, none⟩) ((clsK g0 k q).length + 1) cap2) (w6.setCell ⟨G, q, none⟩ (.bool true))) := Lib.hid (by
                  obtain ⟨g5, cap5, e5, h5⟩ := id c6
                  exact ⟨g5, cap5, e5, h5.kept hst (.inr (c6.ne m6))⟩)
                have b7 := b6.setCell (p := ⟨G, q, none⟩) hGB (.bool true)
                obtain ⟨z, hz⟩ : ∃ z, (doneB g0 k q || (decide (k ≤ q) && decide (q < q) && mutB g0 k q)) = z := ⟨_, rfl⟩
                rw [hz] at d6
                clear hown' hgrow hnil m6 t6 hr6 b6 c6 hst m7 hz
                go_wp2
                go_roundw
                case rel => exact ⟨q + 1, by omega, by omega, by go_num, HC7.out, HM7, HT7, HR7, b7⟩
                case measure => simp [intOf]; omega
          · have hqe : q = N := by omega
            subst hqe
            obtain ⟨go, co, vs, rfl, hgo, hoo, hvl, hvi⟩ := id HRx.out
            have hcl := compsK_length_le q g0 k
            have hcl2 : (compsK q g0 k).length ≤ 200 := by omega
            have hbs := hbr.size
            have hgc1 := (HOWN.out.lt gc rfl).1
            have hgc2 := (HOWN.out.lt gc rfl).2
            have hCs : C ≤ wr.heap.size := by omega
            have HM7 : Hid (MarksAt w.heap.size G q (doneK q g0 (k + 1) (k + 1)) wr) := Lib.hid (by rw [← doneK_next HX.out]; exact HMx.out)
            have HCC : Hid (compsK q g0 (k + 1) = compsK q g0 k ++ [clsK g0 k q]) := Lib.hid (by rw [compsK_succ, HX.out]; simp)
            have hgoG : (some G : Option Nat) ≠ some go := by
              intro e
              cases e
              obtain ⟨c1, h1⟩ := own_type hoo
              obtain ⟨c2, h2⟩ := own_type HM7.out
              rw [h1] at h2
              simp [TL, TBool] at h2
            have HGG := Lib.hid hgoG
            have HOO := Lib.hid hoo
            have HVL := Lib.hid hvl
            have HVI := Lib.hid hvi
            have HGO := Lib.hid hgo
            clear hcl hgoG hoo hvl hvi hgo
            go_wp2_with (at_builtin; refine wpList_append_own _ rfl _ _ 31 rfl w.heap.size TL i2 (.slice none 0 0) 1 24 Try.underlying31 li lz0 lz1 lz2 rfl (by decide) _ _ _ rfl (HOO.out.alloc _) ⟨wr.heap.size, 0, none⟩ 1 1 [.slice (some ⟨gc, 0, none⟩) (clsK g0 k q).length cp] rfl rfl (newCell wr _ TL) (one_slice _ _ _) (by unfold maxLen; omega) (by omega) (by simp; omega) ?_)
            intro v' w6 hown' hgrow hnil
            obtain ⟨g2, cap2, rfl⟩ := ownsRow_some hown' hnil
            have hz6 : wr.heap.size + 1 ≤ w6.heap.size := by have := hgrow.size; simpa using this
            have r6 : RowLs w.heap.size w6.heap.size (compsK q g0 (k + 1)) (.slice (some ⟨g2, 0, none⟩) ((compsK q g0 k).length + 1) cap2) w6 := by
              rw [HCC.out]
              exact RowLs.append (U := wr.heap.size) (by have := HGO.out; omega) HOO.out HVL.out (fun i x l hx hl => by
                obtain ⟨g', c', e', hg', ho'⟩ := HVI.out i x l hx hl
                exact ⟨g', c', e', by omega, ho'⟩) (ownsRow_base hBC HOWN.out) hgc2 hgrow hown' (hown'.lt g2 rfl).2 (by omega)
            have m6 : MarksAt w.heap.size G q (doneK q g0 (k + 1) (k + 1)) w6 := (HM7.out.alloc _).kept hgrow (.inr HGG.out)
            have b6 : Below w.heap.size w w6 := (hbr.alloc hbs _).grown hgrow (by simp; omega) (fun i hi => (HOO.out.lt i hi).1)
            have HR6 := Lib.hid r6
            have HM6 := Lib.hid m6
            clear hown' hgrow hnil r6 m6
            go_wp2
            go_roundw
            case rel => exact ⟨k + 1, _, by omega, by go_num, rfl, HR6, HM6, b6⟩
            case measure => simp [intOf]; omega
      · have HM3 : Hid (MarksAt w.heap.size G N (doneK N g0 (k + 1) (k + 1)) wr) := Lib.hid (by rw [← doneK_pass HX.out]; exact HM.out)
        have HC : Hid (compsK N g0 (k + 1) = compsK N g0 k) := Lib.hid (by rw [compsK_succ, HX.out]; simp)
        go_wp2
        go_roundw
        case rel => exact ⟨k + 1, o, by omega, by go_num, rfl, by rw [HC.out]; exact HR, HM3, hb⟩
        case measure => simp [intOf]; omega
    · have HK : Hid (compsK N g0 k = compsK N g0 N) := Lib.hid (by congr 1; omega)
      go_wp2
      go_ret
      refine ⟨_, rfl, ?_, hb⟩
      rw [← HK.out]
      exact HR.out

theorem components_any (n₀ : Nat) (n : Int) (ad : Option Addr) (cap : Nat) (es : List (Int × Int)) (w : World) (hE : EdgesA n₀ w ad es) (hn₀ : n₀ ≤ w.heap.size) (hl : es.length ≤ 9223372036854775807) :
    Calls Try.prog 20 #[.int .i64 n, .slice ad es.length cap] w (GivesL (compL n es) w) := by
  by_cases hc : chkE n es = 0
  · unfold compL
    rw [if_pos hc]
    obtain ⟨N, rfl, hN, hl2, hok⟩ := chk_ok hc
    rw [Int.toNat_natCast]
    exact components_ok n₀ N ad cap es w hE hn₀ hc hl2 hN hok
  · unfold compL
    rw [if_neg hc]
    have a0 : Below w.heap.size w (w.alloc (.cells #[] TL)) := (Below.refl _ w).alloc (Nat.le_refl _) _
    have hck := check_calm w.heap.size n ad cap es (w.alloc (.cells #[] TL)) ((hE.mono hn₀).below a0) hl
    have hcb : (chkE n es != 0) = true := by simpa using hc
    obtain ⟨c, hce⟩ : ∃ c, chkE n es = c := ⟨_, rfl⟩
    rw [hce] at hck hcb
    have HCK := Lib.hid hck
    have hr0 := RowLs.empty w w.heap.size (Nat.le_refl _)
    clear hE hc hck hce
    go_enter Try.func20, Try.ntmps20
    go_wp2_with fail
    refine HCK.out.mono ?_
    rintro e w1 ⟨rfl, b1, z1⟩
    have HR1 : Hid (RowLs w.heap.size w1.heap.size [] (.slice (some ⟨w.heap.size, 0, none⟩) 0 0) w1) := Lib.hid ((hr0.kept (below_grown b1) (fun r e => by cases e)).mono (by rw [z1]; simp))
    have c1 : Below w.heap.size w w1 := a0.trans (b1.mono (by simp))
    clear z1 b1 hr0
    go_wp2
    go_ret
    exact ⟨_, rfl, HR1.out, c1⟩

end Go.Proofs.Ytcggmonnajggcaa
