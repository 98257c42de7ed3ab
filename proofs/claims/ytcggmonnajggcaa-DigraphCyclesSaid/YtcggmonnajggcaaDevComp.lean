/-
  What the program's Components of digraph returns.
-/
import Derived.Test.YtcggmonnajggcaaDevRows
namespace Go.Proofs.Ytcggmonnajggcaa
open Go.RowKit

theorem selN_pair (N : Nat) (p : Nat → Bool) : (selN N p).Pairwise (· < ·) := by
  unfold selN
  exact List.Pairwise.filter _ List.pairwise_lt_range
theorem selN_head {N : Nat} {p : Nat → Bool} {k : Nat} (hk : k < N) (hp : p k = true) : ∃ h r, selN N p = h :: r ∧ p h = true ∧ h ≤ k ∧ ∀ j, j < h → p j = false := by
  have hm : k ∈ selN N p := mem_selN.2 ⟨hk, hp⟩
  have hs := selN_pair N p
  cases e : selN N p with
  | nil => rw [e] at hm; simp at hm
  | cons h r =>
    rw [e] at hm hs
    have hh : h < N ∧ p h = true := mem_selN.1 (by rw [e]; simp)
    refine ⟨h, r, rfl, hh.2, ?_, fun j hj => ?_⟩
    · rcases List.mem_cons.1 hm with rfl | hm
      · exact Nat.le_refl _
      · exact Nat.le_of_lt ((List.pairwise_cons.1 hs).1 k hm)
    · cases hpj : p j
      · rfl
      · have : j ∈ h :: r := by rw [← e]; exact mem_selN.2 ⟨by omega, hpj⟩
        rcases List.mem_cons.1 this with rfl | hm
        · omega
        · have := (List.pairwise_cons.1 hs).1 j hm
          omega
/-- Two nodes are in one class. -/
theorem compP_eq (g : List (Nat × Nat)) (k j : Nat) : ((j == k) || (clB g k j && clB g j k)) = mutB g k j := by
  rw [Bool.eq_iff_iff, mutB_iff]
  simp only [Bool.or_eq_true, beq_iff_eq, Bool.and_eq_true, clB_iff]
  constructor
  · rintro (rfl | ⟨h1, h2⟩)
    · exact ⟨.refl, .refl⟩
    · exact ⟨h1.rch, h2.rch⟩
  · rintro ⟨h1, h2⟩
    rcases h1.cases1 with rfl | h1
    · exact .inl rfl
    · rcases h2.cases1 with rfl | h2
      · exact .inl rfl
      · exact .inr ⟨h1, h2⟩
/-- A class begins with its node exactly if no node before has it. -/
theorem class_head {N : Nat} {g : List (Nat × Nat)} {k : Nat} (hk : k < N) : ∃ h r, selN N (mutB g k) = h :: r ∧ h < N ∧ (h == k) = !doneB g k k := by
  obtain ⟨h, r, e, hp, hle, hmin⟩ := selN_head hk (mutB_refl g k)
  refine ⟨h, r, e, by omega, ?_⟩
  cases hd : doneB g k k
  · by_cases ehk : h = k
    · simp [ehk]
    · exfalso
      rw [doneB_of (show h < k by omega) (mutB_symm hp)] at hd
      cases hd
  · unfold doneB at hd
    rw [List.any_eq_true] at hd
    obtain ⟨j, hj, hm⟩ := hd
    rw [List.mem_range] at hj
    have : ¬ j < h := fun hjh => by
      have := hmin j hjh
      rw [mutB_symm hm] at this
      cases this
    simp
    omega
theorem class_cls {N : Nat} {g : List (Nat × Nat)} {k : Nat} (hd : doneB g k k = false) : selN N (mutB g k) = clsK g k N := by
  unfold selN clsK
  apply List.filter_congr
  intro x _
  cases hm : mutB g k x
  · simp
  · have : k ≤ x := by
      by_cases h : k ≤ x
      · exact h
      · rw [doneB_of (show x < k by omega) (mutB_symm hm)] at hd
        cases hd
    simp [this]

/-- A slice of slices of numbers in rows of the call's own. -/
def RowsL (B : Nat) (ll : List (List Nat)) (v : Value) (w : World) : Prop :=
  ∃ vs, w.ownsRow B TL 1 v ll.length vs ∧ vs.length = ll.length ∧ ∀ (i : Nat) (x : Value) (l : List Nat), vs[i]? = some x → ll[i]? = some l → OwnN B l x w
theorem RowsL.nil (B : Nat) (w : World) : RowsL B [] (.slice none 0 0) w := ⟨[], World.ownsRow_nil _ _ _ _, rfl, fun i x l hx => by simp at hx⟩
theorem RowsL.far {B B0 : Nat} {ll : List (List Nat)} {v : Value} {w w' : World} {row : Option Nat} (h : RowsL B ll v w) (hg : w.grownBy w' row) (hr : RowFar B0 w row) : RowsL B ll v w' := by
  obtain ⟨vs, h1, h2, h3⟩ := h
  exact ⟨vs, own_far h1 hg hr, h2, fun i x l hx hl => own_far (h3 i x l hx hl) hg hr⟩
theorem RowsL.below {B : Nat} {ll : List (List Nat)} {v : Value} {w w' : World} (h : RowsL B ll v w) (hb : Below w.heap.size w w') : RowsL B ll v w' := h.far (B0 := 0) (grownOf hb) (fun r e => by cases e)
theorem RowsL.base {B C : Nat} {ll : List (List Nat)} {v : Value} {w : World} (h : RowsL B ll v w) (hCB : C ≤ B) : RowsL C ll v w := by
  obtain ⟨vs, h1, h2, h3⟩ := h
  exact ⟨vs, ownsRow_base hCB h1, h2, fun i x l hx hl => ownsRow_base hCB (h3 i x l hx hl)⟩
theorem RowsL.append {B : Nat} {ll : List (List Nat)} {l : List Nat} {v v' z x0 : Value} {w w' : World} {vs : List Value}
    (h1 : w.ownsRow B TL 1 v ll.length vs) (h2 : vs.length = ll.length) (h3 : ∀ (i : Nat) (x : Value) (l : List Nat), vs[i]? = some x → ll[i]? = some l → OwnN B l x w)
    (hrow : OwnN B l x0 w) (hg : (w.alloc (.cells #[z] TL)).grownBy w' v.ownBlock) (ho : w'.ownsRow B TL 1 v' (ll.length + 1) (vs ++ [x0])) : RowsL B (ll ++ [l]) v' w' := by
  have key : ∀ (l : List Nat) (x : Value), OwnN B l x w → OwnN B l x w' := by
    intro l x h
    refine World.ownsRow.kept (World.ownsRow.alloc h _) hg ?_
    by_cases hx : x = .slice none 0 0
    · left
      rw [hx]
      rfl
    · right
      obtain ⟨H, c, rfl⟩ := ownsRow_some h hx
      intro e
      by_cases hv : v = .slice none 0 0
      · rw [hv] at e
        simp [Value.ownBlock] at e
      · obtain ⟨g, cap, rfl⟩ := ownsRow_some h1 hv
        simp [Value.ownBlock] at e
        subst e
        obtain ⟨c1, e1⟩ := own_type h
        obtain ⟨c2, e2⟩ := own_type h1
        rw [e1] at e2
        simp [TI, TL] at e2
  refine ⟨_, by simpa using ho, by simp [h2], fun i x l' hx hl => ?_⟩
  by_cases e : i < ll.length
  · rw [List.getElem?_append_left (by omega)] at hx hl
    exact key _ _ (h3 i x l' hx hl)
  · have hi : i = ll.length := by
      have := (List.getElem?_eq_some_iff.1 hx).1
      simp at this
      omega
    subst hi
    rw [List.getElem?_append_right (by omega), h2, Nat.sub_self] at hx
    rw [List.getElem?_append_right (by omega), Nat.sub_self] at hl
    simp at hx hl
    subst hx
    subst hl
    exact key _ _ hrow
theorem RowsL.known {B : Nat} {ll : List (List Nat)} {v : Value} {w : World} (h : RowsL B ll v w) : Lists w v ll := by
  obtain ⟨vs, h1, h2, h3⟩ := h
  by_cases hv : v = .slice none 0 0
  · have hl : ll = [] := by
      rcases h1.2 with ⟨_, e⟩ | ⟨g, cap, cur, e, _⟩
      · exact List.eq_nil_of_length_eq_zero e
      · rw [hv] at e; cases e
    subst hl
    exact ⟨none, 0, by rw [hv]; rfl, fun j hj => by simp [listsOf] at hj, by simp [listsOf]⟩
  · obtain ⟨g, cap, rfl⟩ := ownsRow_some h1 hv
    refine ⟨_, cap, by rw [listsOf_length], fun i hil => ?_, by rw [listsOf_length]; exact own_len h1⟩
    rw [listsOf_length] at hil
    obtain ⟨x, hx⟩ : ∃ x, vs[i]? = some x := ⟨_, List.getElem?_eq_getElem (by omega)⟩
    have hel : elL (listsOf ll) i = intsOf ll[i] := by simp [elL, listsOf, hil]
    rw [hel]
    obtain ⟨a, c, rfl, hI, hle⟩ := OwnN.known (h3 i x ll[i] hx (List.getElem?_eq_getElem hil))
    refine ⟨g, 0, a, c, rfl, (World.ownsRow.lt h1 g rfl).2, ?_, hI, hle⟩
    rw [Nat.zero_add, World.ownsRow.cellAt h1 i (by omega), hx]

set_option maxRecDepth 100000 in
set_option maxHeartbeats 4000000 in
theorem compCond_any (k j g cg Gk Gj N Bk Ba C : Nat) (mk mj : List Bool) (w : World) (hk : w.heap[Bk]? = some (.cells #[.int .i64 (k : Int)] 3 (0, 0))) (ha : w.heap[Ba]? = some (.cells #[.slice (some ⟨g, 0, none⟩) N cg] 57 (0, 0)))
    (h1 : w.cell? ⟨g, k, none⟩ = some (.slice (some ⟨Gk, 0, none⟩) N N)) (h2 : w.cell? ⟨g, j, none⟩ = some (.slice (some ⟨Gj, 0, none⟩) N N)) (hMk : MarksAt C Gk N mk w) (hMj : MarksAt C Gj N mj w) (a b : Bool) (hma : mk[j]? = some a) (hmb : mj[k]? = some b) (hj : j < N) (hkN : k < N) :
    Calls Try.prog 48 (#[.int .i64 (j : Int)] ++ #[.pointer (some ⟨Bk, 0, none⟩), .pointer (some ⟨Ba, 0, none⟩)]) w fun e w' => e = .returned (.bool ((j == k) || (a && b))) ∧ ∃ q, w' = w.drewN q := by
  have c1 := box_cell hk
  have c2 := box_cell ha
  have c3 := hMk.cell hj hma
  have c4 := hMj.cell hkN hmb
  have j1 : (j : Int) < (N : Int) := by omega
  have k1 : (k : Int) < (N : Int) := by omega
  by_cases hjk : j = k
  · have e1 : ((j == k) || (a && b)) = true := by simp [hjk]
    have e2 : ((j : Int) == (k : Int)) = true := by rw [hjk]; simp
    rw [e1]
    clear e1 hjk hk ha hMk hMj hma hmb c3 c4 h1 h2
    go_enter Try.func48, Try.ntmps48
    go_wp2_with fail
    go_quiet (fail)
    go_wp2
    go_ret
    exact ⟨rfl, _, rfl⟩
  · have e1 : ((j == k) || (a && b)) = (a && b) := by simp [hjk]
    have e2 : ((j : Int) == (k : Int)) = false := by rw [beq_eq_false_iff_ne]; omega
    rw [e1]
    clear e1 hjk hk ha hMk hMj hma hmb
    cases a
    · clear c4
      go_enter Try.func48, Try.ntmps48
      go_wp2_with fail
      go_quiet (fail)
      go_wp2
      go_ret
      exact ⟨rfl, _, rfl⟩
    · go_enter Try.func48, Try.ntmps48
      go_wp2_with fail
      go_quiet (fail)
      go_wp2
      go_ret
      exact ⟨by simp, _, rfl⟩

theorem OwnN.cons {B h : Nat} {r : List Nat} {v : Value} {w : World} (ho : OwnN B (h :: r) v w) : ∃ g c, v = .slice (some ⟨g, 0, none⟩) (r.length + 1) c ∧ w.cell? ⟨g, 0, none⟩ = some (.int .i64 (h : Int)) := by
  have hv : v ≠ .slice none 0 0 := by
    rintro rfl
    rcases ho.2 with ⟨_, e⟩ | ⟨g, cap, cur, e, _⟩
    · cases e
    · cases e
  obtain ⟨g, c, rfl⟩ := ownsRow_some ho hv
  exact ⟨g, c, rfl, by rw [World.ownsRow.cellAt ho 0 (by simp)]; rfl⟩
set_option maxRecDepth 100000 in
set_option maxHeartbeats 8000000 in
theorem devComponents_ok (n₀ N : Nat) (ad : Option Addr) (cap : Nat) (es : List (Int × Int)) (w : World) (hE : EdgesA n₀ w ad es) (hn₀ : n₀ ≤ w.heap.size) (hc : chkE (N : Int) es = 0) (hl : es.length ≤ 2000) (hcap : es.length ≤ cap) (hok : OkE N es) (hs : SrtN (gN es)) (hN : N ≤ 200) :
    Calls Try.prog 19 #[.int .i64 (N : Int), .slice ad es.length cap] w fun e w' => ∃ v, e = .returned v ∧ RowsL w.heap.size (compsK N (gN es) N) v w' ∧ Below w.heap.size w w' := by
  obtain ⟨i2, li, lz0, lz1, lz2⟩ := info_parts infoL
  have hck := devCheck_any (N : Int) ad cap es w (hE.mono hn₀) (by omega)
  rw [hc] at hck
  have HCK := Lib.hid hck
  have HE := Lib.hid hE
  have HOK := Lib.hid hok
  have HS := Lib.hid hs
  clear hE hc hck hok hs
  go_enter Try.func19, Try.ntmps19
  go_wp2_with fail
  refine HCK.out.mono ?_
  rintro e w1 ⟨rfl, b1⟩
  have HA := Lib.hid (eachAhead_any n₀ N ad cap es w1 hl hcap HOK.out HS.out hN (HE.out.below (b1.mono hn₀)) (Nat.le_trans hn₀ b1.size))
  have B1 := Lib.hid b1
  clear b1
  go_wp2_with fail
  refine HA.out.mono ?_
  rintro e w2 ⟨va, rfl, hr, b2⟩
  obtain ⟨aa, ca, rfl⟩ := hr.slice
  have B2 : Hid (Below w.heap.size w w2) := Lib.hid (B1.out.trans (b2.mono B1.out.size))
  have R2 := Lib.hid (hr.base B1.out.size)
  have X3 : Hid ((w2.alloc (.cells #[.slice aa N ca] 57)).heap[w2.heap.size]? = some (.cells #[.slice aa N ca] 57 (0, 0))) := Lib.hid (World.alloc_heap_new w2 _)
  have B3 : Hid (Below w.heap.size w (w2.alloc (.cells #[.slice aa N ca] 57))) := Lib.hid (B2.out.alloc B2.out.size _)
  have R3 : Hid (RowsAt w.heap.size TBs TBool N (aheadV N (gN es)) N (.slice aa N ca) (w2.alloc (.cells #[.slice aa N ca] 57))) := Lib.hid (R2.out.far (B0 := 0) (World.grownBy_alloc _ _ none) (fun r e => by cases e))
  clear hr b2 HA R2
  go_wp2
  go_loopw [6, 20] (fun v i wr => ∃ k : Nat, k ≤ N ∧ i = .int .i64 k ∧ Hid (RowsL w.heap.size (compsK N (gN es) k) v wr) ∧ Hid (wr.heap[w2.heap.size]? = some (.cells #[.slice aa N ca] 57 (0, 0))) ∧ Hid (RowsAt w.heap.size TBs TBool N (aheadV N (gN es)) N (.slice aa N ca) wr) ∧ Hid (Below w.heap.size w wr)) (fun _ i _ => N - (intOf i).toNat)
  case atStart => exact ⟨0, Nat.zero_le _, rfl, Lib.hid (RowsL.nil _ _), X3, R3, B3⟩
  case round =>
    obtain ⟨k, hk, rfl, HL, HX, HR, HB⟩ := hrel
    by_cases hlt : k < N
    · have HXk : Hid ((wr.alloc (.cells #[.int .i64 (k : Int)] 3)).heap[wr.heap.size]? = some (.cells #[.int .i64 (k : Int)] 3 (0, 0))) := Lib.hid (World.alloc_heap_new wr _)
      have HB4 : Hid (Below wr.heap.size wr (wr.alloc (.cells #[.int .i64 (k : Int)] 3))) := Lib.hid ((Below.refl _ wr).alloc (Nat.le_refl _) _)
      have HNW := Lib.hid (nodesWith_any N 48 #[.pointer (some ⟨wr.heap.size, 0, none⟩), .pointer (some ⟨w2.heap.size, 0, none⟩)] (mutB (gN es) k) (wr.alloc (.cells #[.int .i64 (k : Int)] 3)) hN (enters_of Try.func48 (by kernel_rfl) rfl) (fun j W hj hb => by
        have hbw : Below wr.heap.size wr W := HB4.out.trans (hb.mono (by simp))
        have hx : W.heap[wr.heap.size]? = some (.cells #[.int .i64 (k : Int)] 3 (0, 0)) := (hb.block _ (by simp)).trans HXk.out
        have ha : W.heap[w2.heap.size]? = some (.cells #[.slice aa N ca] 57 (0, 0)) := (hbw.block _ (Array.getElem?_eq_some_iff.1 HX.out).1).trans HX.out
        have hr := HR.out.below hbw
        obtain ⟨g, c, Gk, e1, h1, m1⟩ := hr.row hlt
        obtain ⟨g', c', Gj, e2, h2, m2⟩ := hr.row hj
        rw [e1] at e2
        cases e2
        rw [e1] at ha
        have := compCond_any k j g c Gk Gj N _ _ _ _ _ W hx ha h1 h2 m1 m2 _ _ (aheadB_get hj) (aheadB_get hlt) hj hlt
        rw [compP_eq] at this
        exact this))
      go_wp2_with fail
      refine HNW.out.mono ?_
      rintro e w5 ⟨v5, rfl, ho5, b5⟩
      have b5' : Below wr.heap.size wr w5 := HB4.out.trans (b5.mono (by simp))
      have HB5 : Hid (Below w.heap.size w w5) := Lib.hid (HB.out.trans (b5'.mono HB.out.size))
      have HX5 : Hid (w5.heap[w2.heap.size]? = some (.cells #[.slice aa N ca] 57 (0, 0))) := Lib.hid ((b5'.block _ (Array.getElem?_eq_some_iff.1 HX.out).1).trans HX.out)
      have HR5 := Lib.hid (HR.out.below b5')
      have HL5 := Lib.hid (HL.out.below b5')
      have x5 := box_cell ((b5.block _ (by simp)).trans HXk.out)
      obtain ⟨h, r, hsel, hhN, hhk⟩ := class_head (g := gN es) hlt
      have ho6 : OwnN w.heap.size (h :: r) v5 w5 := by rw [← hsel]; exact ownsRow_base (by have := HB.out.size; simp; omega) ho5
      obtain ⟨gc, cc, rfl, c5⟩ := ho6.cons
      have HO6 := Lib.hid ho6
      have HSEL := Lib.hid hsel
      have HHK := Lib.hid hhk
      have hCS := Lib.hid (compsK_succ N (gN es) k)
      clear ho5 b5 b5' HNW ho6 hsel hhk
      cases hd : doneB (gN es) k k
      · have g1 : ((h : Int) == (k : Int)) = true := by
          have := HHK.out
          rw [hd] at this
          simp at this
          simp [this]
        have HN : Hid (compsK N (gN es) (k + 1) = compsK N (gN es) k ++ [h :: r]) := Lib.hid (by rw [hCS.out, hd, ← HSEL.out, class_cls hd]; rfl)
        have hszL := compsK_length_le N (gN es) k
        have hsz5 := HB5.out.size
        clear hd
        go_wp2_with fail
        go_quiet (fail)
        obtain ⟨vs, h1, h2, h3⟩ := (HL5.out.far (B0 := 0) (grownOf (below_drewN0 (k := nq) (Below.refl w5.heap.size w5))) (fun r e => by cases e))
        have H1 := Lib.hid h1
        have H2 := Lib.hid h2
        have H3 := Lib.hid h3
        clear h1 h2 h3 x5 c5 g1
        go_wp2_with (at_builtin; refine wpList_append_own _ rfl _ _ 31 rfl w.heap.size TL i2 (.slice none 0 0) 1 24 Try.underlying31 li lz0 lz1 lz2 rfl (by decide) _ _ _ rfl (H1.out.alloc _) ⟨w5.heap.size, 0, none⟩ 1 1 [.slice (some ⟨gc, 0, none⟩) (r.length + 1) cc] rfl rfl (newCell (w5.drewN nq) _ TL) (one_slice _ _ _) (by unfold maxLen; omega) (by omega) (by simp; omega) ?_)
        intro v' w6 hown' hgrow hnil
        have HL6 : Hid (RowsL w.heap.size (compsK N (gN es) (k + 1)) v' w6) := Lib.hid (by
          rw [HN.out]
          exact RowsL.append H1.out H2.out H3.out (l := h :: r) (x0 := .slice (some ⟨gc, 0, none⟩) (r.length + 1) cc) HO6.out hgrow (by simpa using hown'))
        have hty : RowTy TL ((w5.drewN nq).alloc (.cells #[.slice (some ⟨gc, 0, none⟩) (r.length + 1) cc] TL)) u6.ownBlock := (rowTy_of H1.out).alloc _
        have HX6 : Hid (w6.heap[w2.heap.size]? = some (.cells #[.slice aa N ca] 57 (0, 0))) := Lib.hid (cells_other ((Below.heap_alloc (w5.drewN nq) _ _ (Array.getElem?_eq_some_iff.1 HX5.out).1).trans HX5.out) hgrow hty (by decide))
        have HR6 : Hid (RowsAt w.heap.size TBs TBool N (aheadV N (gN es)) N (.slice aa N ca) w6) := Lib.hid (((HR5.out.far (B0 := 0) (grownOf (below_drewN0 (k := nq) (Below.refl w5.heap.size w5))) (fun r e => by cases e)).far (B0 := 0) (World.grownBy_alloc _ _ none) (fun r e => by cases e)).other hgrow hty (by decide) (by decide))
        have HB6 : Hid (Below w.heap.size w w6) := Lib.hid (((below_drewN0 (k := nq) HB5.out).alloc hsz5 _).grown hgrow (by simp; omega) (fun i hi => (H1.out.lt i hi).1))
        clear hown' hgrow hnil hty
        go_wp2
        go_roundw
        case rel => exact ⟨k + 1, by omega, by go_num, HL6, HX6, HR6, HB6⟩
        case measure => simp [intOf]; omega
      · have g1 : ((h : Int) == (k : Int)) = false := by
          have := HHK.out
          rw [hd] at this
          rw [beq_eq_false_iff_ne]
          simp at this
          omega
        have HN : Hid (compsK N (gN es) (k + 1) = compsK N (gN es) k) := Lib.hid (by rw [hCS.out, hd]; simp)
        clear hd
        go_wp2_with fail
        go_quiet (fail)
        go_wp2
        go_roundw
        case rel => exact ⟨k + 1, by omega, by go_num, Lib.hid (by rw [HN.out]; exact HL5.out), HX5, HR5, Lib.hid (below_drewN0 HB5.out)⟩
        case measure => simp [intOf]; omega
    · have HN : Hid (RowsL w.heap.size (compsK N (gN es) N) u6 wr) := Lib.hid (by
        have h : k = N := by omega
        exact h ▸ HL.out)
      go_wp2
      go_ret
      exact ⟨_, rfl, HN.out, HB.out⟩

theorem devComponents_any (n : Int) (ad : Option Addr) (cap : Nat) (es : List (Int × Int)) (w : World) (hE : EdgesA w.heap.size w ad es) (hl : es.length ≤ 9223372036854775807) (hcap : es.length ≤ cap) :
    Calls Try.prog 19 #[.int .i64 n, .slice ad es.length cap] w fun e w' => ∃ v, e = .returned v ∧ RowsL w.heap.size (compL n es) v w' ∧ Below w.heap.size w w' := by
  by_cases hc : chkE n es = 0
  · obtain ⟨N, rfl, hN, hl2, hok⟩ := chk_ok hc
    have e : compL (N : Int) es = compsK N (gN es) N := by
      unfold compL
      rw [if_pos hc, Int.toNat_natCast]
    rw [e]
    exact devComponents_ok w.heap.size N ad cap es w hE (Nat.le_refl _) hc hl2 hcap hok (chk_srt hc) hN
  · have e : compL n es = [] := by
      unfold compL
      rw [if_neg hc]
    rw [e]
    have hck := devCheck_any n ad cap es w hE hl
    have hcb : (chkE n es != 0) = true := by simpa using hc
    obtain ⟨c, hce⟩ : ∃ c, chkE n es = c := ⟨_, rfl⟩
    rw [hce] at hck hcb
    have HCK := Lib.hid hck
    clear hE hc hck e hce
    go_enter Try.func19, Try.ntmps19
    go_wp2_with fail
    refine HCK.out.mono ?_
    rintro e w1 ⟨rfl, b1⟩
    have B1 := Lib.hid b1
    clear b1
    go_wp2
    go_ret
    exact ⟨_, rfl, RowsL.nil _ _, B1.out⟩

end Go.Proofs.Ytcggmonnajggcaa
