/-
  What the program's ahead of digraph returns, by its closure that calls itself.
-/
import Derived.Laws.EntriesVeiled
import Derived.Test.YtcggmonnajggcaaDevSucc
import Derived.Test.YtcggmonnajggcaaDfsPlain
namespace Go.Proofs.Ytcggmonnajggcaa
open Go.RowKit Go.Shelf
attribute [local go_sem] Oper.semAt_some

theorem grown_weak {a b : World} (h : a.grownBy b none) (r : Option Nat) : a.grownBy b r := ⟨h.os, h.tape, h.output, h.size, fun k hk _ => h.block k hk (by simp)⟩
theorem grown_trans {a b c : World} {r : Option Nat} (h : a.grownBy b r) (k : b.grownBy c r) : a.grownBy c r :=
  ⟨k.os.trans h.os, k.tape.trans h.tape, k.output.trans h.output, Nat.le_trans h.size k.size, fun i hi hne => (k.block i (Nat.lt_of_lt_of_le hi h.size) hne).trans (h.block i hi hne)⟩
/-- What the law's own book-keeping may turn. -/
def RowFar (B : Nat) (A : World) (row : Option Nat) : Prop := ∀ r, row = some r → B ≤ r ∧ ∃ o : Obj, A.heap[r]? = some o ∧ o.isCells = false
theorem cells_far {W W' : World} {row : Option Nat} {B k : Nat} {c : Array Value} {t : TypeId} {fz : Nat × Nat} (h : W.heap[k]? = some (.cells c t fz)) (hg : W.grownBy W' row) (hr : RowFar B W row) : W'.heap[k]? = some (.cells c t fz) := by
  rw [hg.block k (Array.getElem?_eq_some_iff.1 h).1 ?_]
  · exact h
  · intro e
    obtain ⟨_, o, ho, hc⟩ := hr k e.symm
    rw [h] at ho
    cases ho
    simp [Obj.isCells] at hc
theorem grown_far {w A A' : World} {row r : Option Nat} (h : w.grownBy A r) (hg : A.grownBy A' row) (hr : RowFar w.heap.size A row) : w.grownBy A' r :=
  ⟨hg.os.trans h.os, hg.tape.trans h.tape, hg.output.trans h.output, Nat.le_trans h.size hg.size, fun k hk hne => by
    rw [hg.block k (Nat.lt_of_lt_of_le hk h.size) (fun e => by obtain ⟨hB, _⟩ := hr k e.symm; omega)]
    exact h.block k hk hne⟩
theorem own_far {w A : World} {row : Option Nat} {B B0 s n : Nat} {T : TypeId} {v : Value} {xs : List Value} (h : w.ownsRow B T s v n xs) (hg : w.grownBy A row) (hr : RowFar B0 w row) : A.ownsRow B T s v n xs := by
  refine h.kept hg ?_
  rcases h.2 with ⟨rfl, _⟩ | ⟨g, cap, cur, rfl, _, hc, _⟩
  · exact .inl rfl
  · right
    intro e
    obtain ⟨_, o, ho, hcc⟩ := hr g (by rw [← e]; rfl)
    rw [hc] at ho
    cases ho
    simp [Obj.isCells] at hcc
theorem grown_keeps {A A' : World} {B G n : Nat} {T : TypeId} {s c : Nat} {xs : List Value} (hg : A.grownBy A' (some G)) (h : A.ownsRow B T s (.slice (some ⟨G, 0, none⟩) n c) n xs) : KeepsOthers A A' := by
  refine ⟨hg.size, fun k o hk hc => ?_⟩
  rw [hg.block k (Array.getElem?_eq_some_iff.1 hk).1 ?_]
  · exact hk
  · intro e
    cases e
    rcases h.2 with ⟨e, _⟩ | ⟨g, cap, cur, e, _, hgg, _⟩
    · cases e
    · cases e
      rw [hk] at hgg
      cases hgg
      simp [Obj.isCells] at hc
theorem grown_below {A A' : World} {G n₀ : Nat} (hg : A.grownBy A' (some G)) (h : n₀ ≤ G) (hs : n₀ ≤ A.heap.size) : Below n₀ A A' := (Below.refl n₀ A).grown hg hs (fun k e => by cases e; exact h)

/-- The world in which successors has made its two variables. -/
theorem succ_boxes (N u : Nat) (ad : Option Addr) (len cap : Nat) (w : World) : ∃ w2, w2 = (w.alloc (.cells #[.int .i64 (N : Int), .slice ad len cap] 52)).alloc (.cells #[.int .i64 (u : Int)] 3) ∧ w2.heap.size = w.heap.size + 2 ∧
    w2.heap[w.heap.size]? = some (.cells #[.int .i64 (N : Int), .slice ad len cap] 52 (0, 0)) ∧ w2.heap[w.heap.size + 1]? = some (.cells #[.int .i64 (u : Int)] 3 (0, 0)) ∧ w.grownBy w2 none := by
  refine ⟨_, rfl, by simp, (Below.heap_alloc _ _ _ (by simp)).trans (World.alloc_heap_new w _), ?_, grownOf (((Below.refl _ w).alloc (Nat.le_refl _) _).alloc (by simp) _)⟩
  have := World.alloc_heap_new (w.alloc (.cells #[.int .i64 (N : Int), .slice ad len cap] 52)) (.cells #[.int .i64 (u : Int)] 3)
  rwa [World.size_alloc] at this

/-- The closure's variables. -/
structure VisW (N len cap : Nat) (ad : Option Addr) (Bg Bs Bv G B : Nat) (m : List Bool) (W : World) : Prop where
  g : W.heap[Bg]? = some (.cells #[.int .i64 (N : Int), .slice ad len cap] 52 (0, 0))
  s : W.heap[Bs]? = some (.cells #[.slice (some ⟨G, 0, none⟩) N N] 50 (0, 0))
  v : W.heap[Bv]? = some (.cells #[.func (.func 60) #[] #[.pointer (some ⟨Bg, 0, none⟩), .pointer (some ⟨Bs, 0, none⟩), .pointer (some ⟨Bv, 0, none⟩)]] 68 (0, 0))
  m : MarksAt B G N m W
theorem VisW.far {N len cap : Nat} {ad : Option Addr} {Bg Bs Bv G B B0 : Nat} {m : List Bool} {W W' : World} {row : Option Nat} (h : VisW N len cap ad Bg Bs Bv G B m W) (hg : W.grownBy W' row) (hr : RowFar B0 W row) : VisW N len cap ad Bg Bs Bv G B m W' :=
  ⟨cells_far h.g hg hr, cells_far h.s hg hr, cells_far h.v hg hr, own_far h.m hg hr⟩
theorem VisW.grown {N len cap : Nat} {ad : Option Addr} {Bg Bs Bv G B : Nat} {m m' : List Bool} {W W' : World} (h : VisW N len cap ad Bg Bs Bv G B m W) (hg : W.grownBy W' (some G)) (n1 : Bg ≠ G) (n2 : Bs ≠ G) (n3 : Bv ≠ G) (hm : MarksAt B G N m' W') : VisW N len cap ad Bg Bs Bv G B m' W' :=
  ⟨(hg.block _ (Array.getElem?_eq_some_iff.1 h.g).1 (by simpa using n1)).trans h.g, (hg.block _ (Array.getElem?_eq_some_iff.1 h.s).1 (by simpa using n2)).trans h.s, (hg.block _ (Array.getElem?_eq_some_iff.1 h.v).1 (by simpa using n3)).trans h.v, hm⟩

set_option maxRecDepth 100000 in
set_option maxHeartbeats 4000000 in
theorem visit_any (n₀ N : Nat) (ad : Option Addr) (cap : Nat) (es : List (Int × Int)) (Bg Bs Bv G B : Nat) (hl : es.length ≤ 2000) (hcap : es.length ≤ cap) (hok : OkE N es) (hs : SrtN (gN es)) (n1 : Bg ≠ G) (n2 : Bs ≠ G) (n3 : Bv ≠ G) (hG : n₀ ≤ G) :
    ∀ (f u : Nat) (m : List Bool) (w : World), falses m ≤ f → u < N → m.length = N → VisW N es.length cap ad Bg Bs Bv G B m w → EdgesA n₀ w ad es → n₀ ≤ w.heap.size →
    Calls Try.prog 60 #[.int .i64 (u : Int), .pointer (some ⟨Bg, 0, none⟩), .pointer (some ⟨Bs, 0, none⟩), .pointer (some ⟨Bv, 0, none⟩)] w fun e w' => e = .returned (.tuple #[]) ∧ ∃ m', VisW N es.length cap ad Bg Bs Bv G B m' w' ∧ Vis (gN es) u m m' ∧ w.grownBy w' (some G) := by
  intro f
  induction f using Nat.strongRecOn with
  | ind f ih =>
  intro u m w hf hu hml hV hE hn₀
  refine (callsIn_wide (n := 9)).1 ?_
  refine callsIn_of_wp_marks Try.func60 rfl trivial ?_ rfl
  simp only [Try.ntmps60, List.size_toArray, List.length_cons, List.length_nil, Nat.reduceAdd, Nat.reduceSub, Array.replicate_succ, Array.replicate_zero, List.push_toArray, List.append_toArray, List.nil_append, List.cons_append]
  obtain ⟨g1, g2⟩ := box2_cell hV.g
  have HV := Lib.hid hV
  have HIH := Lib.hid ih
  have HE := Lib.hid hE
  clear ih hV hE
  gi_wp2_with (refine ⟨trivial, ?_⟩; gi_at_call 52; refine (callsIn_wide.2 (successors_any N u ad es.length cap _)).mono ?_; rintro e w' ⟨rfl, rfl⟩)
  obtain ⟨w2, hw2, s2, gb, xb, gr⟩ := succ_boxes N u ad es.length cap w
  rw [← hw2]
  clear hw2
  have hV2 : VisW N es.length cap ad Bg Bs Bv G B m w2 := HV.out.far gr (B0 := 0) (fun r e => by cases e)
  have hGl : G < w.heap.size := HV.out.m.lt_size
  refine wpIn_rangeFunc_ownF (w0 := w2) rfl (by omega) (gf := 65) (lb := #[.pointer (some ⟨w.heap.size, 0, none⟩), .pointer (some ⟨w.heap.size + 1, 0, none⟩)]) rfl trivial (enters_of Try.func65 (by kernel_rfl) rfl)
    (succ_stops (9 - 1) (by omega) n₀ w.heap.size (w.heap.size + 1) N u ad cap es hl hcap hok hs w2 gb xb (HE.out.below (grown_below (grown_weak gr _) hG hn₀)) (Nat.le_trans hn₀ gr.size))
    (fun h k => ⟨h.1.trans k.1, k.2.trans h.2⟩) (fun W l o o' hl h h1 h2 => ⟨belowK_b (w := w2) (by omega) W l o o' hl h h1 h2, World.putObj_heap_other (by omega)⟩) (Below.refl _ _) (fun _ => rfl)
    (fun pre W => ∃ m', VisW N es.length cap ad Bg Bs Bv G B m' W ∧ VisLoop (gN es) u m m' (valsS pre) ∧ w2.grownBy W (some G))
    (fun _ _ _ => False)
    (fun s A A' row hs hg hr => by
      obtain ⟨m', h1, h2, h3⟩ := hs
      exact ⟨m', h1.far hg hr, h2, grown_far h3 hg hr⟩)
    (fun _ _ _ _ _ hs _ _ => hs)
    ⟨m, hV2, VisLoop.start _ _ _, grown_weak (grownOf (Below.refl _ _)) _⟩
    (fun x => { tmps := #[.int .i64 (u : Int), .pointer (some ⟨Bg, 0, none⟩), .pointer (some ⟨Bs, 0, none⟩), .pointer (some ⟨Bv, 0, none⟩), undef, .int .i64 (x.1 : Int), gV N ad es.length cap, .int .i64 (u : Int), .func (.func 65) #[] #[.pointer (some ⟨w.heap.size, 0, none⟩), .pointer (some ⟨w.heap.size + 1, 0, none⟩)], .int .i64 (x.1 : Int), undef, undef, undef, undef, undef, undef, undef, undef, undef, undef, undef], defers := [] }) ?assign ?body ?done ?stop
  case assign =>
    intro l x W K hK
    gi_wp2
    exact hK
  case body =>
    rintro l pre x W ⟨m', hVW, hL, hg⟩ hlen
    obtain ⟨y, hy, hmem⟩ := x
    have hml' : m'.length = N := by rw [hL.1.1, hml]
    obtain ⟨bb, hb⟩ : ∃ bb, m'[y]? = some bb := ⟨_, List.getElem?_eq_getElem (by omega)⟩
    have c1 := box_cell hVW.s
    have c2 := hVW.m.cell hy hb
    have c3 := hVW.m.free y
    have c4 := box_cell hVW.v
    have y1 : (y : Int) < (N : Int) := by omega
    cases bb
    · have hst := World.ownsRow.stored hVW.m y (.bool true)
      have hVS := hVW.grown hst.2 n1 n2 n3 (hVW.m.store y true)
      have hf1 := falses_set m' y hb
      have hf2 := falses_mono m m' hL.1.1 hL.1.2.1
      have gS := grown_trans hg hst.2
      have hES := (HE.out.below (grown_below (grown_weak gr _) hG hn₀)).below (grown_below gS hG (Nat.le_trans hn₀ gr.size))
      have IH := Lib.hid (HIH.out (falses (m'.set y true)) (by omega) y (m'.set y true) _ (Nat.le_refl _) hy (by rw [List.length_set]; exact hml') hVS hES (Nat.le_trans hn₀ (Nat.le_trans gr.size gS.size)))
      have c5 := box_cell hVS.v
      have HL := Lib.hid hL
      have HB := Lib.hid hb
      have HG2 := Lib.hid hst.2
      have HV3 := Lib.hid hVW
      have HG := Lib.hid hg
      clear hst hVS hf1 hf2 gS hES hL hb hVW hg
      gi_wp2_with fail
      refine ⟨trivial, ?_⟩
      refine (CallsIn.inRound l (callsIn_wide.2 IH.out)).mono ?_
      rintro e W4 ⟨rfl, m2, v2, k2, q2⟩
      gi_wp2
      have gW := grown_trans HG2.out q2
      have hszW := HG.out.size
      exact ⟨grown_keeps gW HV3.out.m, ⟨grown_below gW hG (by omega), gW.block _ (by omega) (by simp; omega)⟩, m2, v2, by rw [valsS_snoc]; exact HL.out.visit hmem HB.out k2, grown_trans HG.out gW⟩
    · gi_wp2
      exact ⟨KeepsOthers.refl _, ⟨Below.refl _ _, rfl⟩, m', hVW, by rw [valsS_snoc]; exact hL.skip hb, hg⟩
  case done =>
    rintro D xs W hD hx ⟨m', hVW, hL, hg⟩ hK
    gi_wp2
    refine ⟨by simp, .inl ⟨_, _, rfl, run_takeDeferred hK, ?_⟩⟩
    have hgp := grownBy_putObj' W D (.deferred none)
    have hrp : RowFar w2.heap.size W (some D) := fun r e => by cases e; exact ⟨hD, _, hK, rfl⟩
    exact ⟨_, results_none rfl _ _ _, rfl, m', hVW.far hgp hrp, hL.done (fun y hy => by rw [hx]; exact mem_succN.2 hy), grown_trans (grown_weak gr _) (grown_far hg hgp hrp)⟩
  case stop =>
    rintro D c pre W _ _ hf _
    exact hf.elim

set_option maxRecDepth 100000 in
set_option maxHeartbeats 4000000 in
theorem ahead_any (n₀ N u : Nat) (ad : Option Addr) (cap : Nat) (es : List (Int × Int)) (w : World) (hl : es.length ≤ 2000) (hcap : es.length ≤ cap) (hok : OkE N es) (hs : SrtN (gN es)) (hN : N ≤ 200) (hu : u < N) (hE : EdgesA n₀ w ad es) (hn₀ : n₀ ≤ w.heap.size) :
    Calls Try.prog 41 #[gV N ad es.length cap, .int .i64 (u : Int)] w fun e w' => ∃ G, e = .returned (.slice (some ⟨G, 0, none⟩) N N) ∧ MarksAt w.heap.size G N (aheadB N (gN es) u) w' ∧ Below w.heap.size w w' := by
  obtain ⟨i0, hi, hz0, hz1, hz2⟩ := info_parts infoBool
  have HE := Lib.hid (hE.below (Below.mono (Below.refl _ _) (Nat.le_refl _)))
  have HOK := Lib.hid hok
  have HS := Lib.hid hs
  clear hE hok hs
  go_enter Try.func41, Try.ntmps41
  go_wp2_with (at_make; refine wpList_make_full _ rfl (.tmp 8) (.tmp 8) 50 rfl w.heap.size TBool i0 (.bool false) 1 Try.underlying50 hi hz0 hz1 .i64 .i64 _ _ N rfl rfl rfl rfl (by rw [hz2]; omega) (by unfold maxLen; omega) (by simp) ?_)
  intro w1 ho1 hg1
  rw [madeFalse] at ho1
  have m1 : MarksAt w.heap.size (w.heap.size + 1) N (List.replicate N false) w1 := by exact ho1
  have lt1 := m1.lt_size
  have HW3 : Hid (VisW N es.length cap ad w.heap.size w1.heap.size (w1.heap.size + 1) (w.heap.size + 1) w.heap.size (List.replicate N false)
      ((w1.alloc (.cells #[.slice (some ⟨w.heap.size + 1, 0, none⟩) N N] 50)).alloc (.cells #[.func (.func 60) #[] #[.pointer (some ⟨w.heap.size, 0, none⟩), .pointer (some ⟨w1.heap.size, 0, none⟩), .pointer (some ⟨w1.heap.size + 1, 0, none⟩)]] 68))) := Lib.hid (by
    refine ⟨?_, ?_, ?_, (m1.alloc _).alloc _⟩
    · rw [Below.heap_alloc _ _ _ (by simp; omega), Below.heap_alloc _ _ _ (by omega), hg1.block _ (by simp) (by simp)]
      exact World.alloc_heap_new w _
    · rw [Below.heap_alloc _ _ _ (by simp)]
      exact World.alloc_heap_new w1 _
    · have := World.alloc_heap_new (w1.alloc (.cells #[.slice (some ⟨w.heap.size + 1, 0, none⟩) N N] 50)) (.cells #[.func (.func 60) #[] #[.pointer (some ⟨w.heap.size, 0, none⟩), .pointer (some ⟨w1.heap.size, 0, none⟩), .pointer (some ⟨w1.heap.size + 1, 0, none⟩)]] 68)
      rwa [World.size_alloc] at this)
  have HB3 : Hid (Below w.heap.size w
      ((w1.alloc (.cells #[.slice (some ⟨w.heap.size + 1, 0, none⟩) N N] 50)).alloc (.cells #[.func (.func 60) #[] #[.pointer (some ⟨w.heap.size, 0, none⟩), .pointer (some ⟨w1.heap.size, 0, none⟩), .pointer (some ⟨w1.heap.size + 1, 0, none⟩)]] 68))) := Lib.hid (by
    refine (((((Below.refl _ w).alloc (Nat.le_refl _) _).grown hg1 (by simp) (fun j hj => by cases hj)).alloc ?_ _).alloc ?_ _)
    · omega
    · simp; omega)
  have HV := Lib.hid (visit_any n₀ N ad cap es w.heap.size w1.heap.size (w1.heap.size + 1) (w.heap.size + 1) w.heap.size hl hcap HOK.out HS.out (by omega) (by omega) (by omega) (by omega) (falses (List.replicate N false)) u (List.replicate N false) _ (Nat.le_refl _) hu (by simp) HW3.out (HE.out.below (HB3.out.mono hn₀)) (Nat.le_trans hn₀ HB3.out.size))
  clear m1 ho1 hg1
  go_wp2_with fail
  refine HV.out.mono ?_
  rintro e w4 ⟨rfl, m', v4, k4, q4⟩
  have c4 := box_cell v4.s
  have HEQ : Hid (m' = aheadB N (gN es) u) := Lib.hid (k4.eq (fun x hx => by
    obtain ⟨y, hy, rfl⟩ := List.mem_map.1 hx
    have := HOK.out y hy
    simp only []
    omega))
  have HV4 := Lib.hid v4
  have HQ4 := Lib.hid q4
  clear v4 k4 q4 HW3 HV
  go_wp2
  go_ret
  exact ⟨_, rfl, HEQ.out ▸ HV4.out.m, HB3.out.trans ((Below.refl _ _).grown HQ4.out HB3.out.size (fun k e => by cases e; omega))⟩

end Go.Proofs.Ytcggmonnajggcaa
