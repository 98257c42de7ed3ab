/-
  What the reference's reached, marked and Reach of digraph return.
-/
import Derived.Test.YtcggmonnajggcaaGraph
import Derived.Test.YtcggmonnajggcaaGraphPlain
import Derived.Deep.LoopGhost
namespace Go.Proofs.Ytcggmonnajggcaa
open Go.RowKit

abbrev TBool : TypeId := 4
theorem infoBool : (Try.prog.info? TBool).map (fun i => (i.zero, i.size, i.bytes)) = some (some (.bool false), 1, 1) := by kernel_rfl

/-- All ends of edges are nodes. -/
def OkE (N : Nat) (es : List (Int × Int)) : Prop := ∀ e ∈ es, 0 ≤ e.1 ∧ e.1 < N ∧ 0 ≤ e.2 ∧ e.2 < N
def gN (es : List (Int × Int)) : List (Nat × Nat) := es.map fun e => (e.1.toNat, e.2.toNat)
theorem OkE.at_ {N : Nat} {es : List (Int × Int)} (h : OkE N es) {k : Nat} (hk : k < es.length) : ∃ u v : Nat, es[k]?.getD (0, 0) = ((u : Int), (v : Int)) ∧ u < N ∧ v < N ∧ (gN es)[k]? = some (u, v) := by
  have hm : es[k] ∈ es := List.getElem_mem hk
  obtain ⟨h1, h2, h3, h4⟩ := h _ hm
  refine ⟨es[k].1.toNat, es[k].2.toNat, ?_, by omega, by omega, ?_⟩
  · rw [List.getElem?_eq_getElem hk]
    simp only [Option.getD_some]
    apply Prod.ext <;> simp only [] <;> omega
  · simp [gN, hk]

/-- The marks m in a row of the call's own. -/
def MarksAt (B G N : Nat) (m : List Bool) (W : World) : Prop := W.ownsRow B TBool 1 (.slice (some ⟨G, 0, none⟩) N N) N (m.map Value.bool)

theorem MarksAt.cell {B G N : Nat} {m : List Bool} {W : World} (h : MarksAt B G N m W) {j : Nat} {b : Bool} (hj : j < N) (hb : m[j]? = some b) : W.cell? ⟨G, j, none⟩ = some (.bool b) := by
  rw [World.ownsRow.cellAt h j (by omega), List.getElem?_map, hb]
  rfl
theorem MarksAt.free {B G N : Nat} {m : List Bool} {W : World} (h : MarksAt B G N m W) (j : Nat) : W.frozen? ⟨G, j, none⟩ = false := World.ownsRow.frozenAt h j
theorem MarksAt.store {B G N : Nat} {m : List Bool} {W : World} (h : MarksAt B G N m W) (j : Nat) (b : Bool) : MarksAt B G N (m.set j b) (W.setCell ⟨G, j, none⟩ (.bool b)) := by
  have := (World.ownsRow.stored h j (.bool b)).1
  unfold MarksAt
  rw [List.map_set]
  exact this
theorem madeFalse (N : Nat) : (madeCells #[Value.bool false] N).toList = (List.replicate N false).map Value.bool := by
  rw [toList_madeCells_one]
  simp

/-- What a sweep has done up to edge k, since the marks were m₀; b: it has set a mark. -/
def Sweep (N s : Nat) (g : List (Nat × Nat)) (m₀ m : List Bool) (b : Bool) (k : Nat) : Prop :=
  MarkInv N g s m ∧ falses m ≤ falses m₀ ∧ (b = true → falses m < falses m₀) ∧ (b = false → ∀ j, j < k → ∀ e, g[j]? = some e → m[e.1]? = some true → m[e.2]? = some true)
theorem Sweep.start {N s : Nat} {g : List (Nat × Nat)} {m : List Bool} (h : MarkInv N g s m) : Sweep N s g m m false 0 := ⟨h, Nat.le_refl _, by simp, fun _ j hj => absurd hj (by omega)⟩
theorem Sweep.skip {N s : Nat} {g : List (Nat × Nat)} {m₀ m : List Bool} {b : Bool} {k u v : Nat} (h : Sweep N s g m₀ m b k) (he : g[k]? = some (u, v)) (hx : m[u]? = some true → m[v]? = some true) : Sweep N s g m₀ m b (k + 1) := by
  obtain ⟨h1, h2, h3, h4⟩ := h
  refine ⟨h1, h2, h3, fun hb j hj e hje => ?_⟩
  by_cases e1 : j = k
  · subst e1
    rw [he] at hje
    cases hje
    exact hx
  · exact h4 hb j (by omega) e hje
theorem Sweep.mark {N s : Nat} {g : List (Nat × Nat)} {m₀ m : List Bool} {b : Bool} {k u v : Nat} (h : Sweep N s g m₀ m b k) (he : g[k]? = some (u, v)) (hu : m[u]? = some true) (hv : m[v]? = some false) (hvN : v < N) : Sweep N s g m₀ (m.set v true) true (k + 1) := by
  obtain ⟨h1, h2, h3, h4⟩ := h
  have hf := falses_set m v hv
  exact ⟨h1.set (List.mem_of_getElem? he) hu hvN, by omega, fun _ => by omega, by simp⟩
theorem Sweep.closed {N s : Nat} {g : List (Nat × Nat)} {m₀ m : List Bool} (h : Sweep N s g m₀ m false g.length) : ClosedB g m := by
  intro e he
  obtain ⟨j, hj, hje⟩ := List.getElem_of_mem he
  exact h.2.2.2 rfl j hj e (by rw [List.getElem?_eq_getElem hj, hje])
theorem gN_length (es : List (Int × Int)) : (gN es).length = es.length := by simp [gN]
/-- The number that falls from sweep to sweep. -/
def left (m : List Bool) (b : Bool) : Nat := 2 * falses m + if b then 1 else 0

set_option maxRecDepth 100000 in
set_option maxHeartbeats 4000000 in
theorem reached_any (n₀ N s : Nat) (ad : Option Addr) (cap : Nat) (es : List (Int × Int)) (w : World) (hE : EdgesA n₀ w ad es) (hn₀ : n₀ ≤ w.heap.size) (hl : es.length ≤ 2000) (hN : N ≤ 200) (hs : s < N) (hok : OkE N es) :
    Calls Try.prog 45 #[.int .i64 (N : Int), .slice ad es.length cap, .int .i64 (s : Int)] w fun e w' => e = .returned (.slice (some ⟨w.heap.size, 0, none⟩) N N) ∧ MarksAt w.heap.size w.heap.size N (reachB N (gN es) s) w' ∧ Below w.heap.size w w' := by
  obtain ⟨i0, hi, hz0, hz1, hz2⟩ := info_parts infoBool
  have HE := Lib.hid (hE.mono hn₀)
  have HOK := Lib.hid hok
  clear hE hok hn₀
  go_enter Try.func45, Try.ntmps45
  go_wp2_with (at_make; refine wpList_make_full _ rfl (.tmp 10) (.tmp 10) 50 rfl w.heap.size TBool i0 (.bool false) 1 Try.underlying50 hi hz0 hz1 .i64 .i64 _ _ N rfl rfl rfl rfl (by rw [hz2]; omega) (by unfold maxLen; omega) (Nat.le_refl _) ?_)
  intro w1 ho1 hg1
  rw [madeFalse] at ho1
  have c1 : Below w.heap.size w w1 := (Below.refl _ w).grown hg1 (Nat.le_refl _) (fun j hj => by cases hj)
  have m1 : MarksAt w.heap.size w.heap.size N (List.replicate N false) w1 := ho1
  have q0 : w1.cell? ⟨w.heap.size, s, none⟩ = some (.bool false) := m1.cell hs (by simp [hs])
  have q1 := m1.free s
  have m2 := m1.store s true
  have c2 := c1.setCell (p := ⟨w.heap.size, s, none⟩) (Nat.le_refl _) (.bool true)
  have HM2 := Lib.hid m2
  have hsN : (s : Int) < (N : Int) := by omega
  clear ho1 hg1 m1 m2 c1
  go_wp2
  clear q0 q1 hsN
  go_loopg [8] (left ((List.replicate N false).set s true) true) (fun g a wr => ∃ (m : List Bool) (b : Bool), a = .bool b ∧ g = left m b ∧ Hid (MarkInv N (gN es) s m) ∧ Hid (b = false → ClosedB (gN es) m) ∧ Hid (MarksAt w.heap.size w.heap.size N m wr) ∧ Below w.heap.size w wr)
  case atStart => exact ⟨_, true, rfl, rfl, Lib.hid (MarkInv.start hs), Lib.hid (by simp), HM2, c2⟩
  case round =>
    obtain ⟨m0, b, rfl, rfl, HI, HC, HM, hb⟩ := hrel
    cases b
    · have HR : Hid (m0 = reachB N (gN es) s) := Lib.hid (HI.out.eq (HC.out rfl))
      go_wp2
      go_ret
      refine ⟨rfl, ?_, hb⟩
      rw [← HR.out]
      exact HM.out
    · go_wp2
      go_loopw [8, 9] (fun a i wr => ∃ (k : Nat) (m : List Bool) (b : Bool), k ≤ es.length ∧ i = .int .i64 k ∧ a = .bool b ∧ Hid (Sweep N s (gN es) m0 m b k) ∧ Hid (MarksAt w.heap.size w.heap.size N m wr) ∧ Below w.heap.size w wr) (fun _ i _ => es.length - (intOf i).toNat)
      case atStart => exact ⟨0, m0, false, Nat.zero_le _, rfl, rfl, Lib.hid (Sweep.start HI.out), HM, hb⟩
      case round =>
        obtain ⟨k, m, b, hk, rfl, rfl, HS, HM, hb⟩ := hrel
        by_cases hlt : k < es.length
        · obtain ⟨bl, off, rfl, hbb, hc⟩ := HE.out.some_ (by omega)
          obtain ⟨d1, d2⟩ := hc k hlt
          obtain ⟨u, v, he, hu, hv, hge⟩ := HOK.out.at_ hlt
          rw [he] at d1 d2
          have c1 := (hb.cell (p := ⟨bl, off + k * 2, none⟩) hbb).trans d1
          have c2 := (hb.cell (p := ⟨bl, off + k * 2 + 1, none⟩) hbb).trans d2
          simp only [] at c1 c2
          have hml := HS.out.1.1
          obtain ⟨x, hx⟩ : ∃ x, m[u]? = some x := ⟨_, List.getElem?_eq_getElem (by omega)⟩
          obtain ⟨y, hy⟩ : ∃ y, m[v]? = some y := ⟨_, List.getElem?_eq_getElem (by omega)⟩
          have c3 := HM.out.cell hu hx
          have c4 := HM.out.cell hv hy
          have c5 := HM.out.free v
          have u0 : (u : Int) < (N : Int) := by omega
          have v0 : (v : Int) < (N : Int) := by omega
          clear hc d1 d2 he hml
          cases x
          · -- the first end is not marked
            have HN := Lib.hid (HS.out.skip hge (fun h => by rw [hx] at h; cases h))
            clear hge hx hy
            go_wp2
            go_roundw
            case rel => exact ⟨k + 1, m, b, by omega, by go_num, rfl, HN, HM, hb⟩
            case measure => simp [intOf]; omega
          · cases y
            · have HN := Lib.hid (HS.out.mark hge hx hy hv)
              have HM2 := Lib.hid (HM.out.store v true)
              have hb2 := hb.setCell (p := ⟨w.heap.size, v, none⟩) (Nat.le_refl _) (.bool true)
              clear hge hx hy
              go_wp2
              go_roundw
              case rel => exact ⟨k + 1, m.set v true, true, by omega, by go_num, rfl, HN, HM2, hb2⟩
              case measure => simp [intOf]; omega
            · -- both are
              have HN := Lib.hid (HS.out.skip hge (fun _ => hy))
              clear hge hx hy
              go_wp2
              go_roundw
              case rel => exact ⟨k + 1, m, b, by omega, by go_num, rfl, HN, HM, hb⟩
              case measure => simp [intOf]; omega
        · obtain ⟨rfl⟩ : k = es.length := by omega
          have HN : Hid (left m b < left m0 true) := Lib.hid (by
            obtain ⟨_, h2, h3, _⟩ := HS.out
            unfold left
            cases b
            · simp; omega
            · have := h3 rfl
              simp
              omega)
          have HCL : Hid (b = false → ClosedB (gN es) m) := Lib.hid (fun e => by subst e; exact Sweep.closed (by rw [gN_length]; exact HS.out))
          have HIN := Lib.hid HS.out.1
          go_wp2
          go_roundg (left m b)
          case measure => exact HN.out
          case rel => exact ⟨m, b, rfl, rfl, HIN, HCL, HM, hb⟩

end Go.Proofs.Ytcggmonnajggcaa
