/-
  The statement DigraphSorted, walked by the contracts of digraph's functions.
-/
import Derived.Test.YtcggmonnajggcaaDigMine
import Derived.Test.YtcggmonnajggcaaDigRanks
namespace Go.Proofs.Ytcggmonnajggcaa
open Go.RowKit Go.Shelf

theorem IntsA.take {n₀ : Nat} {W : World} {ad : Option Addr} {zs : List Int} (h : IntsA n₀ W ad zs) (k : Nat) : IntsA n₀ W ad (zs.take k) := fun j hj => by
  rw [List.length_take] at hj
  obtain ⟨b, off, e, hb, hc⟩ := h j (by omega)
  exact ⟨b, off, e, hb, by rw [hc, List.getElem?_take, if_pos (by omega)]⟩

/-- An edge from a node that does not stand before to node y. -/
def lacks (before : List Int) (y : Int) (z : Int × Int) : Bool := z.2 == y && !before.contains z.1
def freeI (es : List (Int × Int)) (before : List Int) (y : Int) : Bool := !before.contains y && !es.any (lacks before y)

theorem contains_intsOf (l : List Nat) (y : Nat) : (intsOf l).contains (y : Int) = l.contains y := by
  rw [Bool.eq_iff_iff, List.contains_iff_mem, List.contains_iff_mem]
  unfold intsOf
  rw [List.mem_map]
  constructor
  · rintro ⟨a, ha, e⟩
    rw [show y = a by omega]
    exact ha
  · exact fun h => ⟨y, h, rfl⟩
theorem free_eq {N : Nat} {es : List (Int × Int)} (hok : OkE N es) (out : List Nat) (y : Nat) : freeI es (intsOf out) (y : Int) = freeB (gN es) out y := by
  unfold freeI freeB
  rw [contains_intsOf]
  congr 1
  rw [gN, List.all_map]
  induction es with
  | nil => rfl
  | cons e es ih =>
    have ih := ih (fun x hx => hok x (List.mem_cons_of_mem _ hx))
    obtain ⟨h1, h2, h3, h4⟩ := hok e (List.mem_cons_self ..)
    obtain ⟨a, b⟩ := e
    obtain ⟨u, rfl⟩ := Int.eq_ofNat_of_zero_le h1
    obtain ⟨v, rfl⟩ := Int.eq_ofNat_of_zero_le h3
    rw [List.any_cons, List.all_cons, Bool.not_or, ih]
    congr 1
    unfold lacks
    dsimp only [Function.comp]
    rw [contains_intsOf, Int.toNat_natCast, Int.toNat_natCast]
    by_cases e : v = y
    · subst e
      simp
    · have e2 : ((v : Int) == (y : Int)) = false := by rw [beq_eq_false_iff_ne]; omega
      simp [e, e2]

set_option maxRecDepth 100000 in
theorem lacks_any (n₀ By Bb : Nat) (ao : Option Addr) (co : Nat) (before : List Int) (y : Int) (z : Int × Int) (w : World) (hI : IntsA n₀ w ao before) (hn : n₀ ≤ w.heap.size) (hl : before.length ≤ 9223372036854775807) (hy : w.cell? ⟨By, 0, none⟩ = some (.int .i64 y)) (hby : By < w.heap.size) (hb : w.cell? ⟨Bb, 0, none⟩ = some (.slice ao before.length co)) (hbb : Bb < w.heap.size) :
    Calls Try.prog 36 #[.agg (encE z).toArray, .pointer (some ⟨By, 0, none⟩), .pointer (some ⟨Bb, 0, none⟩)] w fun e w' => e = .returned (.bool (lacks before y z)) ∧ Below w.heap.size w w' := by
  obtain ⟨u, v⟩ := z
  have b0 : Below w.heap.size w (w.alloc (.cells #[.int .i64 u, .int .i64 v] 40)) := (Below.refl _ w).alloc (Nat.le_refl _) _
  obtain ⟨w1, hw1⟩ : ∃ w1, w.alloc (.cells #[.int .i64 u, .int .i64 v] 40) = w1 := ⟨_, rfl⟩
  have c0 : w1.cell? ⟨w.heap.size, 0, none⟩ = some (.int .i64 u) := by rw [← hw1]; simp
  have c1 : w1.cell? ⟨w.heap.size, 1, none⟩ = some (.int .i64 v) := by rw [← hw1]; simp
  rw [hw1] at b0
  have H := Lib.hid (hasInt_any n₀ ao co before u w1 (hI.below (b0.mono hn)) hl)
  have B0 := Lib.hid b0
  have d1 := (b0.cell (p := ⟨By, 0, none⟩) hby).trans hy
  have d2 := (b0.cell (p := ⟨Bb, 0, none⟩) hbb).trans hb
  obtain ⟨r, hr⟩ : ∃ r, before.contains u = r := ⟨_, rfl⟩
  rw [hr] at H
  have HR : Hid (lacks before y (u, v) = (v == y && !r)) := Lib.hid (by unfold lacks; rw [hr])
  rw [HR.out]
  clear hI hy hb b0 hr
  unfold encE
  by_cases hv : v = y
  · have t1 : (v == y) = true := by rw [beq_iff_eq]; exact hv
    clear hv
    go_enter Try.func36, Try.ntmps36
    go_wp2_with fail
    refine H.out.mono ?_
    rintro e w2 ⟨rfl, hw2⟩
    rw [hw2]
    go_wp2
    go_ret
    exact ⟨by rw [t1]; rfl, B0.out⟩
  · have t1 : (v == y) = false := by rw [beq_eq_false_iff_ne]; exact hv
    clear hv
    go_enter Try.func36, Try.ntmps36
    go_wp2
    go_ret
    exact ⟨by rw [t1]; rfl, B0.out⟩

theorem noEdgeIx_any (ad : Option Addr) (c f : Nat) (caps : Array Value) (w : World) :
    Calls Try.prog 56 #[.slice ad 0 c, .func (.func f) #[] caps] w fun e w' => e = .returned (.int .i64 (-1)) ∧ w' = w := by
  go_enter Try.func56, Try.ntmps56
  go_wp2
  go_loopw [8] (fun i wr => i = .int .i64 0 ∧ wr = w) (fun _ _ => 0)
  case atStart => exact ⟨rfl, rfl⟩
  case round =>
    obtain ⟨rfl, rfl⟩ := hrel
    go_wp2
    go_ret
    exact ⟨rfl, rfl⟩

set_option maxRecDepth 100000 in
theorem someEdge_any (n₀ : Nat) (ad : Option Addr) (cap g : Nat) (es : List (Int × Int)) (lb : Array Value) (p : Int × Int → Bool) (w : World) (hE : EdgesA n₀ w ad es) (hn : n₀ ≤ w.heap.size) (hl : es.length ≤ 9223372036854775807) (eg : ∀ args w, (callFunc g args).run Try.prog w = .ok (.enter g args) w)
    (hp : PredBelow Try.prog g lb (fun x => .agg (encE x).toArray) p w) :
    Calls Try.prog 35 #[.slice ad es.length cap, .func (.func g) #[] lb] w fun e w' => e = .returned (.bool (es.any p)) ∧ Below w.heap.size w w' := by
  by_cases h1 : es.length = 0
  · have e1 : es = [] := List.eq_nil_of_length_eq_zero h1
    subst e1
    clear hE hp eg h1 hl
    have H := Lib.hid (noEdgeIx_any ad cap g lb w)
    go_enter Try.func35, Try.ntmps35
    go_wp2_with fail
    refine H.out.mono ?_
    rintro e w1 ⟨rfl, rfl⟩
    go_wp2
    go_ret
    exact ⟨rfl, Below.refl _ _⟩
  · obtain ⟨b1, o1, rfl, hbb, c1⟩ := hE.some_ (by omega)
    have h := AnyQ.slices_ContainsFunc Try.someEdge 2 Try.isAgg40 Try.sizeOf40 encE (fun _ => rfl) p g lb eg b1 o1 es.length cap es w hp (Nat.le_refl _) hl (by omega) (enc_cells c1)
    rw [List.take_length] at h
    exact h

set_option maxRecDepth 100000 in
theorem free_any (n₀ Bl Bb : Nat) (ao : Option Addr) (co : Nat) (before : List Int) (y : Int) (ad : Option Addr) (cap : Nat) (es : List (Int × Int)) (w : World) (hI : IntsA n₀ w ao before) (hE : EdgesA n₀ w ad es) (hn : n₀ ≤ w.heap.size) (hl : before.length ≤ 9223372036854775807) (hle : es.length ≤ 9223372036854775807) (hx : w.cell? ⟨Bl, 0, none⟩ = some (.slice ad es.length cap)) (hbl : Bl < w.heap.size) (hb : w.cell? ⟨Bb, 0, none⟩ = some (.slice ao before.length co)) (hbb : Bb < w.heap.size) :
    Calls Try.prog 34 #[.int .i64 y, .pointer (some ⟨Bb, 0, none⟩), .pointer (some ⟨Bl, 0, none⟩)] w fun e w' => e = .returned (.bool (freeI es before y)) ∧ Below w.heap.size w w' := by
  have b0 : Below w.heap.size w (w.alloc (.cells #[.int .i64 y] 3)) := (Below.refl _ w).alloc (Nat.le_refl _) _
  obtain ⟨w1, hw1⟩ : ∃ w1, w.alloc (.cells #[.int .i64 y] 3) = w1 := ⟨_, rfl⟩
  have c0 : w1.cell? ⟨w.heap.size, 0, none⟩ = some (.int .i64 y) := by rw [← hw1]; simp
  have s1 : w1.heap.size = w.heap.size + 1 := by rw [← hw1]; simp
  rw [hw1] at b0
  have I1 := Lib.hid (hI.below (b0.mono hn))
  have H := Lib.hid (hasInt_any n₀ ao co before y w1 I1.out hl)
  have B0 := Lib.hid b0
  have d1 := (b0.cell (p := ⟨Bl, 0, none⟩) hbl).trans hx
  have d2 := (b0.cell (p := ⟨Bb, 0, none⟩) hbb).trans hb
  have hs := b0.size
  have HC := Lib.hid (someEdge_any n₀ ad cap 36 es #[.pointer (some ⟨w.heap.size, 0, none⟩), .pointer (some ⟨Bb, 0, none⟩)] (lacks before y) w1 (hE.below (b0.mono hn)) (by omega) hle (enters_of Try.func36 (by kernel_rfl) rfl) (fun W x hb => by
    have hz := hb.size
    exact (lacks_any n₀ w.heap.size Bb ao co before y x W (I1.out.below (hb.mono (by omega))) (by omega) hl ((hb.cell (p := ⟨w.heap.size, 0, none⟩) (by omega : w.heap.size < w1.heap.size)).trans c0) (by omega) ((hb.cell (p := ⟨Bb, 0, none⟩) (by omega : Bb < w1.heap.size)).trans d2) (by omega)).mono fun e w' h => ⟨h.1, hb.trans (h.2.mono hz)⟩))
  obtain ⟨r, hr⟩ : ∃ r, before.contains y = r := ⟨_, rfl⟩
  obtain ⟨q, hq⟩ : ∃ q, es.any (lacks before y) = q := ⟨_, rfl⟩
  rw [hr] at H
  rw [hq] at HC
  have HR : Hid (freeI es before y = (!r && !q)) := Lib.hid (by unfold freeI; rw [hr, hq])
  rw [HR.out]
  clear hI hx hb b0 hr hq hE hs
  cases r
  · go_enter Try.func34, Try.ntmps34
    go_wp2_with fail
    refine H.out.mono ?_
    rintro e w2 ⟨rfl, hw2⟩
    rw [hw2]
    go_wp2_with fail
    refine HC.out.mono ?_
    rintro e w3 ⟨rfl, b3⟩
    go_wp2
    go_ret
    exact ⟨rfl, B0.out.trans (b3.mono B0.out.size)⟩
  · go_enter Try.func34, Try.ntmps34
    go_wp2_with fail
    refine H.out.mono ?_
    rintro e w2 ⟨rfl, hw2⟩
    rw [hw2]
    go_wp2
    go_ret
    exact ⟨rfl, B0.out⟩

end Go.Proofs.Ytcggmonnajggcaa
