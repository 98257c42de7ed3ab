/-
  What the reference's SameInts, SameLists, Has and Same of partialorder return; the statements' great and within.
-/
import Derived.Laws.StructEq
import Derived.Test.YtbfeiegjhcjbnaaMem4
namespace Go.Proofs.Ytbfeiegjhcjbnaa
open Go.RowKit

set_option maxRecDepth 100000 in
set_option maxHeartbeats 1000000 in
theorem sameInts_any (n m : Nat) (a b : Option Addr) (c d : Nat) (za zb : List Int) (w : World) (ha : IntsA n w a za) (hb : IntsA m w b zb) (hla : za.length ≤ 9223372036854775807) (hlb : zb.length ≤ 9223372036854775807) :
    Calls Try.prog 27 #[.slice a za.length c, .slice b zb.length d] w fun e w' => e = .returned (.bool (decide (za = zb))) ∧ ∃ q, w' = w.drewN q := by
  by_cases hl : za.length = zb.length
  · have hne : ((za.length : Int) != (zb.length : Int)) = false := by rw [hl]; simp
    have HL := Lib.hid hl
    have hsz : zb.length ≤ za.length := by omega
    by_cases h0 : za.length = 0
    · have e1 : za = [] := List.eq_nil_of_length_eq_zero h0
      have e2 : zb = [] := List.eq_nil_of_length_eq_zero (by omega)
      subst e1; subst e2
      clear hl hne ha hb
      go_enter Try.func27, Try.ntmps27
      go_wp2
      go_loopw [5] (fun i wr => i = .int .i64 0 ∧ wr = w) (fun _ _ => 0)
      case atStart => exact ⟨rfl, rfl⟩
      case round =>
        obtain ⟨rfl, rfl⟩ := hrel
        go_wp2
        go_ret
        exact ⟨rfl, 0, rfl⟩
    · obtain ⟨b1, o1, rfl, _, hc1⟩ := ha.some_ (by omega)
      obtain ⟨b2, o2, rfl, _, hc2⟩ := hb.some_ (by omega)
      have H1 := Lib.hid hc1
      have H2 := Lib.hid hc2
      clear hl ha hb hc1 hc2 h0
      go_enter Try.func27, Try.ntmps27
      go_wp2
      go_loopw [5] (fun i wr => ∃ k q : Nat, k ≤ za.length ∧ i = .int .i64 k ∧ wr = w.drewN q ∧ Hid (∀ j, j < k → za[j]?.getD 0 = zb[j]?.getD 0)) (fun i _ => za.length - (intOf i).toNat)
      case atStart => exact ⟨0, 0, Nat.zero_le _, rfl, rfl, Lib.hid (by omega)⟩
      case round =>
        obtain ⟨k, q, hk, rfl, rfl, HK⟩ := hrel
        by_cases hlt : k < za.length
        · have hkb : k < zb.length := by have := HL.out; omega
          have x1 : w.cell? ⟨b1, o1 + k, none⟩ = some (.int .i64 (za[k]?.getD 0)) := H1.out k hlt
          have x2 : w.cell? ⟨b2, o2 + k, none⟩ = some (.int .i64 (zb[k]?.getD 0)) := H2.out k hkb
          obtain ⟨x, hx⟩ : ∃ x, za[k]?.getD 0 = x := ⟨_, rfl⟩
          obtain ⟨y, hy⟩ : ∃ y, zb[k]?.getD 0 = y := ⟨_, rfl⟩
          rw [hx] at x1
          rw [hy] at x2
          have hkI : (k : Int) < (za.length : Int) := by omega
          have hkJ : (k : Int) < (zb.length : Int) := by omega
          have hk0 : (0 : Int) ≤ (k : Int) := by omega
          have HX := Lib.hid hx
          have HY := Lib.hid hy
          clear hx hy
          by_cases hxy : x = y
          · have hb' : (x != y) = false := by simp [hxy]
            have HXY := Lib.hid hxy
            clear hxy
            go_wp2
            go_quiet (fail)
            go_wp2
            go_roundw
            case rel =>
              refine ⟨k + 1, _, by omega, by go_num, rfl, Lib.hid ?_⟩
              intro j hj
              by_cases hjk : j = k
              · rw [hjk, HX.out, HY.out]; exact HXY.out
              · exact HK.out j (by omega)
            case measure => simp [intOf]; omega
          · have hb' : (x != y) = true := by simp [hxy]
            have hd : decide (za = zb) = false := by
              rw [decide_eq_false_iff_not]
              rintro rfl
              exact hxy (HX.out.symm.trans HY.out)
            have HDD := Lib.hid hd
            clear hxy hd
            go_wp2
            go_quiet (fail)
            go_wp2
            go_ret
            rw [HDD.out]
            exact ⟨rfl, _, World.drewN_drewN _ _ _⟩
        · have hd : decide (za = zb) = true := by
            rw [decide_eq_true_eq]
            exact list_ext_take za zb HL.out (fun j hj => HK.out j (by omega))
          have HDD := Lib.hid hd
          clear hd
          go_wp2
          go_ret
          rw [HDD.out]
          exact ⟨rfl, _, rfl⟩
  · have hne : ((za.length : Int) != (zb.length : Int)) = true := by rw [bne_iff_ne]; omega
    have hd : decide (za = zb) = false := by
      rw [decide_eq_false_iff_not]
      rintro rfl
      exact hl rfl
    rw [hd]
    clear hl ha hb hd
    go_enter Try.func27, Try.ntmps27
    go_wp2
    go_ret
    exact ⟨rfl, 0, rfl⟩

/-! ### Lists of lists -/

def elL (ll : List (List Int)) (i : Nat) : List Int := ll[i]?.getD []
/-- A slice's address leads to the lists ll, all in blocks below n. -/
def ListsA (n : Nat) (W : World) (ad : Option Addr) (ll : List (List Int)) : Prop :=
  ∀ i, i < ll.length → ∃ b off a c, ad = some ⟨b, off, none⟩ ∧ b < n ∧ W.cell? ⟨b, off + i, none⟩ = some (.slice a (elL ll i).length c) ∧ IntsA n W a (elL ll i) ∧ (elL ll i).length ≤ 9223372036854775807
theorem ListsA.below {n : Nat} {A B : World} (h : Below n A B) {ad : Option Addr} {ll : List (List Int)} (hI : ListsA n A ad ll) : ListsA n B ad ll := fun i hi => by
  obtain ⟨b, off, a, c, e, hb, hc, hA, hl⟩ := hI i hi
  exact ⟨b, off, a, c, e, hb, (h.cell (p := ⟨b, off + i, none⟩) hb).trans hc, hA.below h, hl⟩
theorem ListsA.mono {n m : Nat} {A : World} (hnm : n ≤ m) {ad : Option Addr} {ll : List (List Int)} (hI : ListsA n A ad ll) : ListsA m A ad ll := fun i hi => by
  obtain ⟨b, off, a, c, e, hb, hc, hA, hl⟩ := hI i hi
  exact ⟨b, off, a, c, e, by omega, hc, hA.mono hnm, hl⟩
theorem IntsA.drewN {n q : Nat} {W : World} {ad : Option Addr} {zs : List Int} (h : IntsA n W ad zs) : IntsA n (W.drewN q) ad zs := h
theorem lists_ext (a b : List (List Int)) (h : a.length = b.length) (hh : ∀ j, j < a.length → elL a j = elL b j) : a = b := by
  apply List.ext_getElem h
  intro i h1 h2
  have := hh i h1
  unfold elL at this
  simpa [h1, h2] using this

set_option maxRecDepth 100000 in
set_option maxHeartbeats 2000000 in
theorem sameLists_any (n m : Nat) (a b : Option Addr) (c d : Nat) (la lb : List (List Int)) (w : World) (ha : ListsA n w a la) (hb : ListsA m w b lb) (hla : la.length ≤ 9223372036854775807) (hlb : lb.length ≤ 9223372036854775807) :
    Calls Try.prog 30 #[.slice a la.length c, .slice b lb.length d] w fun e w' => e = .returned (.bool (decide (la = lb))) ∧ ∃ q, w' = w.drewN q := by
  by_cases hl : la.length = lb.length
  · have hne : ((la.length : Int) != (lb.length : Int)) = false := by rw [hl]; simp
    have HL := Lib.hid hl
    have H1 := Lib.hid ha
    have H2 := Lib.hid hb
    clear hl ha hb
    go_enter Try.func30, Try.ntmps30
    go_wp2
    go_loopw [5] (fun i wr => ∃ k q : Nat, k ≤ la.length ∧ i = .int .i64 k ∧ wr = w.drewN q ∧ Hid (∀ j, j < k → elL la j = elL lb j)) (fun i _ => la.length - (intOf i).toNat)
    case atStart => exact ⟨0, 0, Nat.zero_le _, rfl, rfl, Lib.hid (by omega)⟩
    case round =>
      obtain ⟨k, q, hk, rfl, rfl, HK⟩ := hrel
      by_cases hlt : k < la.length
      · have hkb : k < lb.length := by have := HL.out; omega
        obtain ⟨b1, o1, a1, c1, rfl, _, x1, i1, l1⟩ := H1.out k hlt
        obtain ⟨b2, o2, a2, c2, rfl, _, x2, i2, l2⟩ := H2.out k hkb
        obtain ⟨x, hx⟩ : ∃ x, elL la k = x := ⟨_, rfl⟩
        obtain ⟨y, hy⟩ : ∃ y, elL lb k = y := ⟨_, rfl⟩
        rw [hx] at x1 i1 l1
        rw [hy] at x2 i2 l2
        obtain ⟨wq, hwq⟩ : ∃ wq, w.drewN q = wq := ⟨_, rfl⟩
        have y1 : wq.cell? ⟨b1, o1 + k, none⟩ = some (.slice a1 x.length c1) := by rw [← hwq]; exact x1
        have y2 : wq.cell? ⟨b2, o2 + k, none⟩ = some (.slice a2 y.length c2) := by rw [← hwq]; exact x2
        have j1 : IntsA n wq a1 x := by rw [← hwq]; exact i1
        have j2 : IntsA m wq a2 y := by rw [← hwq]; exact i2
        rw [hwq]
        have HW := Lib.hid hwq
        clear x1 x2 i1 i2 hwq
        have hkI : (k : Int) < (la.length : Int) := by omega
        have hkJ : (k : Int) < (lb.length : Int) := by omega
        have hk0 : (0 : Int) ≤ (k : Int) := by omega
        have HX := Lib.hid hx
        have HY := Lib.hid hy
        by_cases hxy : x = y
        · have hd : decide (x = y) = true := by simp [hxy]
          have HC : Hid (∀ q', Calls Try.prog 27 #[.slice a1 x.length c1, .slice a2 y.length c2] (wq.drewN q') fun e w' => e = .returned (.bool true) ∧ ∃ r, w' = (wq.drewN q').drewN r) := Lib.hid (fun q' => by
            have := sameInts_any n m a1 a2 c1 c2 x y (wq.drewN q') j1.drewN j2.drewN l1 l2
            rwa [hd] at this)
          have HXY := Lib.hid hxy
          clear hx hy hxy hd j1 j2
          go_wp2_with fail
          go_quiet ((go_at_call 27; exact Calls.quiet_of (HC.out _)))
          go_wp2
          go_roundw
          case rel =>
            refine ⟨k + 1, q + nq, by omega, by go_num, by rw [← HW.out, World.drewN_drewN], Lib.hid ?_⟩
            intro j hj
            by_cases hjk : j = k
            · rw [hjk, HX.out, HY.out]; exact HXY.out
            · exact HK.out j (by omega)
          case measure => simp [intOf]; omega
        · have hd : decide (x = y) = false := by simp [hxy]
          have HC : Hid (∀ q', Calls Try.prog 27 #[.slice a1 x.length c1, .slice a2 y.length c2] (wq.drewN q') fun e w' => e = .returned (.bool false) ∧ ∃ r, w' = (wq.drewN q').drewN r) := Lib.hid (fun q' => by
            have := sameInts_any n m a1 a2 c1 c2 x y (wq.drewN q') j1.drewN j2.drewN l1 l2
            rwa [hd] at this)
          have HDD : Hid (decide (la = lb) = false) := Lib.hid (by
            rw [decide_eq_false_iff_not]
            rintro rfl
            exact hxy (hx.symm.trans hy))
          clear hx hy hxy hd j1 j2
          go_wp2_with fail
          go_quiet ((go_at_call 27; exact Calls.quiet_of (HC.out _)))
          go_wp2
          go_ret
          rw [HDD.out]
          exact ⟨rfl, q + nq, by rw [← HW.out, World.drewN_drewN]⟩
      · have HDD : Hid (decide (la = lb) = true) := Lib.hid (by
          rw [decide_eq_true_eq]
          exact lists_ext la lb HL.out (fun j hj => HK.out j (by omega)))
        go_wp2
        go_ret
        rw [HDD.out]
        exact ⟨rfl, _, rfl⟩
  · have hne : ((la.length : Int) != (lb.length : Int)) = true := by rw [bne_iff_ne]; omega
    have HDD : Hid (decide (la = lb) = false) := Lib.hid (by
      rw [decide_eq_false_iff_not]
      rintro rfl
      exact hl rfl)
    clear hl ha hb
    go_enter Try.func30, Try.ntmps30
    go_wp2
    go_ret
    rw [HDD.out]
    exact ⟨rfl, 0, rfl⟩

/-! ### Edges -/

def hasE (es : List (Int × Int)) (x y : Int) : Bool := es.any fun e => e.1 == x && e.2 == y
theorem hasE_snoc (es : List (Int × Int)) (e : Int × Int) (x y : Int) : hasE (es ++ [e]) x y = (hasE es x y || (e.1 == x && e.2 == y)) := by simp [hasE]
theorem hasE_of_take {es : List (Int × Int)} {k : Nat} {x y : Int} (h : hasE (es.take k) x y = true) : hasE es x y = true := by
  unfold hasE at *
  rw [List.any_eq_true] at *
  obtain ⟨e, he, h⟩ := h
  exact ⟨e, List.mem_of_mem_take he, h⟩

set_option maxHeartbeats 1000000 in
theorem has_any (n₀ : Nat) (ad : Option Addr) (cap : Nat) (es : List (Int × Int)) (x y : Int) (w : World) (hE : EdgesA n₀ w ad es) (hl : es.length ≤ 9223372036854775807) :
    Calls Try.prog 34 #[.slice ad es.length cap, .int .i64 x, .int .i64 y] w fun e w' => e = .returned (.bool (hasE es x y)) ∧ w' = w := by
  have HE := Lib.hid hE
  clear hE
  go_enter Try.func34, Try.ntmps34
  go_wp2
  go_loop [7] (fun i => ∃ k : Nat, k ≤ es.length ∧ i = .int .i64 k ∧ Hid (hasE (es.take k) x y = false)) (fun i => es.length - (intOf i).toNat)
  case atStart => exact ⟨0, Nat.zero_le _, rfl, Lib.hid rfl⟩
  case round =>
    obtain ⟨k, hk, rfl, HH⟩ := hrel
    by_cases hlt : k < es.length
    · obtain ⟨b, off, rfl, _, hc⟩ := HE.out.some_ (by omega)
      obtain ⟨c1, c2⟩ := hc k hlt
      have HS := Lib.hid (take_snocE es k hlt)
      obtain ⟨⟨u, v⟩, hx⟩ : ∃ e, es[k]?.getD (0, 0) = e := ⟨_, rfl⟩
      rw [hx] at c1 c2 HS
      simp only [] at c1 c2
      clear hc hx
      by_cases hx1 : u = x
      · by_cases hy1 : v = y
        · have HT : Hid (hasE es x y = true) := Lib.hid (hasE_of_take (k := k + 1) (by rw [HS.out, hasE_snoc]; simp [hx1, hy1]))
          have hb : (v == y) = true := by simpa using hy1
          have hb1 : (u == x) = true := by simpa using hx1
          clear hx1 hy1
          go_wp2
          go_ret
          rw [HT.out]
          exact ⟨rfl, rfl⟩
        · have hb : (v == y) = false := by simpa using hy1
          have hb1 : (u == x) = true := by simpa using hx1
          clear hx1 hy1
          go_wp2
          go_round
          case rel => exact ⟨k + 1, by omega, by go_num, Lib.hid (by rw [HS.out, hasE_snoc, HH.out]; simp [hb])⟩
          case measure => simp [intOf]; omega
      · have hb1 : (u == x) = false := by simpa using hx1
        clear hx1
        go_wp2
        go_round
        case rel => exact ⟨k + 1, by omega, by go_num, Lib.hid (by rw [HS.out, hasE_snoc, HH.out]; simp [hb1])⟩
        case measure => simp [intOf]; omega
    · have HH2 : Hid (hasE es x y = false) := Lib.hid (by have := HH.out; rwa [List.take_of_length_le (by omega)] at this)
      go_wp2
      go_ret
      rw [HH2.out]
      exact ⟨rfl, rfl⟩


/-- An edge's two cells. -/
def encE (x : Int × Int) : List Value := [.int .i64 x.1, .int .i64 x.2]
def sameB (x y : Int × Int) : Bool := x.1 == y.1 && x.2 == y.2
theorem sameB_eq (x y : Int × Int) : sameB x y = decide (x = y) := by
  obtain ⟨a, b⟩ := x
  obtain ⟨c, d⟩ := y
  unfold sameB
  by_cases h1 : a = c <;> by_cases h2 : b = d <;> simp [h1, h2]
/-- The model's comparison of two edges. -/
theorem run_sameE (x y : Int × Int) (w : World) : (Op.equalIn 10000 TE (.agg (encE x).toArray) (.agg (encE y).toArray)).run Try.prog w = .ok (sameB x y) w := by
  have hS : Try.prog.underlying TE = some (.struct (Try.prog.fieldsOf TE)) := by kernel_rfl
  have hp : Try.prog.stoodInHeld TE = false := by kernel_rfl
  have u := Try.underlying3
  have a := Try.isAgg3
  have z := Try.sizeOf3
  simp only [encE]
  rw [show (10000 : Nat) = 9999 + 1 from rfl, run_equalIn_struct w 9999 TE _ _ hS hp]
  simp only [Program.fieldsOf, TE, Try.underlying42]
  go_simp
  unfold sameB
  by_cases h1 : x.1 = y.1 <;> by_cases h2 : x.2 = y.2 <;> simp [h1, h2]
theorem run_neE (a b c d : Int) (w : World) : (binOp .neq TE (.agg #[.int .i64 a, .int .i64 b]) (.agg #[.int .i64 c, .int .i64 d])).run Try.prog w = .ok (.bool (!sameB (a, b) (c, d))) w := by
  have h := run_sameE (a, b) (c, d) w
  simp only [encE] at h
  rw [run_neq_struct, h]
  rfl
theorem edges_ext (a b : List (Int × Int)) (h : a.length = b.length) (hh : ∀ j, j < a.length → a[j]?.getD (0, 0) = b[j]?.getD (0, 0)) : a = b := by
  apply List.ext_getElem h
  intro i h1 h2
  have := hh i h1
  simpa [h1, h2] using this

set_option maxRecDepth 100000 in
set_option maxHeartbeats 2000000 in
theorem same_any (n m : Nat) (a b : Option Addr) (c d : Nat) (za zb : List (Int × Int)) (w : World) (ha : EdgesA n w a za) (hb : EdgesA m w b zb) (hla : za.length ≤ 9223372036854775807) (hlb : zb.length ≤ 9223372036854775807) :
    Calls Try.prog 18 #[.slice a za.length c, .slice b zb.length d] w fun e w' => e = .returned (.bool (decide (za = zb))) ∧ ∃ q, w' = w.drewN q := by
  by_cases hl : za.length = zb.length
  · have hne : ((za.length : Int) != (zb.length : Int)) = false := by rw [hl]; simp
    have HL := Lib.hid hl
    have hsz : zb.length ≤ za.length := by omega
    by_cases h0 : za.length = 0
    · have e1 : za = [] := List.eq_nil_of_length_eq_zero h0
      have e2 : zb = [] := List.eq_nil_of_length_eq_zero (by omega)
      subst e1; subst e2
      clear hl hne ha hb
      go_enter Try.func18, Try.ntmps18
      go_wp2
      go_loopw [5] (fun i wr => i = .int .i64 0 ∧ wr = w) (fun _ _ => 0)
      case atStart => exact ⟨rfl, rfl⟩
      case round =>
        obtain ⟨rfl, rfl⟩ := hrel
        go_wp2
        go_ret
        exact ⟨rfl, 0, rfl⟩
    · obtain ⟨b1, o1, rfl, _, hc1⟩ := ha.some_ (by omega)
      obtain ⟨b2, o2, rfl, _, hc2⟩ := hb.some_ (by omega)
      have H1 := Lib.hid hc1
      have H2 := Lib.hid hc2
      clear hl ha hb hc1 hc2 h0
      go_enter Try.func18, Try.ntmps18
      go_wp2
      go_loopw [5] (fun i wr => ∃ k q : Nat, k ≤ za.length ∧ i = .int .i64 k ∧ wr = w.drewN q ∧ Hid (∀ j, j < k → za[j]?.getD (0, 0) = zb[j]?.getD (0, 0))) (fun i _ => za.length - (intOf i).toNat)
      case atStart => exact ⟨0, 0, Nat.zero_le _, rfl, rfl, Lib.hid (by omega)⟩
      case round =>
        obtain ⟨k, q, hk, rfl, rfl, HK⟩ := hrel
        by_cases hlt : k < za.length
        · have hkb : k < zb.length := by have := HL.out; omega
          obtain ⟨x1, x2⟩ := H1.out k hlt
          obtain ⟨y1, y2⟩ := H2.out k hkb
          obtain ⟨⟨x, x'⟩, hx⟩ : ∃ x, za[k]?.getD (0, 0) = x := ⟨_, rfl⟩
          obtain ⟨⟨y, y'⟩, hy⟩ : ∃ y, zb[k]?.getD (0, 0) = y := ⟨_, rfl⟩
          rw [hx] at x1 x2
          rw [hy] at y1 y2
          simp only [] at x1 x2 y1 y2
          have hkI : (k : Int) < (za.length : Int) := by omega
          have hkJ : (k : Int) < (zb.length : Int) := by omega
          have hk0 : (0 : Int) ≤ (k : Int) := by omega
          have HX := Lib.hid hx
          have HY := Lib.hid hy
          have hneq := run_neE x x' y y'
          rw [sameB_eq] at hneq
          clear hx hy
          by_cases hxy : (x, x') = (y, y')
          · have hb' : (!decide ((x, x') = (y, y'))) = false := by simp [hxy]
            rw [hb'] at hneq
            have HXY := Lib.hid hxy
            clear hxy hb'
            go_wp2
            go_quiet (fail)
            go_wp2
            go_roundw
            case rel =>
              refine ⟨k + 1, _, by omega, by go_num, rfl, Lib.hid ?_⟩
              intro j hj
              by_cases hjk : j = k
              · rw [hjk, HX.out, HY.out]; exact HXY.out
              · exact HK.out j (by omega)
            case measure => simp [intOf]; omega
          · have hb' : (!decide ((x, x') = (y, y'))) = true := by simp [hxy]
            rw [hb'] at hneq
            have hd : decide (za = zb) = false := by
              rw [decide_eq_false_iff_not]
              rintro rfl
              exact hxy (HX.out.symm.trans HY.out)
            have HDD := Lib.hid hd
            clear hxy hd hb'
            go_wp2
            go_quiet (fail)
            go_wp2
            go_ret
            rw [HDD.out]
            exact ⟨rfl, _, World.drewN_drewN _ _ _⟩
        · have hd : decide (za = zb) = true := by
            rw [decide_eq_true_eq]
            exact edges_ext za zb HL.out (fun j hj => HK.out j (by omega))
          have HDD := Lib.hid hd
          clear hd
          go_wp2
          go_ret
          rw [HDD.out]
          exact ⟨rfl, _, rfl⟩
  · have hne : ((za.length : Int) != (zb.length : Int)) = true := by rw [bne_iff_ne]; omega
    have hd : decide (za = zb) = false := by
      rw [decide_eq_false_iff_not]
      rintro rfl
      exact hl rfl
    rw [hd]
    clear hl ha hb hd
    go_enter Try.func18, Try.ntmps18
    go_wp2
    go_ret
    exact ⟨rfl, 0, rfl⟩

/-- Every edge of a list is in another one. -/
def subE (a b : List (Int × Int)) : Bool := a.all fun e => hasE b e.1 e.2
theorem subE_miss {a b : List (Int × Int)} {k : Nat} {e : Int × Int} (hk : k < a.length) (he : a[k]?.getD (0, 0) = e) (h : hasE b e.1 e.2 = false) : subE a b = false := by
  unfold subE
  rw [List.all_eq_false]
  refine ⟨e, ?_, by simp [h]⟩
  rw [List.getElem?_eq_getElem hk] at he
  rw [← he]
  exact List.getElem_mem hk
theorem subE_take {a b : List (Int × Int)} {k : Nat} {e : Int × Int} (hk : k < a.length) (he : a[k]?.getD (0, 0) = e) : subE (a.take (k + 1)) b = (subE (a.take k) b && hasE b e.1 e.2) := by
  unfold subE
  rw [take_snocE a k hk, he, List.all_append]
  simp

set_option maxRecDepth 100000 in
set_option maxHeartbeats 2000000 in
theorem within_any (a b : Option Addr) (c d : Nat) (za zb : List (Int × Int)) (w : World) (ha : EdgesA w.heap.size w a za) (hb : EdgesA w.heap.size w b zb) (hla : za.length ≤ 9223372036854775807) (hlb : zb.length ≤ 9223372036854775807) :
    Calls Try.prog 31 #[.slice a za.length c, .slice b zb.length d] w fun e w' => e = .returned (.bool (subE za zb)) ∧ Below w.heap.size w w' := by
  have HA := Lib.hid ha
  have HB := Lib.hid hb
  clear ha hb
  go_enter Try.func31, Try.ntmps31
  go_wp2
  go_loopw [9] (fun i wr => ∃ k : Nat, k ≤ za.length ∧ i = .int .i64 k ∧ Hid (Below w.heap.size w wr) ∧ Hid (subE (za.take k) zb = true)) (fun i _ => za.length - (intOf i).toNat)
  case atStart => exact ⟨0, Nat.zero_le _, rfl, Lib.hid (Below.refl _ _), Lib.hid rfl⟩
  case round =>
    obtain ⟨k, hk, rfl, HBl, HK⟩ := hrel
    by_cases hlt : k < za.length
    · have k0 : (k : Int) < (za.length : Int) := by omega
      obtain ⟨bl, off, rfl, hbb, hc⟩ := HA.out.some_ (by omega)
      obtain ⟨d1, d2⟩ := hc k hlt
      obtain ⟨⟨u, v⟩, hx⟩ : ∃ e, za[k]?.getD (0, 0) = e := ⟨_, rfl⟩
      rw [hx] at d1 d2
      simp only [] at d1 d2
      have c1 := (HBl.out.cell (p := ⟨bl, off + k * 2, none⟩) hbb).trans d1
      have c2 := (HBl.out.cell (p := ⟨bl, off + k * 2 + 1, none⟩) hbb).trans d2
      have hsz := HBl.out.size
      have B2 := Lib.hid (HBl.out.alloc hsz (.cells #[.int .i64 u, .int .i64 v] 42))
      obtain ⟨wb, hwb⟩ : ∃ wb, wr.alloc (.cells #[.int .i64 u, .int .i64 v] 42) = wb := ⟨_, rfl⟩
      have e1 : wb.cell? ⟨wr.heap.size, 0, none⟩ = some (.int .i64 u) := by rw [← hwb]; simp
      have e2 : wb.cell? ⟨wr.heap.size, 1, none⟩ = some (.int .i64 v) := by rw [← hwb]; simp
      rw [hwb] at B2
      have HH := has_any w.heap.size b d zb u v wb (HB.out.below B2.out) hlb
      obtain ⟨r, hr⟩ : ∃ r, hasE zb u v = r := ⟨_, rfl⟩
      rw [hr] at HH
      have HH := Lib.hid HH
      cases r
      · have HF : Hid (subE za zb = false) := Lib.hid (subE_miss hlt hx hr)
        clear hc hx d1 d2 hr
        go_wp2_with fail
        refine HH.out.mono ?_
        rintro e w1 ⟨rfl, hw1⟩
        rw [hw1]
        go_wp2
        go_ret
        rw [HF.out]
        exact ⟨rfl, B2.out⟩
      · have HK2 : Hid (subE (za.take (k + 1)) zb = true) := Lib.hid (by rw [subE_take hlt hx, HK.out, hr]; rfl)
        clear hc hx d1 d2 hr
        go_wp2_with fail
        refine HH.out.mono ?_
        rintro e w1 ⟨rfl, hw1⟩
        rw [hw1]
        go_wp2
        go_roundw
        case rel => exact ⟨k + 1, by omega, by go_num, B2, HK2⟩
        case measure => simp [intOf]; omega
    · have HT : Hid (subE za zb = true) := Lib.hid (by have := HK.out; rwa [List.take_of_length_le (by omega)] at this)
      go_wp2
      go_ret
      rw [HT.out]
      exact ⟨rfl, HBl.out⟩

/-- A relation that the statements do not examine. -/
def great4 (n : Int) (es : List (Int × Int)) : Bool := (decide (8 < n) && decide (n ≤ 200)) || decide (60 < es.length)
theorem great4_any (n : Int) (ad : Option Addr) (cap : Nat) (es : List (Int × Int)) (w : World) :
    Calls Try.prog 12 #[.int .i64 n, .slice ad es.length cap] w fun e w' => e = .returned (.bool (great4 n es)) ∧ w' = w := by
  by_cases h1 : 8 < n ∧ n ≤ 200
  · have h2 := h1.1
    have h3 := h1.2
    have HG : Hid (great4 n es = true) := Lib.hid (by unfold great4; simp [h2, h3])
    clear h1
    go_enter Try.func12, Try.ntmps12
    go_wp2
    go_ret
    rw [HG.out]
    exact ⟨rfl, rfl⟩
  · by_cases h4 : 60 < es.length
    · have hd4 : decide ((60 : Int) < (es.length : Int)) = true := by simp; omega
      have HG : Hid (great4 n es = true) := Lib.hid (by unfold great4; simp [h4])
      by_cases h2 : 8 < n
      · have h3 : ¬ n ≤ 200 := fun h3 => h1 ⟨h2, h3⟩
        clear h1
        go_enter Try.func12, Try.ntmps12
        go_wp2
        go_ret
        rw [HG.out]
        exact ⟨rfl, rfl⟩
      · clear h1
        go_enter Try.func12, Try.ntmps12
        go_wp2
        go_ret
        rw [HG.out]
        exact ⟨rfl, rfl⟩
    · have hd4 : decide ((60 : Int) < (es.length : Int)) = false := by simp; omega
      by_cases h2 : 8 < n
      · have h3 : ¬ n ≤ 200 := fun h3 => h1 ⟨h2, h3⟩
        have HG : Hid (great4 n es = false) := Lib.hid (by unfold great4; simp [h2, h3, h4])
        clear h1
        go_enter Try.func12, Try.ntmps12
        go_wp2
        go_ret
        rw [HG.out]
        exact ⟨rfl, rfl⟩
      · have HG : Hid (great4 n es = false) := Lib.hid (by unfold great4; simp [h2, h4])
        clear h1
        go_enter Try.func12, Try.ntmps12
        go_wp2
        go_ret
        rw [HG.out]
        exact ⟨rfl, rfl⟩


end Go.Proofs.Ytbfeiegjhcjbnaa
