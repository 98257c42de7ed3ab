/-
  What the closures of the statements of waiters answer; their sums and limits; the library's Contains over ints.
-/
import Derived.Laws.EntriesVeiled
import Derived.Test.YtonjempbphnimaaWlCon
import Derived.Test.YtonjempbphnimaaWlRefV
import Derived.Test.YtonjempbphnimaaWlApp
import Derived.Test.YtonjempbphnimaaWlMathA
namespace Go.Proofs.Ytonjempbphnimaa
open Go.RowKit Go.Shelf

set_option maxRecDepth 100000 in
theorem arr1_pred (g : Nat) (p : Int) (w : World) (h : w.cell? ⟨g, 3, none⟩ = some (.int .i64 p)) : PredW 29 #[] #[.pointer (some ⟨g, 0, none⟩)] (fun t => t.2.2.2.1 == p) w := by
  intro a b c d f W hB
  have hb0 : Below W.heap.size W (W.alloc (.cells #[.int .i64 a, .int .i64 b, .int .i64 c, .int .i64 d, .int .i64 f] TW)) := (Below.refl _ _).alloc (Nat.le_refl _) _
  have h2 := cell_laterW hb0 (cell_laterW hB h)
  have hx := (box5 W a b c d f).2.2.2.1
  simp only [Nat.zero_add] at hx
  have HB0 := Lib.hid hb0
  simp only []
  clear hb0 hB h
  go_enter Try.func29, Try.ntmps29
  go_wp2
  go_ret
  exact ⟨rfl, HB0.out⟩
set_option maxRecDepth 100000 in
theorem tsk1_pred (g : Nat) (x : Int) (w : World) (h : w.cell? ⟨g, 0, none⟩ = some (.int .i64 x)) : PredW 38 #[] #[.pointer (some ⟨g, 0, none⟩)] (fun t => t.1 == x) w := by
  intro a b c d f W hB
  have hb0 : Below W.heap.size W (W.alloc (.cells #[.int .i64 a, .int .i64 b, .int .i64 c, .int .i64 d, .int .i64 f] TW)) := (Below.refl _ _).alloc (Nat.le_refl _) _
  have h2 := cell_laterW hb0 (cell_laterW hB h)
  have hx := (box5 W a b c d f).1
  have HB0 := Lib.hid hb0
  simp only []
  clear hb0 hB h
  go_enter Try.func38, Try.ntmps38
  go_wp2
  go_ret
  exact ⟨rfl, HB0.out⟩
set_option maxRecDepth 100000 in
theorem fair1_pred (g : Nat) (m : Int) (w : World) (h : w.cell? ⟨g, 0, none⟩ = some (.int .i64 m)) : PredW 37 #[] #[.pointer (some ⟨g, 0, none⟩)] (fun t => decide (0 ≤ t.2.2.1) && decide (t.2.2.1 ≤ m)) w := by
  intro a b c d f W hB
  have hb0 : Below W.heap.size W (W.alloc (.cells #[.int .i64 a, .int .i64 b, .int .i64 c, .int .i64 d, .int .i64 f] TW)) := (Below.refl _ _).alloc (Nat.le_refl _) _
  have h2 := cell_laterW hb0 (cell_laterW hB h)
  have hx := (box5 W a b c d f).2.2.1
  simp only [Nat.zero_add] at hx
  have HB0 := Lib.hid hb0
  simp only []
  clear hb0 hB h
  by_cases hc : 0 ≤ c
  · have q0 : decide (0 ≤ c) = true := decide_eq_true hc
    rw [q0, Bool.true_and]
    go_enter Try.func37, Try.ntmps37
    go_wp2
    go_ret
    exact ⟨rfl, HB0.out⟩
  · have q0 : decide (0 ≤ c) = false := decide_eq_false hc
    rw [q0, Bool.false_and]
    go_enter Try.func37, Try.ntmps37
    go_wp2
    go_ret
    exact ⟨rfl, HB0.out⟩
set_option maxRecDepth 100000 in
theorem prio1_pred (w : World) : PredW 30 #[] #[] (fun t => !okW t) w := by
  intro a b c d f W hB
  obtain ⟨W1, hW1⟩ : ∃ V, W.alloc (.cells #[.int .i64 a, .int .i64 b, .int .i64 c, .int .i64 d, .int .i64 f] TW) = V := ⟨_, rfl⟩
  have hb0 : Below W.heap.size W W1 := by rw [← hW1]; exact (Below.refl _ _).alloc (Nat.le_refl _) _
  obtain ⟨p0, p1, p2, p3, p4⟩ : At5 W1 W.heap.size 0 (a, b, c, d, f) := by rw [← hW1]; exact box5 W a b c d f
  simp only [Nat.zero_add] at p0 p1 p2 p3 p4
  have HV := Lib.hid (rValid_any a b c d f W1)
  have HB0 := Lib.hid hb0
  have HW1 := Lib.hid hW1
  clear hb0 hB hW1
  go_enter Try.func30, Try.ntmps30
  go_wp2_with fail
  rw [HW1.out]
  refine HV.out.mono ?_
  rintro e W2 ⟨rfl, b2⟩
  have HB2 := Lib.hid (HB0.out.trans (b2.mono HB0.out.size))
  clear b2
  go_wp2
  go_ret
  exact ⟨rfl, HB2.out⟩

/-! ### The limits -/

def bigI (n : Int) : Bool := decide (n < -1099511627776) || decide (1099511627776 < n)
theorem bigI_no {n : Int} : bigI n = false ↔ -1099511627776 ≤ n ∧ n ≤ 1099511627776 := by
  unfold bigI
  simp
set_option maxRecDepth 100000 in
theorem small1_any (n : Int) (w : World) : Calls Try.prog 53 #[.int .i64 n] w fun e w' => e = .returned (.bool (bigI n)) ∧ w = w' := by
  unfold bigI
  by_cases hc : n < -1099511627776
  · rw [decide_eq_true hc, Bool.true_or]
    go_enter Try.func53, Try.ntmps53
    go_wp2
    go_ret
    exact ⟨rfl, rfl⟩
  · rw [decide_eq_false hc, Bool.false_or]
    go_enter Try.func53, Try.ntmps53
    go_wp2
    go_ret
    exact ⟨rfl, rfl⟩
set_option maxRecDepth 100000 in
theorem small2_pred (g : Nat) (w : World) (h : w.cell? ⟨g, 0, none⟩ = some (.func (.func 53) #[] #[])) : PredW 54 #[] #[.pointer (some ⟨g, 0, none⟩)] (fun t => bigI t.2.2.1) w := by
  intro a b c d f W hB
  have hb0 : Below W.heap.size W (W.alloc (.cells #[.int .i64 a, .int .i64 b, .int .i64 c, .int .i64 d, .int .i64 f] TW)) := (Below.refl _ _).alloc (Nat.le_refl _) _
  have h2 := cell_laterW hb0 (cell_laterW hB h)
  have hx := (box5 W a b c d f).2.2.1
  simp only [Nat.zero_add] at hx
  have he1 : ∀ args w, (callFunc 53 args).run Try.prog w = .ok (.enter 53 args) w := enters_of Try.func53 (by kernel_rfl) rfl
  have HV := Lib.hid (small1_any c (W.alloc (.cells #[.int .i64 a, .int .i64 b, .int .i64 c, .int .i64 d, .int .i64 f] TW)))
  have HB0 := Lib.hid hb0
  simp only []
  clear hb0 hB h
  go_enter Try.func54, Try.ntmps54
  go_wp2_with fail
  refine HV.out.mono ?_
  rintro e W2 ⟨rfl, rfl⟩
  go_wp2
  go_ret
  exact ⟨rfl, HB0.out⟩
theorem boxV (w : World) (a : Value) (t : TypeId) : (w.alloc (.cells #[a] t)).cell? ⟨w.heap.size, 0, none⟩ = some a := by go_simp
def smallW (ts : List Wl) (u : Int) : Bool := !bigI u && !ts.any fun t => bigI t.2.2.1
set_option maxRecDepth 100000 in
set_option maxHeartbeats 1000000 in
theorem small_any (v : Value) (ts : List Wl) (u : Int) (w : World) (hK : KwC w v ts) (hl : ts.length ≤ 1000) :
    Calls Try.prog 35 #[v, .int .i64 u] w fun e w' => e = .returned (.bool (smallW ts u)) ∧ Below w.heap.size w w' := by
  obtain ⟨W1, hW1⟩ : ∃ V, w.alloc (.cells #[.func (.func 53) #[] #[]] 66) = V := ⟨_, rfl⟩
  have hb0 : Below w.heap.size w W1 := by rw [← hW1]; exact (Below.refl _ _).alloc (Nat.le_refl _) _
  have hc0 : W1.cell? ⟨w.heap.size, 0, none⟩ = some (.func (.func 53) #[] #[]) := by rw [← hW1]; exact boxV w _ _
  have he1 : ∀ args w, (callFunc 53 args).run Try.prog w = .ok (.enter 53 args) w := enters_of Try.func53 (by kernel_rfl) rfl
  have HS := Lib.hid (small1_any u W1)
  have HC := Lib.hid (wContains_at v 54 #[] #[.pointer (some ⟨w.heap.size, 0, none⟩)] ts (fun t => bigI t.2.2.1) W1 (enters_of Try.func54 (by kernel_rfl) rfl) (hK.below hb0) hl (small2_pred _ _ hc0))
  have HB0 := Lib.hid hb0
  have HW1 := Lib.hid hW1
  unfold smallW
  clear hb0 hK hW1
  cases hu : bigI u with
  | true =>
    rw [hu] at HS
    rw [Bool.not_true, Bool.false_and]
    clear hu
    go_enter Try.func35, Try.ntmps35
    go_wp2_with fail
    rw [HW1.out]
    go_wp2_with fail
    refine HS.out.mono ?_
    rintro e W2 ⟨rfl, rfl⟩
    go_wp2
    go_ret
    exact ⟨rfl, HB0.out⟩
  | false =>
    rw [hu] at HS
    rw [Bool.not_false, Bool.true_and]
    clear hu
    go_enter Try.func35, Try.ntmps35
    go_wp2_with fail
    rw [HW1.out]
    go_wp2_with fail
    refine HS.out.mono ?_
    rintro e W2 ⟨rfl, rfl⟩
    go_wp2_with fail
    refine HC.out.mono ?_
    rintro e W3 ⟨rfl, b3⟩
    have HB3 := Lib.hid (HB0.out.trans (b3.mono HB0.out.size))
    clear b3
    go_wp2
    go_ret
    exact ⟨rfl, HB3.out⟩

/-! ### Contains over ints -/

def hasZ (zs : List Int) (x : Int) : Bool := decide (x ∈ zs)
theorem zs_drop {zs : List Int} {k : Nat} (h : k < zs.length) : zs.drop k = zs[k]?.getD 0 :: zs.drop (k + 1) := by
  rw [List.drop_eq_getElem_cons h]; simp [h]
set_option maxRecDepth 100000 in
set_option maxHeartbeats 1000000 in
theorem zIndex_any (v : Value) (zs : List Int) (x : Int) (w : World) (hK : KlC w v zs) (hl : zs.length ≤ 1000) :
    Calls Try.prog 55 #[v, .int .i64 x] w fun e w' => ∃ k : Int, e = .returned (.int .i64 k) ∧ decide (0 ≤ k) = hasZ zs x ∧ w = w' := by
  obtain ⟨ad, cap, rfl, hI, hl2⟩ := hK
  have HI := Lib.hid hI
  clear hI
  go_enter Try.func55, Try.ntmps55
  go_wp2
  go_loopw [8] (fun i wr => ∃ k : Nat, k ≤ zs.length ∧ i = .int .i64 k ∧ wr = w ∧ Hid (x ∈ zs ↔ x ∈ zs.drop k)) (fun i _ => zs.length - (intOf i).toNat)
  case atStart => exact ⟨0, Nat.zero_le _, rfl, rfl, Lib.hid (by simp)⟩
  case round =>
    obtain ⟨k, hk, rfl, rfl, HD⟩ := hrel
    by_cases hkt : k < zs.length
    · have k1 : (k : Int) < (zs.length : Int) := by omega
      obtain ⟨bk, off, rfl, hb, c0⟩ := HI.out k hkt
      have hd := zs_drop hkt
      obtain ⟨y, hy⟩ : ∃ y, zs[k]?.getD 0 = y := ⟨_, rfl⟩
      rw [hy] at c0 hd
      by_cases hxy : x = y
      · have hq : (x == y) = true := by simp [hxy]
        have HR : Hid (hasZ zs x = true) := Lib.hid (by unfold hasZ; rw [decide_eq_true_iff, HD.out, hd, hxy]; simp)
        clear hy hd hxy
        go_wp2
        go_ret
        exact ⟨_, rfl, by rw [HR.out]; simp, rfl⟩
      · have hq : (x == y) = false := by simp [hxy]
        have HD' : Hid (x ∈ zs ↔ x ∈ zs.drop (k + 1)) := Lib.hid (by rw [HD.out, hd]; simp [hxy])
        clear hy hd hxy
        go_wp2
        go_roundw
        case rel => exact ⟨k + 1, by omega, by go_num, by trivial, HD'⟩
        case measure => simp [intOf]; omega
    · obtain rfl : k = zs.length := by omega
      have HR : Hid (hasZ zs x = false) := Lib.hid (by unfold hasZ; rw [decide_eq_false_iff_not, HD.out]; simp)
      go_wp2
      go_ret
      exact ⟨_, rfl, by rw [HR.out]; rfl, rfl⟩
set_option maxRecDepth 100000 in
theorem zContains_any (v : Value) (zs : List Int) (x : Int) (w : World) (hK : KlC w v zs) (hl : zs.length ≤ 1000) :
    Calls Try.prog 40 #[v, .int .i64 x] w fun e w' => e = .returned (.bool (hasZ zs x)) ∧ w = w' := by
  have HI := Lib.hid (zIndex_any v zs x w hK hl)
  clear hK
  go_enter Try.func40, Try.ntmps40
  go_wp2_with fail
  refine HI.out.mono ?_
  rintro e w1 ⟨k, rfl, hk, rfl⟩
  have HK := Lib.hid hk
  clear hk
  go_wp2
  go_ret
  exact ⟨by rw [← HK.out]; rfl, rfl⟩
set_option maxRecDepth 100000 in
theorem tsk2_pred (g : Nat) (u : Value) (zs : List Int) (w : World) (h : w.cell? ⟨g, 0, none⟩ = some u) (hK : KlC w u zs) (hl : zs.length ≤ 1000) : PredW 39 #[] #[.pointer (some ⟨g, 0, none⟩)] (fun t => !hasZ zs t.1) w := by
  intro a b c d f W hB
  have hb0 : Below W.heap.size W (W.alloc (.cells #[.int .i64 a, .int .i64 b, .int .i64 c, .int .i64 d, .int .i64 f] TW)) := (Below.refl _ _).alloc (Nat.le_refl _) _
  have h2 := cell_laterW hb0 (cell_laterW hB h)
  have hx := (box5 W a b c d f).1
  have HV := Lib.hid (zContains_any u zs a (W.alloc (.cells #[.int .i64 a, .int .i64 b, .int .i64 c, .int .i64 d, .int .i64 f] TW)) ((hK.below hB).below hb0) hl)
  obtain ⟨ad, cap, rfl, _, _⟩ := hK
  have HB0 := Lib.hid hb0
  simp only []
  clear hb0 hB h
  go_enter Try.func39, Try.ntmps39
  go_wp2_with fail
  refine HV.out.mono ?_
  rintro e W2 ⟨rfl, rfl⟩
  go_wp2
  go_ret
  exact ⟨rfl, HB0.out⟩

/-! ### The sum -/

set_option maxRecDepth 100000 in
set_option maxHeartbeats 2000000 in
theorem values_any (v : Value) (ts : List Wl) (w : World) (hK : KwC w v ts) (hl : ts.length ≤ 1000) (hs : ∀ t ∈ ts, -1099511627776 ≤ t.2.2.1 ∧ t.2.2.1 ≤ 1099511627776) :
    Calls Try.prog 36 #[v] w fun e w' => e = .returned (.int .i64 (sumV ts)) ∧ Below w.heap.size w w' := by
  obtain ⟨ad, cap, rfl, hc1, hc2, hA⟩ := hK
  have HA := Lib.hid hA
  have HS := Lib.hid hs
  have HN : Hid (∀ k, k ≤ ts.length → -1099511627776 * (k : Int) ≤ sumV (ts.take k) ∧ sumV (ts.take k) ≤ 1099511627776 * (k : Int)) := Lib.hid (by
    intro k
    induction k with
    | zero => intro _; simp [sumV]
    | succ k ih =>
      intro hk
      have ih := ih (by omega)
      have h1 := HS.out (gw ts k) (gw_mem (by omega))
      rw [take_snocW ts k (by omega), sumV_snoc]
      omega)
  clear hA hs
  go_enter Try.func36, Try.ntmps36
  go_wp2
  go_loopw [3, 8] (fun n x wr => ∃ k : Nat, k ≤ ts.length ∧ x = .int .i64 k ∧ n = .int .i64 (sumV (ts.take k)) ∧ Hid (Below w.heap.size w wr)) (fun _ x _ => ts.length - (intOf x).toNat)
  case atStart => exact ⟨0, Nat.zero_le _, rfl, by simp [sumV], Lib.hid (Below.refl _ _)⟩
  case round =>
    obtain ⟨k, hk, rfl, rfl, HB⟩ := hrel
    by_cases hkt : k < ts.length
    · have k1 : (k : Int) < (ts.length : Int) := by omega
      obtain ⟨bk, off, rfl, _, hb, c0, c1, c2, c3, c4⟩ := HA.out.below HB.out k hkt
      have hz := HN.out (k + 1) (by omega)
      rw [take_snocW ts k hkt, sumV_snoc] at hz
      have HE : Hid (sumV (ts.take (k + 1)) = sumV (ts.take k) + (gw ts k).2.2.1) := Lib.hid (by rw [take_snocW ts k hkt, sumV_snoc])
      obtain ⟨⟨x0, x1, x2, x3, x4⟩, ht⟩ : ∃ x, gw ts k = x := ⟨_, rfl⟩
      obtain ⟨s, hs⟩ : ∃ s, sumV (ts.take k) = s := ⟨_, rfl⟩
      rw [ht] at c0 c1 c2 c3 c4 hz HE
      rw [hs] at hz HE ⊢
      simp only [] at c0 c1 c2 c3 c4 hz HE
      have q4 : IntKind.i64.wrap (s + x2) = s + x2 := IntWalk.i64_in _ (by omega)
      have HB2 := Lib.hid (HB.out.alloc HB.out.size (.cells #[.int .i64 x0, .int .i64 x1, .int .i64 x2, .int .i64 x3, .int .i64 x4] TW))
      clear ht hs hz
      go_wp2
      go_roundw
      case rel => exact ⟨k + 1, by omega, by go_num, by rw [HE.out], HB2⟩
      case measure => simp [intOf]; omega
    · obtain rfl : k = ts.length := by omega
      have HE : Hid (sumV (ts.take ts.length) = sumV ts) := Lib.hid (by rw [List.take_length])
      rw [HE.out]
      go_wp2
      go_ret
      exact ⟨rfl, HB.out⟩

end Go.Proofs.Ytonjempbphnimaa
