/-
  What the reference's inside, less, table, reflexive, closed and pairs of partialorder do.
-/
import Derived.Test.YtbfeiegjhcjbnaaPoMath
import Derived.Test.YtbfeiegjhcjbnaaPoRel
import Derived.Test.YtbfeiegjhcjbnaaHeldTop
namespace Go.Proofs.Ytbfeiegjhcjbnaa
open Go.RowKit

set_option maxRecDepth 100000 in
theorem inside_any (n x y : Int) (w : World) :
    Calls Try.prog 40 #[.int .i64 n, .agg #[.int .i64 x, .int .i64 y]] w fun e w' => e = .returned (.bool (!decide (badE n (x, y)))) ∧ Below w.heap.size w w' := by
  have hb : badE n (x, y) ↔ (x < 0 ∨ n ≤ x ∨ y < 0 ∨ n ≤ y) := Iff.rfl
  have b1 := (Below.refl w.heap.size w).alloc (Nat.le_refl _) (.cells #[.int .i64 x, .int .i64 y] TE)
  have HB1 := Lib.hid b1
  by_cases h1 : x < 0
  · have hz : decide (badE n (x, y)) = true := decide_eq_true (hb.2 (.inl h1))
    have h1' : ¬ 0 ≤ x := by omega
    rw [hz]
    clear hz hb b1
    go_enter Try.func40, Try.ntmps40
    go_wp2
    go_ret
    exact ⟨rfl, HB1.out⟩
  · have h1' : 0 ≤ x := by omega
    by_cases h2 : n ≤ x
    · have hz : decide (badE n (x, y)) = true := decide_eq_true (hb.2 (.inr (.inl h2)))
      have h2' : ¬ x < n := by omega
      rw [hz]
      clear hz hb b1
      go_enter Try.func40, Try.ntmps40
      go_wp2
      go_ret
      exact ⟨rfl, HB1.out⟩
    · have h2' : x < n := by omega
      by_cases h3 : y < 0
      · have hz : decide (badE n (x, y)) = true := decide_eq_true (hb.2 (.inr (.inr (.inl h3))))
        have h3' : ¬ 0 ≤ y := by omega
        rw [hz]
        clear hz hb b1
        go_enter Try.func40, Try.ntmps40
        go_wp2
        go_ret
        exact ⟨rfl, HB1.out⟩
      · have h3' : 0 ≤ y := by omega
        by_cases h4 : n ≤ y
        · have hz : decide (badE n (x, y)) = true := decide_eq_true (hb.2 (.inr (.inr (.inr h4))))
          have h4' : ¬ y < n := by omega
          rw [hz]
          clear hz hb b1
          go_enter Try.func40, Try.ntmps40
          go_wp2
          go_ret
          exact ⟨rfl, HB1.out⟩
        · have hz : decide (badE n (x, y)) = false := decide_eq_false (fun h => by have := hb.1 h; omega)
          have h4' : y < n := by omega
          rw [hz]
          clear hz hb b1
          go_enter Try.func40, Try.ntmps40
          go_wp2
          go_ret
          exact ⟨rfl, HB1.out⟩

set_option maxRecDepth 100000 in
theorem less_any (a b c d : Int) (w : World) :
    Calls Try.prog 41 #[.agg #[.int .i64 a, .int .i64 b], .agg #[.int .i64 c, .int .i64 d]] w fun e w' => e = .returned (.bool (!decide (lowE (a, b) (c, d)))) ∧ Below w.heap.size w w' := by
  have hb : lowE (a, b) (c, d) ↔ (c < a ∨ (c = a ∧ d ≤ b)) := Iff.rfl
  have b1 := ((Below.refl w.heap.size w).alloc (Nat.le_refl _) (.cells #[.int .i64 a, .int .i64 b] TE)).alloc (by simp) (.cells #[.int .i64 c, .int .i64 d] TE)
  have HB1 := Lib.hid b1
  by_cases h1 : a < c
  · have hz : decide (lowE (a, b) (c, d)) = false := decide_eq_false (fun h => by have := hb.1 h; omega)
    rw [hz]
    clear hz hb b1
    go_enter Try.func41, Try.ntmps41
    go_wp2
    go_ret
    exact ⟨rfl, HB1.out⟩
  · by_cases h2 : a = c
    · subst h2
      by_cases h3 : b < d
      · have hz : decide (lowE (a, b) (a, d)) = false := decide_eq_false (fun h => by have := hb.1 h; omega)
        rw [hz]
        clear hz hb b1
        go_enter Try.func41, Try.ntmps41
        go_wp2
        go_ret
        exact ⟨rfl, HB1.out⟩
      · have hz : decide (lowE (a, b) (a, d)) = true := decide_eq_true (hb.2 (.inr ⟨rfl, by omega⟩))
        rw [hz]
        clear hz hb b1
        go_enter Try.func41, Try.ntmps41
        go_wp2
        go_ret
        exact ⟨rfl, HB1.out⟩
    · have h2' : (a == c) = false := beq_eq_false_iff_ne.2 h2
      have hz : decide (lowE (a, b) (c, d)) = true := decide_eq_true (hb.2 (.inl (by omega)))
      rw [hz]
      clear hz hb b1
      go_enter Try.func41, Try.ntmps41
      go_wp2
      go_ret
      exact ⟨rfl, HB1.out⟩

/-! ### A table -/

def tabV (N : Nat) (f : Nat → Nat → Bool) : List Value := boolsV (N * N) fun x => f (x / N) (x % N)
def Tab (B G N : Nat) (f : Nat → Nat → Bool) (W : World) : Prop := W.ownsRow B TBool 1 (.slice (some ⟨G, 0, none⟩) (N * N) (N * N)) (N * N) (tabV N f)
theorem flat_lt {N i j : Nat} (hi : i < N) (hj : j < N) : i * N + j < N * N := by
  have h : (i + 1) * N ≤ N * N := Nat.mul_le_mul_right _ hi
  rw [Nat.succ_mul] at h
  omega
theorem Tab.cell {B G N : Nat} {f : Nat → Nat → Bool} {W : World} (h : Tab B G N f W) {i j : Nat} (hi : i < N) (hj : j < N) : W.cell? ⟨G, i * N + j, none⟩ = some (.bool (f i j)) := by
  have hlt := flat_lt hi hj
  rw [World.ownsRow.cellAt h (i * N + j) (by omega), tabV, boolsV_get _ hlt, (divmod hj).1, (divmod hj).2]
theorem Tab.free {B G N : Nat} {f : Nat → Nat → Bool} {W : World} (h : Tab B G N f W) (j : Nat) : W.frozen? ⟨G, j, none⟩ = false := World.ownsRow.frozenAt h j
theorem Tab.lt {B G N : Nat} {f : Nat → Nat → Bool} {W : World} (h : Tab B G N f W) : B ≤ G ∧ G < W.heap.size := World.ownsRow.lt h G rfl
theorem Tab.below {B G N m : Nat} {f : Nat → Nat → Bool} {W W' : World} (h : Tab B G N f W) (hb : Below m W W') (hm : W.heap.size ≤ m) : Tab B G N f W' := own_below h hb hm
theorem Tab.drew {B G N : Nat} {f : Nat → Nat → Bool} {W : World} (h : Tab B G N f W) : Tab B G N f W.drew := own_drew h
theorem Tab.store {B G N : Nat} {f h' : Nat → Nat → Bool} {W : World} (h : Tab B G N f W) {a b : Nat} {z : Bool} (hb : b < N) (hz : h' a b = z) (ho : ∀ i j, ¬ (i = a ∧ j = b) → h' i j = f i j) : Tab B G N h' (W.setCell ⟨G, a * N + b, none⟩ (.bool z)) := by
  have := (World.ownsRow.stored h (a * N + b) (.bool z)).1
  unfold tabV at this
  rw [boolsV_set (q := fun x => h' (x / N) (x % N)) (by rw [(divmod hb).1, (divmod hb).2]; exact hz) (fun j hj => ho _ _ (fun ⟨e1, e2⟩ => hj (by
    have := Nat.div_add_mod j N
    rw [e1, e2, Nat.mul_comm] at this
    exact this.symm)))] at this
  exact this

/-- What the walk asks of the number of a table's cell. -/
theorem flat_int {N a b : Nat} (hN : N ≤ 200) (ha : a < N) (hb : b < N) : 0 ≤ (a : Int) * (N : Int) ∧ (a : Int) * (N : Int) ≤ 40000 ∧ 0 ≤ (a : Int) * (N : Int) + (b : Int) ∧ (a : Int) * (N : Int) + (b : Int) < (N : Int) * (N : Int) ∧ ((a : Int) * (N : Int) + (b : Int)).toNat = a * N + b := by
  have h1 := flat_lt ha hb
  have h2 : N * N ≤ 200 * 200 := Nat.mul_le_mul hN hN
  have e1 : (a : Int) * (N : Int) = ((a * N : Nat) : Int) := by simp
  have e2 : (N : Int) * (N : Int) = ((N * N : Nat) : Int) := by simp
  rw [e1, e2]
  omega

set_option maxRecDepth 100000 in
set_option maxHeartbeats 4000000 in
theorem table_any (n₀ N : Nat) (ad : Option Addr) (cap : Nat) (es : List (Int × Int)) (w : World) (hE : EdgesA n₀ w ad es) (hn₀ : n₀ ≤ w.heap.size) (hl : es.length ≤ 2000) (hN : N ≤ 200) (hok : OkE N es) :
    Calls Try.prog 42 #[.int .i64 (N : Int), .slice ad es.length cap] w fun e w' => e = .returned (.slice (some ⟨w.heap.size, 0, none⟩) (N * N) (N * N)) ∧ Tab w.heap.size w.heap.size N (relG (gN es)) w' ∧ Below w.heap.size w w' := by
  obtain ⟨i0, hi, hz0, hz1, hz2⟩ := info_parts infoBool
  have HE := Lib.hid (hE.mono hn₀)
  have HOK := Lib.hid hok
  have hNN : N * N ≤ 200 * 200 := Nat.mul_le_mul hN hN
  have n1 : 0 ≤ (N : Int) * (N : Int) := by have e : (N : Int) * (N : Int) = ((N * N : Nat) : Int) := by simp
                                            rw [e]; omega
  have n2 : (N : Int) * (N : Int) ≤ 40000 := by have e : (N : Int) * (N : Int) = ((N * N : Nat) : Int) := by simp
                                                rw [e]; omega
  clear hE hn₀ hok
  go_enter Try.func42, Try.ntmps42
  go_wp2_with (at_make; refine wpList_make_full _ rfl (.tmp 9) (.tmp 9) 58 rfl w.heap.size TBool i0 (.bool false) 1 Try.underlying58 hi hz0 hz1 .i64 .i64 _ _ (N * N) rfl rfl rfl rfl (by rw [hz2]; omega) (by unfold maxLen; omega) (Nat.le_refl _) ?_)
  intro w1 ho1 hg1
  rw [boolsV_false] at ho1
  have HT1 : Hid (Tab w.heap.size w.heap.size N (relK (gN es) 0) w1) := Lib.hid (by rw [relK_zero]; exact ho1)
  have HB1 : Hid (Below w.heap.size w w1) := Lib.hid ((Below.refl _ w).grown hg1 (Nat.le_refl _) (fun j hj => by cases hj))
  obtain ⟨A, hA⟩ : ∃ A, w.heap.size = A := ⟨_, rfl⟩
  rw [hA] at HT1 HB1 ⊢
  rw [hA] at HE
  clear ho1 hg1
  go_wp2_with fail
  go_loopw [6] (fun i wx => ∃ (q : Nat), q ≤ es.length ∧ i = .int .i64 q ∧ Hid (Tab A A N (relK (gN es) q) wx) ∧ Hid (Below A w wx)) (fun i _ => es.length - (intOf i).toNat)
  case atStart => exact ⟨0, Nat.zero_le _, rfl, HT1, HB1⟩
  case round =>
    obtain ⟨q, hq, rfl, HT, HB⟩ := hrel
    by_cases hlq : q < es.length
    · obtain ⟨bl, off, rfl, hbb, hcc⟩ := HE.out.some_ (by omega)
      obtain ⟨d1, d2⟩ := hcc q hlq
      obtain ⟨a, b, hev, haN, hbN, hge⟩ := HOK.out.at_ hlq
      rw [hev] at d1 d2
      have p1 := (HB.out.cell (p := ⟨bl, off + q * 2, none⟩) hbb).trans d1
      have p2 := (HB.out.cell (p := ⟨bl, off + q * 2 + 1, none⟩) hbb).trans d2
      simp only [] at p1 p2
      obtain ⟨f1, f2, f3, f4, f5⟩ := flat_int hN haN hbN
      have c1 : wr.drew.cell? ⟨A, a * N + b, none⟩ = _ := HT.out.cell haN hbN
      have c2 : wr.drew.frozen? ⟨A, a * N + b, none⟩ = false := HT.out.free _
      have HT2 : Hid (Tab A A N (relK (gN es) (q + 1)) (wr.setCell ⟨A, a * N + b, none⟩ (.bool true)).drew) := Lib.hid (by
        refine (HT.out.store hbN ?_ (fun i j hij => ?_)).drew
        · rw [relK_succ hge]; simp [upd]
        · rw [relK_succ hge]
          have : (i == a && j == b) = false := by
            cases h : (i == a && j == b) with
            | false => rfl
            | true => simp at h; exact absurd h hij
          simp [upd, this])
      have HB2 : Hid (Below A w (wr.setCell ⟨A, a * N + b, none⟩ (.bool true)).drew) := Lib.hid (HB.out.setCell (p := ⟨A, a * N + b, none⟩) (Nat.le_refl _) _).drew
      have q1 : wr.drew.cell? ⟨bl, off + q * 2, none⟩ = some (.int .i64 (a : Int)) := p1
      have q2 : wr.drew.cell? ⟨bl, off + q * 2 + 1, none⟩ = some (.int .i64 (b : Int)) := p2
      clear hev hcc d1 d2
      go_wp2
      go_region
      go_wp2
      go_roundw
      case rel => exact ⟨q + 1, by omega, by go_num, HT2, HB2⟩
      case measure => simp [intOf]; omega
    · obtain rfl : q = es.length := by omega
      have hln := gN_length es
      have HT2 : Hid (Tab A A N (relG (gN es)) wr) := Lib.hid (by rw [← relK_all, hln]; exact HT.out)
      go_wp2
      go_ret
      subst hA
      exact ⟨rfl, HT2.out, HB.out⟩

set_option maxRecDepth 100000 in
set_option maxHeartbeats 4000000 in
theorem reflexive_any (B G N : Nat) (f : Nat → Nat → Bool) (w : World) (hT : Tab B G N f w) (hN : N ≤ 200) :
    Calls Try.prog 43 #[.int .i64 (N : Int), .slice (some ⟨G, 0, none⟩) (N * N) (N * N)] w fun e w' => e = .returned (.bool (loopK f N)) ∧ w = w' := by
  have HT := Lib.hid hT
  clear hT
  go_enter Try.func43, Try.ntmps43
  go_wp2
  go_loopw [5] (fun x wr => ∃ k : Nat, k ≤ N ∧ x = .int .i64 k ∧ Hid (loopK f k = false) ∧ w = wr) (fun x _ => N - (intOf x).toNat)
  case atStart => exact ⟨0, Nat.zero_le _, rfl, Lib.hid rfl, rfl⟩
  case round =>
    obtain ⟨k, hk, rfl, HL, rfl⟩ := hrel
    by_cases hlt : k < N
    · have k1 : (k : Int) < (N : Int) := by omega
      obtain ⟨f1, f2, f3, f4, f5⟩ := flat_int hN hlt hlt
      have c1 := HT.out.cell hlt hlt
      obtain ⟨z, hz⟩ : ∃ z, f k k = z := ⟨_, rfl⟩
      rw [hz] at c1
      cases z with
      | true =>
        have HR : Hid (loopK f N = true) := Lib.hid (by
          unfold loopK
          rw [List.any_eq_true]
          exact ⟨k, by simpa using hlt, hz⟩)
        clear hz
        go_wp2
        go_ret
        exact ⟨by rw [HR.out]; rfl, rfl⟩
      | false =>
        have HR : Hid (loopK f (k + 1) = false) := Lib.hid (by rw [loopK_succ, HL.out, hz]; rfl)
        clear hz
        go_wp2
        go_roundw
        case rel => exact ⟨k + 1, by omega, by go_num, HR, trivial⟩
        case measure => simp [intOf]; omega
    · obtain rfl : k = N := by omega
      go_wp2
      go_ret
      exact ⟨by rw [HL.out]; rfl, rfl⟩

set_option maxRecDepth 100000 in
set_option maxHeartbeats 8000000 in
theorem closed_any (B G N : Nat) (f : Nat → Nat → Bool) (w : World) (hT : Tab B G N f w) (hN : N ≤ 200) (hL : Low2 N f) :
    Calls Try.prog 44 #[.int .i64 (N : Int), .slice (some ⟨G, 0, none⟩) (N * N) (N * N)] w fun e w' => e = .returned (.tuple #[]) ∧ Tab B G N (war f N) w' ∧ Below B w w' := by
  have HT := Lib.hid hT
  have HLo := Lib.hid hL
  have hBG := hT.lt.1
  clear hT hL
  go_enter Try.func44, Try.ntmps44
  go_wp2
  go_loopw [4] (fun x wr => ∃ (k : Nat), k ≤ N ∧ x = .int .i64 k ∧ Hid (Tab B G N (war f k) wr) ∧ Hid (Below B w wr)) (fun x _ => N - (intOf x).toNat)
  case atStart => exact ⟨0, Nat.zero_le _, rfl, HT, Lib.hid (Below.refl _ _)⟩
  case round =>
    obtain ⟨k, hk, rfl, HMk, HB⟩ := hrel
    by_cases hlt : k < N
    · have k1 : (k : Int) < (N : Int) := by omega
      have HM0 : Hid (Tab B G N (stgI (war f k) k 0) wr) := Lib.hid (by rw [stgI_zero]; exact HMk.out)
      go_wp2
      go_loopw [5] (fun x wx => ∃ (i : Nat), i ≤ N ∧ x = .int .i64 i ∧ Hid (Tab B G N (stgI (war f k) k i) wx) ∧ Hid (Below B w wx)) (fun x _ => N - (intOf x).toNat)
      case atStart => exact ⟨0, Nat.zero_le _, rfl, HM0, HB⟩
      case round =>
        obtain ⟨i, hi, rfl, HMi, HBi⟩ := hrel
        by_cases hit : i < N
        · have i1 : (i : Int) < (N : Int) := by omega
          obtain ⟨z, hz⟩ : ∃ z, war f k i k = z := ⟨_, rfl⟩
          have HJ0 : Hid (Tab B G N (stgJ (war f k) k i 0) wr) := Lib.hid (by rw [stgJ_zero]; exact HMi.out)
          obtain ⟨f1, f2, f3, f4, f5⟩ := flat_int hN hit hlt
          go_wp2
          go_loopw [6] (fun x wy => ∃ (j : Nat), j ≤ N ∧ x = .int .i64 j ∧ Hid (z = false → j = 0) ∧ Hid (Tab B G N (stgJ (war f k) k i j) wy) ∧ Hid (Below B w wy)) (fun x _ => N - (intOf x).toNat)
          case atStart => exact ⟨0, Nat.zero_le _, rfl, Lib.hid (fun _ => rfl), HJ0, HBi⟩
          case round =>
            obtain ⟨j, hj, rfl, HZ, HMj, HBj⟩ := hrel
            have c1 := HMj.out.cell hit hlt
            rw [stgJ_col, hz] at c1
            cases z with
            | false =>
              obtain rfl : j = 0 := HZ.out rfl
              have HM2 : Hid (Tab B G N (stgI (war f k) k (i + 1)) wr) := Lib.hid (by rw [stgI_next hz, ← stgJ_zero]; exact HMj.out)
              clear hz
              go_wp2
              go_roundw
              case rel => exact ⟨i + 1, by omega, by go_num, HM2, HBj⟩
              case measure => simp [intOf]; omega
            | true =>
              by_cases hjt : j < N
              · have j1 : (j : Int) < (N : Int) := by omega
                obtain ⟨g1, g2, g3, g4, g5⟩ := flat_int hN hit hjt
                obtain ⟨h1, h2, h3, h4, h5⟩ := flat_int hN hlt hjt
                have c2 := HMj.out.cell hit hjt
                have c3 := HMj.out.cell hlt hjt
                have c4 := HMj.out.free (i * N + j)
                rw [stgJ_at] at c2
                rw [stgJ_row] at c3
                have HST : Hid (∀ v, v = (war f k i j || war f k k j) → Tab B G N (stgJ (war f k) k i (j + 1)) (wr.setCell ⟨G, i * N + j, none⟩ (.bool v))) := Lib.hid (fun v hv => by
                  rw [stgJ_step hz]
                  refine HMj.out.store hjt (by simp [hv]) (fun a b hab => by rw [if_neg hab]))
                have HBS : Hid (∀ v, Below B w (wr.setCell ⟨G, i * N + j, none⟩ v)) := Lib.hid (fun v => HBj.out.setCell (p := ⟨G, i * N + j, none⟩) hBG v)
                obtain ⟨x, hx⟩ : ∃ x, war f k i j = x := ⟨_, rfl⟩
                obtain ⟨y, hy⟩ : ∃ y, war f k k j = y := ⟨_, rfl⟩
                rw [hx] at c2 HST
                rw [hy] at c3 HST
                clear hz hx hy
                cases x
                · go_wp2_with fail
                  exact ⟨⟨j + 1, by omega, by go_num, Lib.hid (fun h => by cases h), Lib.hid (HST.out _ (by simp)), Lib.hid (HBS.out _)⟩, by simp [intOf]; omega⟩
                · go_wp2_with fail
                  exact ⟨⟨j + 1, by omega, by go_num, Lib.hid (fun h => by cases h), Lib.hid (HST.out _ (by simp)), Lib.hid (HBS.out _)⟩, by simp [intOf]; omega⟩
              · obtain rfl : j = N := by omega
                have HM2 : Hid (Tab B G j (stgI (war f k) k (i + 1)) wr) := Lib.hid (by rw [← stgJ_full (HLo.out.war k)]; exact HMj.out)
                clear hz
                go_wp2
                go_roundw
                case rel => exact ⟨i + 1, by omega, by go_num, HM2, HBj⟩
                case measure => simp [intOf]; omega
        · obtain rfl : i = N := by omega
          have HM2 : Hid (Tab B G i (war f (k + 1)) wr) := Lib.hid (by
            have := HMi.out
            rwa [stgI_full (HLo.out.war k)] at this)
          go_wp2
          go_roundw
          case rel => exact ⟨k + 1, by omega, by go_num, HM2, HBi⟩
          case measure => simp [intOf]; omega
    · obtain rfl : k = N := by omega
      go_wp2
      go_end0
      exact ⟨rfl, HMk.out, HB.out⟩

theorem Tab.flat {B G N : Nat} {f : Nat → Nat → Bool} {W : World} (h : Tab B G N f W) {x : Nat} (hx : x < N * N) : W.cell? ⟨G, x, none⟩ = some (.bool (f (x / N) (x % N))) := by
  rw [World.ownsRow.cellAt h x (by omega), tabV, boolsV_get _ hx]

set_option maxRecDepth 100000 in
set_option maxHeartbeats 8000000 in
theorem pairs_any (B G N : Nat) (f : Nat → Nat → Bool) (w : World) (hT : Tab B G N f w) (hN : N ≤ 200) :
    Calls Try.prog 45 #[.int .i64 (N : Int), .slice (some ⟨G, 0, none⟩) (N * N) (N * N)] w fun e w' => ∃ v, e = .returned v ∧ OwnE w.heap.size (prs N f) v w' ∧ Below w.heap.size w w' := by
  obtain ⟨i3, ki, kz0, kz1, kz2⟩ := info_parts infoE
  have hNN : N * N ≤ 200 * 200 := Nat.mul_le_mul hN hN
  have eNN : (N : Int) * (N : Int) = ((N * N : Nat) : Int) := by simp
  have n1 : 0 ≤ (N : Int) * (N : Int) := by rw [eNN]; omega
  have n2 : (N : Int) * (N : Int) ≤ 40000 := by rw [eNN]; omega
  have HE := Lib.hid eNN
  have HT := Lib.hid hT
  clear hT eNN
  go_enter Try.func45, Try.ntmps45
  go_wp2
  go_loopw [5, 6] (fun v x wr => ∃ k : Nat, k ≤ N * N ∧ x = .int .i64 k ∧ Hid (OwnE w.heap.size (prsK N f k) v wr) ∧ Hid (Below w.heap.size w wr)) (fun _ x _ => N * N - (intOf x).toNat)
  case atStart => exact ⟨0, Nat.zero_le _, rfl, Lib.hid (OwnE.nil _ _), Lib.hid (Below.refl _ _)⟩
  case round =>
    obtain ⟨k, hk, rfl, HO, HB⟩ := hrel
    by_cases hlt : k < N * N
    · have k1 : (k : Int) < (N : Int) * (N : Int) := by rw [HE.out]; omega
      have hN0 : 0 < N := by
        rcases Nat.eq_zero_or_pos N with h | h
        · subst h; omega
        · exact h
      have n0 : ((N : Int) == 0) = false := beq_eq_false_iff_ne.2 (by omega)
      have c1 := (HB.out.cell (p := ⟨G, k, none⟩) HT.out.lt.2).trans (HT.out.flat hlt)
      obtain ⟨z, hz⟩ : ∃ z, f (k / N) (k % N) = z := ⟨_, rfl⟩
      rw [hz] at c1
      cases z with
      | false =>
        have HN : Hid (OwnE w.heap.size (prsK N f (k + 1)) u5 wr) := Lib.hid (by rw [prsK_no' hz]; exact HO.out)
        clear hz
        go_wp2_with fail
        go_roundw
        case rel => exact ⟨k + 1, by omega, by go_num, HN, HB⟩
        case measure => simp [intOf]; omega
      | true =>
        have HN : Hid (prsK N f (k + 1) = prsK N f k ++ [(k / N, k % N)]) := Lib.hid (prsK_yes' hz)
        have hll := prsK_length N f k
        have hsz := HB.out.size
        have ho := HO.out
        unfold OwnE at ho
        obtain ⟨L, hL⟩ : ∃ L, prsK N f k = L := ⟨_, rfl⟩
        rw [hL] at ho hll HN
        have HOWN : Hid (wr.drew.ownsRow w.heap.size TE 2 u5 L.length (edV L)) := Lib.hid ho
        have hll2 : L.length ≤ 40000 := by omega
        have hdv : IntKind.i64.wrap ((k : Int) / (N : Int)) = (k : Int) / (N : Int) := by
          obtain ⟨q, hq⟩ : ∃ q, k / N = q := ⟨_, rfl⟩
          have h1 : k / N ≤ k := Nat.div_le_self _ _
          have h2 : (k : Int) / (N : Int) = (q : Int) := by rw [← hq]; rfl
          rw [hq] at h1
          rw [h2, IntKind.wrap_i64]
          omega
        have hmd : (k : Int).tmod (N : Int) = (k : Int) % (N : Int) := Int.tmod_eq_emod_of_nonneg (by omega)
        clear hz ho hL
        go_wp2_with fail
        refine wp_region_held (S := fun _ => True) (by kernel_rfl) ?_
        change wpAnyH _ _ _ _ _ _ _ _ wr.drew
        refine wpAnyH_read (i := 0) (v := u5) rfl (by kernel_rfl) (by kernel_rfl) (by kernel_rfl) (fun _ _ _ h => h) (by rfl) (fun _ _ => rfl) trivial ?_
        simp only [Act.put, List.setIfInBounds_toArray, List.set_cons_zero, List.set_cons_succ]
        refine wpAnyH_read (i := 1) (v := .int .i64 (k : Int)) rfl (by kernel_rfl) (by kernel_rfl) (by kernel_rfl) (fun _ _ _ h => h) (by rfl) (fun _ _ => rfl) trivial ?_
        simp only [Act.put, List.setIfInBounds_toArray, List.set_cons_zero, List.set_cons_succ]
        refine wpAnyH_read (i := 2) (v := .int .i64 (N : Int)) rfl (by kernel_rfl) (by kernel_rfl) (by kernel_rfl) (fun _ _ _ h => h) (by rfl) (fun _ _ => rfl) trivial ?_
        simp only [Act.put, List.setIfInBounds_toArray, List.set_cons_zero, List.set_cons_succ]
        refine wpAnyH_read (i := 3) (v := .int .i64 ((k / N : Nat) : Int)) rfl (by kernel_rfl) (by kernel_rfl) (by kernel_rfl) (fun _ _ _ h => h) (by rfl) ?_ trivial ?_
        · rintro w' -
          go_simp
          omega
        simp only [Act.put, List.setIfInBounds_toArray, List.set_cons_zero, List.set_cons_succ]
        refine wpAnyH_read (i := 4) (v := .int .i64 (k : Int)) rfl (by kernel_rfl) (by kernel_rfl) (by kernel_rfl) (fun _ _ _ h => h) (by rfl) (fun _ _ => rfl) trivial ?_
        simp only [Act.put, List.setIfInBounds_toArray, List.set_cons_zero, List.set_cons_succ]
        refine wpAnyH_read (i := 5) (v := .int .i64 (N : Int)) rfl (by kernel_rfl) (by kernel_rfl) (by kernel_rfl) (fun _ _ _ h => h) (by rfl) (fun _ _ => rfl) trivial ?_
        simp only [Act.put, List.setIfInBounds_toArray, List.set_cons_zero, List.set_cons_succ]
        refine wpAnyH_read (i := 6) (v := .int .i64 ((k % N : Nat) : Int)) rfl (by kernel_rfl) (by kernel_rfl) (by kernel_rfl) (fun _ _ _ h => h) (by rfl) ?_ trivial ?_
        · rintro w' -
          go_simp
          omega
        simp only [Act.put, List.setIfInBounds_toArray, List.set_cons_zero, List.set_cons_succ]
        refine wpAnyH_read (i := 7) (v := .agg #[.int .i64 ((k / N : Nat) : Int), .int .i64 ((k % N : Nat) : Int)]) rfl (by kernel_rfl) (by kernel_rfl) (by kernel_rfl) (fun _ _ _ h => h) (by rfl) ?_ trivial ?_
        · rintro w' -
          go_simp
        simp only [Act.put, List.setIfInBounds_toArray, List.set_cons_zero, List.set_cons_succ]
        refine wpAnyH_next (i := 8) rfl (by kernel_rfl) ?_
        go_wp2
        refine ⟨trivial, ?_⟩
        refine wpAnyH_next (i := 9) rfl (by kernel_rfl) ?_
        go_wp2_with (at_builtin; refine wpList_append_own _ rfl _ _ 22 rfl w.heap.size TE i3 (.agg #[.int .i64 0, .int .i64 0]) 2 16 Try.underlying22 ki kz0 kz1 kz2 rfl (by decide) _ _ _ rfl (HOWN.out.alloc _) ⟨wr.heap.size, 0, none⟩ 1 1 [.int .i64 ((k / N : Nat) : Int), .int .i64 ((k % N : Nat) : Int)] rfl rfl (newCell2 _ _ _ _) (two_one _ _) (by unfold maxLen; omega) (by omega) (by simp; omega) ?_)
        intro v' w6 hown' hgrow hnil
        have HO6 : Hid (OwnE w.heap.size (prsK N f (k + 1)) v' w6) := Lib.hid (by
          rw [HN.out]
          unfold OwnE
          rw [edV_snoc, List.length_append]
          exact hown')
        have HB6 : Hid (Below w.heap.size w w6) := Lib.hid ((HB.out.drew.alloc hsz _).grown hgrow (by simp; omega) (fun i hi => (HOWN.out.lt i hi).1))
        clear hown' hgrow hnil
        go_wp2
        refine wpAnyH_read (i := 10) (v := v') rfl (by kernel_rfl) (by kernel_rfl) (by kernel_rfl) (fun _ _ _ h => h) (by rfl) (fun _ _ => rfl) trivial ?_
        simp only [Act.put, List.setIfInBounds_toArray, List.set_cons_zero, List.set_cons_succ]
        refine wpAnyH_done (by kernel_rfl) ?_ _
        go_wp2
        go_roundw
        case rel => exact ⟨k + 1, by omega, by go_num, HO6, HB6⟩
        case measure => simp [intOf]; omega
    · obtain rfl : k = N * N := by omega
      have k1 : ¬ ((N * N : Nat) : Int) < (N : Int) * (N : Int) := by rw [HE.out]; omega
      go_wp2
      go_ret
      exact ⟨_, rfl, HO.out, HB.out⟩

end Go.Proofs.Ytbfeiegjhcjbnaa
