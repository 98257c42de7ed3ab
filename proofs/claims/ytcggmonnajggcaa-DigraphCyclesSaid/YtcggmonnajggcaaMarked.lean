/-
  What the reference's marked and Reach of digraph return.
-/
import Derived.Test.YtcggmonnajggcaaReached
namespace Go.Proofs.Ytcggmonnajggcaa
open Go.RowKit

abbrev TI : TypeId := 3
theorem infoI : (Try.prog.info? TI).map (fun i => (i.zero, i.size, i.bytes)) = some (some (.int .i64 0), 1, 8) := by kernel_rfl
def natV (l : List Nat) : List Value := l.map fun (x : Nat) => Value.int .i64 ((x : Nat) : Int)
theorem natV_length (l : List Nat) : (natV l).length = l.length := by simp [natV]

/-- A slice value that is not nil, that owns its row and holds the numbers l. -/
def RowN (B : Nat) (l : List Nat) (v : Value) (w : World) : Prop := ∃ g cap, v = .slice (some ⟨g, 0, none⟩) l.length cap ∧ w.ownsRow B TI 1 v l.length (natV l)
theorem ownsRow_new (w : World) (B : Nat) (hB : B ≤ w.heap.size) (T : TypeId) (cs : Array Value) (n : Nat) (hn : cs.size = n) (hm : n ≤ maxLen) : (w.alloc (.cells cs T)).ownsRow B T 1 (.slice (some ⟨w.heap.size, 0, none⟩) n n) n cs.toList :=
  ⟨by simp [hn], .inr ⟨w.heap.size, n, cs, rfl, hB, heap_alloc_new w _, Nat.le_refl _, hm, by omega, by rw [List.take_of_length_le (by simp; omega)]⟩⟩
theorem ownsRow_some {w : World} {B : Nat} {e : TypeId} {s : Nat} {v : Value} {n : Nat} {xs : List Value} (h : w.ownsRow B e s v n xs) (hv : v ≠ .slice none 0 0) : ∃ g cap, v = .slice (some ⟨g, 0, none⟩) n cap := by
  rcases h.2 with ⟨e, _⟩ | ⟨g, cap, cur, e, _⟩
  · exact absurd e hv
  · exact ⟨g, cap, e⟩
theorem RowN.empty (w : World) (B : Nat) (hB : B ≤ w.heap.size) : RowN B [] (.slice (some ⟨w.heap.size, 0, none⟩) 0 0) (w.alloc (.cells #[] TI)) := ⟨_, _, rfl, ownsRow_new w B hB TI #[] 0 rfl (by decide)⟩

theorem ownsRow_base {w : World} {B C : Nat} {T : TypeId} {v : Value} {n : Nat} {xs : List Value} (hBC : C ≤ B) (h : w.ownsRow B T 1 v n xs) : w.ownsRow C T 1 v n xs := by
  refine ⟨h.1, ?_⟩
  rcases h.2 with h | ⟨g, cap, cur, a, b, r⟩
  · exact .inl h
  · exact .inr ⟨g, cap, cur, a, by omega, r⟩
theorem RowN.base {B C : Nat} {l : List Nat} {v : Value} {w : World} (h : RowN B l v w) (hBC : C ≤ B) : RowN C l v w := by
  obtain ⟨g, cap, e, h⟩ := h
  exact ⟨g, cap, e, ownsRow_base hBC h⟩
theorem MarksAt.lt_size {B G N : Nat} {m : List Bool} {W : World} (h : MarksAt B G N m W) : G < W.heap.size := (World.ownsRow.lt h G rfl).2

set_option maxRecDepth 100000 in
set_option maxHeartbeats 2000000 in
theorem marked_any (B G N : Nat) (m : List Bool) (w : World) (hM : MarksAt B G N m w) (hm : m.length = N) (hN : N ≤ 200) (hG : G < w.heap.size) :
    Calls Try.prog 44 #[.slice (some ⟨G, 0, none⟩) N N] w fun e w' => ∃ v, e = .returned v ∧ RowN w.heap.size (markedL m) v w' ∧ Below w.heap.size w w' := by
  obtain ⟨i0, hi, hz0, hz1, hz2⟩ := info_parts infoI
  have HM := Lib.hid hM
  have HML := Lib.hid hm
  clear hM hm
  go_enter Try.func44, Try.ntmps44
  go_wp2
  go_loopw [3, 4] (fun v i wr => ∃ (k : Nat), k ≤ N ∧ i = .int .i64 k ∧ RowN w.heap.size (markedL (m.take k)) v wr ∧ Below w.heap.size w wr) (fun _ i _ => N - (intOf i).toNat)
  case atStart => exact ⟨0, Nat.zero_le _, rfl, RowN.empty w _ (Nat.le_refl _), (Below.refl _ w).alloc (Nat.le_refl _) _⟩
  case round =>
    obtain ⟨k, hk, rfl, ⟨g, cap, rfl, ho⟩, hb⟩ := hrel
    by_cases hlt : k < N
    · have hkm : k < m.length := by have := HML.out; omega
      obtain ⟨b, hmb⟩ : ∃ b, m[k]? = some b := ⟨_, List.getElem?_eq_getElem hkm⟩
      have c0 : wr.cell? ⟨G, k, none⟩ = some (.bool b) := (hb.cell (p := ⟨G, k, none⟩) hG).trans (HM.out.cell hlt hmb)
      have HS : Hid (m.take (k + 1) = m.take k ++ [b]) := Lib.hid (by rw [List.take_add_one, hmb]; rfl)
      have HT : Hid ((m.take k).length = k) := Lib.hid (by rw [List.length_take]; omega)
      have hsz := hb.size
      have hll : (markedL (m.take k)).length ≤ 200 := by
        have := markedL_length_le (m.take k)
        rw [HT.out] at this
        omega
      clear hmb hkm
      cases b
      · have HN : Hid (markedL (m.take (k + 1)) = markedL (m.take k)) := Lib.hid (by rw [HS.out, markedL_snoc]; simp)
        go_wp2
        go_roundw
        case rel => exact ⟨k + 1, by omega, by go_num, by rw [HN.out]; exact ⟨g, cap, rfl, ho⟩, hb⟩
        case measure => simp [intOf]; omega
      · have HN : Hid (markedL (m.take (k + 1)) = markedL (m.take k) ++ [k]) := Lib.hid (by rw [HS.out, markedL_snoc, HT.out]; simp)
        go_wp2_with (at_builtin; refine wpList_append_own _ rfl _ _ 28 rfl w.heap.size TI i0 (.int .i64 0) 1 8 Try.underlying28 hi hz0 hz1 hz2 rfl (by decide) _ _ _ rfl (ho.alloc _) ⟨wr.heap.size, 0, none⟩ 1 1 [.int .i64 (k : Int)] rfl rfl ?c1 ?c2 ?c3 ?c4 ?c5 ?_)
        case c1 =>
          intro j u hj
          match j, hj with
          | 0, hj => simp at hj; subst hj; simp [Addr.add]
        case c2 => intro u hu; simp at hu; subst hu; rfl
        case c3 => unfold maxLen; omega
        case c4 => omega
        case c5 => simp; omega
        intro v' w2 hown' hgrow hnil
        obtain ⟨g2, cap2, rfl⟩ := ownsRow_some hown' hnil
        have HR : Hid (RowN w.heap.size (markedL (m.take (k + 1))) (.slice (some ⟨g2, 0, none⟩) ((markedL (m.take k)).length + 1) cap2) w2) := Lib.hid (by
          rw [HN.out]
          refine ⟨g2, cap2, by simp, ?_⟩
          simpa [natV] using hown')
        have hb2 : Below w.heap.size w w2 := (hb.alloc hsz _).grown hgrow (by simp; omega) (fun j hj => (ho.lt j hj).1)
        clear hown' hgrow hnil
        go_wp2
        go_roundw
        case rel => exact ⟨k + 1, by omega, by go_num, HR.out, hb2⟩
        case measure => simp [intOf]; omega
    · have HR : Hid (RowN w.heap.size (markedL m) (.slice (some ⟨g, 0, none⟩) (markedL (m.take k)).length cap) wr) := Lib.hid (by
        have e : m.take k = m := List.take_of_length_le (by have := HML.out; omega)
        rw [e] at ho ⊢
        exact ⟨g, cap, rfl, ho⟩)
      go_wp2
      go_ret
      exact ⟨_, rfl, HR.out, hb⟩

/-! ### Reach -/

theorem check_calm (n₀ : Nat) (n : Int) (ad : Option Addr) (cap : Nat) (es : List (Int × Int)) (w : World) (hE : EdgesA n₀ w ad es) (hl : es.length ≤ 9223372036854775807) :
    Calls Try.prog 14 #[.int .i64 n, .slice ad es.length cap] w fun e w' => e = .returned (.int .i64 (chkE n es)) ∧ Below w.heap.size w w' ∧ w'.heap.size = w.heap.size := by
  refine (check_any n₀ n ad cap es w hE hl).mono ?_
  rintro e w' ⟨rfl, m, rfl⟩
  exact ⟨rfl, ⟨rfl, rfl, rfl, Nat.le_refl _, fun _ _ => rfl⟩, rfl⟩

theorem chkL_ok {n : Int} {p : Option (Int × Int)} {es : List (Int × Int)} (h : chkL n p es = 0) : ∀ e ∈ es, ¬ badE n e := by
  induction es generalizing p with
  | nil => simp
  | cons e r ih =>
    rw [chkL] at h
    by_cases hb : badE n e
    · rw [if_pos hb] at h; cases h
    · rw [if_neg hb] at h
      by_cases hlo : lowO p e
      · rw [if_pos hlo] at h; cases h
      · rw [if_neg hlo] at h
        intro x hx
        rcases List.mem_cons.1 hx with rfl | hx
        · exact hb
        · exact ih h x hx
theorem chk_ok {n : Int} {es : List (Int × Int)} (h : chkE n es = 0) : ∃ N : Nat, n = (N : Int) ∧ N ≤ 200 ∧ es.length ≤ 2000 ∧ OkE N es := by
  unfold chkE at h
  by_cases h1 : n < 0 ∨ 200 < n
  · rw [if_pos h1] at h; cases h
  · rw [if_neg h1] at h
    by_cases h2 : 2000 < es.length
    · rw [if_pos h2] at h; cases h
    · rw [if_neg h2] at h
      refine ⟨n.toNat, by omega, by omega, by omega, fun e he => ?_⟩
      have := chkL_ok h e he
      unfold badE at this
      omega

/-- What Reach returns. -/
noncomputable def reachL (n : Int) (es : List (Int × Int)) (s : Int) : List Nat := if chkE n es = 0 ∧ 0 ≤ s ∧ s < n then markedL (reachB n.toNat (gN es) s.toNat) else []

set_option maxRecDepth 100000 in
set_option maxHeartbeats 2000000 in
theorem reach_any (n₀ : Nat) (n s : Int) (ad : Option Addr) (cap : Nat) (es : List (Int × Int)) (w : World) (hE : EdgesA n₀ w ad es) (hn₀ : n₀ ≤ w.heap.size) (hl : es.length ≤ 9223372036854775807) :
    Calls Try.prog 17 #[.int .i64 n, .slice ad es.length cap, .int .i64 s] w fun e w' => ∃ v, e = .returned v ∧ RowN w.heap.size (reachL n es s) v w' ∧ Below w.heap.size w w' := by
  have HE := Lib.hid hE
  by_cases hc : chkE n es = 0
  · by_cases hs : 0 ≤ s ∧ s < n
    · obtain ⟨hs0, hs1⟩ := hs
      have HR : Hid (reachL n es s = markedL (reachB n.toNat (gN es) s.toNat)) := Lib.hid (by unfold reachL; rw [if_pos ⟨hc, hs0, hs1⟩])
      obtain ⟨N, rfl, hN, hl2, hok⟩ := chk_ok hc
      obtain ⟨t, rfl⟩ := Int.eq_ofNat_of_zero_le hs0
      have hck := check_calm n₀ (N : Int) ad cap es w hE hl
      rw [hc] at hck
      have HCK := Lib.hid hck
      have HOK := Lib.hid hok
      have ht : t < N := by omega
      rw [Int.toNat_natCast, Int.toNat_natCast] at HR
      clear hE hc hck hok hs0
      go_enter Try.func17, Try.ntmps17
      go_wp2_with fail
      refine HCK.out.mono ?_
      rintro e w1 ⟨rfl, b1, z1⟩
      have Z1 := Lib.hid z1
      have hr := reached_any n₀ N t ad cap es w1 (HE.out.below (b1.mono hn₀)) (by omega) hl2 hN ht HOK.out
      rw [z1] at hr
      have HRR := Lib.hid hr
      clear z1 hr
      go_wp2_with fail
      refine HRR.out.mono ?_
      rintro e w2 ⟨rfl, m2, b2⟩
      have hlt : w.heap.size < w2.heap.size := m2.lt_size
      have hmk := marked_any w.heap.size w.heap.size N (reachB N (gN es) t) w2 m2 (reachB_length _ _ _) hN hlt
      have HMK := Lib.hid hmk
      have c2 := b1.trans b2
      clear hmk m2 hlt
      go_wp2_with fail
      refine HMK.out.mono ?_
      rintro e w3 ⟨v, rfl, h3, b3⟩
      have H3 := Lib.hid h3
      clear h3
      go_wp2
      go_ret
      refine ⟨_, rfl, ?_, c2.trans (b3.mono c2.size)⟩
      rw [HR.out]
      exact H3.out.base c2.size
    · have HR : Hid (reachL n es s = []) := Lib.hid (by unfold reachL; rw [if_neg (fun h => hs h.2)])
      have hck := check_calm n₀ n ad cap es w hE hl
      rw [hc] at hck
      have HCK := Lib.hid hck
      by_cases hs0 : s < 0
      · clear hE hc hck hs
        go_enter Try.func17, Try.ntmps17
        go_wp2_with fail
        refine HCK.out.mono ?_
        rintro e w1 ⟨rfl, b1, z1⟩
        have HL : Hid (w.heap.size ≤ w1.heap.size) := Lib.hid b1.size
        clear z1
        go_wp2
        go_ret
        refine ⟨_, rfl, ?_, b1.alloc HL.out _⟩
        rw [HR.out]
        exact RowN.empty w1 _ HL.out
      · have hs1 : n ≤ s := by
          have : ¬ s < n := fun h => hs ⟨by omega, h⟩
          omega
        clear hE hc hck hs
        go_enter Try.func17, Try.ntmps17
        go_wp2_with fail
        refine HCK.out.mono ?_
        rintro e w1 ⟨rfl, b1, z1⟩
        have HL : Hid (w.heap.size ≤ w1.heap.size) := Lib.hid b1.size
        clear z1
        go_wp2
        go_ret
        refine ⟨_, rfl, ?_, b1.alloc HL.out _⟩
        rw [HR.out]
        exact RowN.empty w1 _ HL.out
  · have HR : Hid (reachL n es s = []) := Lib.hid (by unfold reachL; rw [if_neg (fun h => hc h.1)])
    have hck := check_calm n₀ n ad cap es w hE hl
    have hcb : (chkE n es != 0) = true := by simpa using hc
    obtain ⟨c, hce⟩ : ∃ c, chkE n es = c := ⟨_, rfl⟩
    rw [hce] at hck hcb
    have HCK := Lib.hid hck
    clear hE hc hck hce
    go_enter Try.func17, Try.ntmps17
    go_wp2_with fail
    refine HCK.out.mono ?_
    rintro e w1 ⟨rfl, b1, z1⟩
    have HL : Hid (w.heap.size ≤ w1.heap.size) := Lib.hid b1.size
    clear z1
    go_wp2
    go_ret
    refine ⟨_, rfl, ?_, b1.alloc HL.out _⟩
    rw [HR.out]
    exact RowN.empty w1 _ HL.out

end Go.Proofs.Ytcggmonnajggcaa
