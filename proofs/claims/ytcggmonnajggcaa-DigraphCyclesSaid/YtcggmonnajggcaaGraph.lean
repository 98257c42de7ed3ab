/-
  Lists of edges in memory; what the reference's Great, Has and Check of digraph return.
-/
import Derived.Test.YtcggmonnajggcaaProg
import Derived.WalkKit
import Derived.WalkSpells
import Derived.WalkLawsBesides
import Derived.BigCall
import Derived.Lib.Hide
import Derived.Lib.Builder
import Derived.Deep.QuietTactic
import Derived.BigQuiet
import Derived.IntWalk
namespace Go.Proofs.Ytcggmonnajggcaa
open Go.RowKit

/-- The slice with this address holds the edges es, in a block below n₀. -/
def EdgesA (n₀ : Nat) (W : World) (ad : Option Addr) (es : List (Int × Int)) : Prop :=
  ∀ j, j < es.length → ∃ b off, ad = some ⟨b, off, none⟩ ∧ b < n₀ ∧ W.cell? ⟨b, off + j * 2, none⟩ = some (.int .i64 (es[j]?.getD (0, 0)).1) ∧ W.cell? ⟨b, off + j * 2 + 1, none⟩ = some (.int .i64 (es[j]?.getD (0, 0)).2)
theorem EdgesA.below {n₀ : Nat} {A B : World} (h : Below n₀ A B) {ad : Option Addr} {es : List (Int × Int)} (hE : EdgesA n₀ A ad es) : EdgesA n₀ B ad es := fun j hj => by
  obtain ⟨b, off, e, hb, h1, h2⟩ := hE j hj
  exact ⟨b, off, e, hb, (h.cell (p := ⟨b, off + j * 2, none⟩) hb).trans h1, (h.cell (p := ⟨b, off + j * 2 + 1, none⟩) hb).trans h2⟩
theorem EdgesA.mono {n m : Nat} {A : World} (hnm : n ≤ m) {ad : Option Addr} {es : List (Int × Int)} (hE : EdgesA n A ad es) : EdgesA m A ad es := fun j hj => by
  obtain ⟨b, off, e, hb, h⟩ := hE j hj
  exact ⟨b, off, e, by omega, h⟩
theorem EdgesA.some_ {n : Nat} {A : World} {ad : Option Addr} {es : List (Int × Int)} (hE : EdgesA n A ad es) (h : 0 < es.length) : ∃ b off, ad = some ⟨b, off, none⟩ ∧ b < n ∧ ∀ j, j < es.length → A.cell? ⟨b, off + j * 2, none⟩ = some (.int .i64 (es[j]?.getD (0, 0)).1) ∧ A.cell? ⟨b, off + j * 2 + 1, none⟩ = some (.int .i64 (es[j]?.getD (0, 0)).2) := by
  obtain ⟨b, off, e, hb, _⟩ := hE 0 h
  refine ⟨b, off, e, hb, fun j hj => ?_⟩
  obtain ⟨b', off', e', hb', h'⟩ := hE j hj
  rw [e] at e'
  cases e'
  exact h'

theorem take_snocE (es : List (Int × Int)) (k : Nat) (h : k < es.length) : es.take (k + 1) = es.take k ++ [es[k]?.getD (0, 0)] := by
  rw [List.take_succ_eq_append_getElem h]; simp [h]

def hasE (es : List (Int × Int)) (x y : Int) : Bool := es.any fun e => e.1 == x && e.2 == y
theorem hasE_snoc (es : List (Int × Int)) (e : Int × Int) (x y : Int) : hasE (es ++ [e]) x y = (hasE es x y || (e.1 == x && e.2 == y)) := by simp [hasE]
theorem hasE_of_take {es : List (Int × Int)} {k : Nat} {x y : Int} (h : hasE (es.take k) x y = true) : hasE es x y = true := by
  unfold hasE at *
  rw [List.any_eq_true] at *
  obtain ⟨e, he, h⟩ := h
  exact ⟨e, List.mem_of_mem_take he, h⟩

set_option maxHeartbeats 1000000 in
theorem has_any (n₀ : Nat) (ad : Option Addr) (cap : Nat) (es : List (Int × Int)) (x y : Int) (w : World) (hE : EdgesA n₀ w ad es) (hl : es.length ≤ 9223372036854775807) :
    Calls Try.prog 64 #[.slice ad es.length cap, .int .i64 x, .int .i64 y] w fun e w' => e = .returned (.bool (hasE es x y)) ∧ w' = w := by
  have HE := Lib.hid hE
  clear hE
  go_enter Try.func64, Try.ntmps64
  go_wp2
  go_loop [7] (fun i => ∃ k : Nat, k ≤ es.length ∧ i = .int .i64 k ∧ Hid (hasE (es.take k) x y = false)) (fun i => es.length - (intOf i).toNat)
  case atStart => exact ⟨0, Nat.zero_le _, rfl, Lib.hid rfl⟩
  case round =>
    obtain ⟨k, hk, rfl, HH⟩ := hrel
    by_cases hlt : k < es.length
    · obtain ⟨b, off, rfl, _, hc⟩ := HE.out.some_ (by omega)
      obtain ⟨c1, c2⟩ := hc k hlt
      have HS := Lib.hid (take_snocE es k hlt)
      obtain ⟨⟨u, v⟩, hx⟩ : ∃ e, es[k]?.getD (0, 0) = e := ⟨_, rfl⟩
      rw [hx] at c1 c2 HS
      simp only [] at c1 c2
      clear hc hx
      by_cases hx1 : u = x
      · by_cases hy1 : v = y
        · have HT : Hid (hasE es x y = true) := Lib.hid (hasE_of_take (k := k + 1) (by rw [HS.out, hasE_snoc]; simp [hx1, hy1]))
          have hb : (v == y) = true := by simpa using hy1
          have hb1 : (u == x) = true := by simpa using hx1
          clear hx1 hy1
          go_wp2
          go_ret
          rw [HT.out]
          exact ⟨rfl, rfl⟩
        · have hb : (v == y) = false := by simpa using hy1
          have hb1 : (u == x) = true := by simpa using hx1
          clear hx1 hy1
          go_wp2
          go_round
          case rel => exact ⟨k + 1, by omega, by go_num, Lib.hid (by rw [HS.out, hasE_snoc, HH.out]; simp [hb])⟩
          case measure => simp [intOf]; omega
      · have hb1 : (u == x) = false := by simpa using hx1
        clear hx1
        go_wp2
        go_round
        case rel => exact ⟨k + 1, by omega, by go_num, Lib.hid (by rw [HS.out, hasE_snoc, HH.out]; simp [hb1])⟩
        case measure => simp [intOf]; omega
    · have HH2 : Hid (hasE es x y = false) := Lib.hid (by have := HH.out; rwa [List.take_of_length_le (by omega)] at this)
      go_wp2
      go_ret
      rw [HH2.out]
      exact ⟨rfl, rfl⟩

/-! ### Great, Check -/

def greatE (n : Int) (es : List (Int × Int)) : Bool := (decide (12 < n) && decide (n ≤ 200)) || decide (40 < es.length)
theorem great_any (n : Int) (ad : Option Addr) (cap : Nat) (es : List (Int × Int)) (w : World) :
    Calls Try.prog 11 #[.int .i64 n, .slice ad es.length cap] w fun e w' => e = .returned (.bool (greatE n es)) ∧ w' = w := by
  by_cases h1 : 12 < n ∧ n ≤ 200
  · have h2 := h1.1
    have h3 := h1.2
    have HG : Hid (greatE n es = true) := Lib.hid (by unfold greatE; simp [h2, h3])
    clear h1
    go_enter Try.func11, Try.ntmps11
    go_wp2
    go_ret
    rw [HG.out]
    exact ⟨rfl, rfl⟩
  · by_cases h4 : 40 < es.length
    · have hd4 : decide ((40 : Int) < (es.length : Int)) = true := by simp; omega
      have HG : Hid (greatE n es = true) := Lib.hid (by unfold greatE; simp [h4])
      by_cases h2 : 12 < n
      · have h3 : ¬ n ≤ 200 := fun h3 => h1 ⟨h2, h3⟩
        clear h1
        go_enter Try.func11, Try.ntmps11
        go_wp2
        go_ret
        rw [HG.out]
        exact ⟨rfl, rfl⟩
      · clear h1
        go_enter Try.func11, Try.ntmps11
        go_wp2
        go_ret
        rw [HG.out]
        exact ⟨rfl, rfl⟩
    · have hd4 : decide ((40 : Int) < (es.length : Int)) = false := by simp; omega
      by_cases h2 : 12 < n
      · have h3 : ¬ n ≤ 200 := fun h3 => h1 ⟨h2, h3⟩
        have HG : Hid (greatE n es = false) := Lib.hid (by unfold greatE; simp [h2, h3, h4])
        clear h1
        go_enter Try.func11, Try.ntmps11
        go_wp2
        go_ret
        rw [HG.out]
        exact ⟨rfl, rfl⟩
      · have HG : Hid (greatE n es = false) := Lib.hid (by unfold greatE; simp [h2, h4])
        clear h1
        go_enter Try.func11, Try.ntmps11
        go_wp2
        go_ret
        rw [HG.out]
        exact ⟨rfl, rfl⟩

/-- An edge whose ends are no nodes; an edge that is not greater than the one before. -/
def badE (n : Int) (e : Int × Int) : Prop := e.1 < 0 ∨ n ≤ e.1 ∨ e.2 < 0 ∨ n ≤ e.2
def lowE (p e : Int × Int) : Prop := e.1 < p.1 ∨ (e.1 = p.1 ∧ e.2 ≤ p.2)
instance (n : Int) (e : Int × Int) : Decidable (badE n e) := by unfold badE; infer_instance
instance (p e : Int × Int) : Decidable (lowE p e) := by unfold lowE; infer_instance
def lowO : Option (Int × Int) → Int × Int → Prop
  | none, _ => False
  | some p, e => lowE p e
instance (p : Option (Int × Int)) (e : Int × Int) : Decidable (lowO p e) := by cases p <;> unfold lowO <;> infer_instance
def chkL (n : Int) : Option (Int × Int) → List (Int × Int) → Int
  | _, [] => 0
  | p, e :: r => if badE n e then 2 else if lowO p e then 9 else chkL n (some e) r
/-- What Check returns. -/
def chkE (n : Int) (es : List (Int × Int)) : Int := if n < 0 ∨ 200 < n then 2 else if 2000 < es.length then 4 else chkL n none es
def prevE (es : List (Int × Int)) (k : Nat) : Option (Int × Int) := if k = 0 then none else some (es[k - 1]?.getD (0, 0))
theorem drop_consE (es : List (Int × Int)) (k : Nat) (h : k < es.length) : es.drop k = es[k]?.getD (0, 0) :: es.drop (k + 1) := by
  rw [List.drop_eq_getElem_cons h]; simp [h]
theorem chk_bad {n : Int} {es : List (Int × Int)} {k : Nat} {e : Int × Int} (h : k < es.length) (he : es[k]?.getD (0, 0) = e) (hb : badE n e) (hi : chkL n none es = chkL n (prevE es k) (es.drop k)) : chkL n none es = 2 := by
  rw [hi, drop_consE es k h, he, chkL, if_pos hb]
theorem chk_low {n : Int} {es : List (Int × Int)} {k : Nat} {e p : Int × Int} (h : k < es.length) (he : es[k]?.getD (0, 0) = e) (hb : ¬ badE n e) (h0 : k ≠ 0) (hp : es[k - 1]?.getD (0, 0) = p) (hlo : lowE p e) (hi : chkL n none es = chkL n (prevE es k) (es.drop k)) : chkL n none es = 9 := by
  have e1 : prevE es k = some p := by unfold prevE; rw [if_neg h0, hp]
  rw [hi, drop_consE es k h, he, chkL, if_neg hb, e1, if_pos (show lowO (some p) e from hlo)]
theorem chk_next {n : Int} {es : List (Int × Int)} {k : Nat} {e : Int × Int} (h : k < es.length) (he : es[k]?.getD (0, 0) = e) (hb : ¬ badE n e) (hlo : k ≠ 0 → ¬ lowE (es[k - 1]?.getD (0, 0)) e) (hi : chkL n none es = chkL n (prevE es k) (es.drop k)) : chkL n none es = chkL n (prevE es (k + 1)) (es.drop (k + 1)) := by
  have e1 : prevE es (k + 1) = some e := by unfold prevE; rw [if_neg (by omega), Nat.add_sub_cancel, he]
  have e2 : ¬ lowO (prevE es k) e := by
    unfold prevE
    by_cases h0 : k = 0
    · rw [if_pos h0]; exact fun h => h
    · rw [if_neg h0]; exact hlo h0
  rw [hi, drop_consE es k h, he, chkL, if_neg hb, if_neg e2, e1]


set_option maxRecDepth 100000 in
set_option maxHeartbeats 4000000 in
theorem check_any (n₀ : Nat) (n : Int) (ad : Option Addr) (cap : Nat) (es : List (Int × Int)) (w : World) (hE : EdgesA n₀ w ad es) (hl : es.length ≤ 9223372036854775807) :
    Calls Try.prog 14 #[.int .i64 n, .slice ad es.length cap] w fun e w' => e = .returned (.int .i64 (chkE n es)) ∧ ∃ m, w' = w.drewN m := by
  by_cases hn : n < 0
  · have HC : Hid (chkE n es = 2) := Lib.hid (by unfold chkE; rw [if_pos (.inl hn)])
    clear hE
    go_enter Try.func14, Try.ntmps14
    go_wp2
    go_ret
    rw [HC.out]
    exact ⟨rfl, 0, rfl⟩
  · by_cases hn2 : 200 < n
    · have HC : Hid (chkE n es = 2) := Lib.hid (by unfold chkE; rw [if_pos (.inr hn2)])
      clear hE
      go_enter Try.func14, Try.ntmps14
      go_wp2
      go_ret
      rw [HC.out]
      exact ⟨rfl, 0, rfl⟩
    · by_cases hl2 : 2000 < es.length
      · have HC : Hid (chkE n es = 4) := Lib.hid (by unfold chkE; rw [if_neg (by omega), if_pos hl2])
        have hd2 : decide ((2000 : Int) < (es.length : Int)) = true := by simp; omega
        clear hE
        go_enter Try.func14, Try.ntmps14
        go_wp2
        go_ret
        rw [HC.out]
        exact ⟨rfl, 0, rfl⟩
      · have HC : Hid (chkE n es = chkL n none es) := Lib.hid (by unfold chkE; rw [if_neg (by omega), if_neg hl2])
        have HE := Lib.hid hE
        have hd2 : decide ((2000 : Int) < (es.length : Int)) = false := by simp; omega
        obtain ⟨R, hR⟩ : ∃ R, chkL n none es = R := ⟨_, rfl⟩
        rw [HC.out, hR]
        have H0 : Hid (R = chkL n (prevE es 0) (es.drop 0)) := Lib.hid (by rw [← hR]; rfl)
        have HC2 : Hid (R = chkL n none es) := Lib.hid hR.symm
        clear hE HC hR
        go_enter Try.func14, Try.ntmps14
        go_wp2
        go_loopw [5] (fun i wr => ∃ k m : Nat, k ≤ es.length ∧ i = .int .i64 k ∧ wr = w.drewN m ∧ Hid (R = chkL n (prevE es k) (es.drop k))) (fun i _ => es.length - (intOf i).toNat)
        case atStart => exact ⟨0, 0, Nat.zero_le _, rfl, rfl, H0⟩
        case round =>
          obtain ⟨k, m, hk, rfl, rfl, HI⟩ := hrel
          by_cases hlt : k < es.length
          · obtain ⟨b, off, rfl, _, hc⟩ := HE.out.some_ (by omega)
            obtain ⟨c1, c2⟩ := hc k hlt
            obtain ⟨⟨u, v⟩, hx⟩ : ∃ e, es[k]?.getD (0, 0) = e := ⟨_, rfl⟩
            rw [hx] at c1 c2
            simp only [] at c1 c2
            by_cases b1 : u < 0
            · have HR : Hid (R = 2) := Lib.hid (by rw [HC2.out]; exact chk_bad hlt hx (by unfold badE; simp only []; omega) (by rw [← HC2.out]; exact HI.out))
              clear hc hx
              go_wp2
              go_ret
              rw [HR.out]
              exact ⟨rfl, _, rfl⟩
            · by_cases b2 : n ≤ u
              · have HR : Hid (R = 2) := Lib.hid (by rw [HC2.out]; exact chk_bad hlt hx (by unfold badE; simp only []; omega) (by rw [← HC2.out]; exact HI.out))
                clear hc hx
                go_wp2
                go_ret
                rw [HR.out]
                exact ⟨rfl, _, rfl⟩
              · by_cases b3 : v < 0
                · have HR : Hid (R = 2) := Lib.hid (by rw [HC2.out]; exact chk_bad hlt hx (by unfold badE; simp only []; omega) (by rw [← HC2.out]; exact HI.out))
                  clear hc hx
                  go_wp2
                  go_ret
                  rw [HR.out]
                  exact ⟨rfl, _, rfl⟩
                · by_cases b4 : n ≤ v
                  · have HR : Hid (R = 2) := Lib.hid (by rw [HC2.out]; exact chk_bad hlt hx (by unfold badE; simp only []; omega) (by rw [← HC2.out]; exact HI.out))
                    clear hc hx
                    go_wp2
                    go_ret
                    rw [HR.out]
                    exact ⟨rfl, _, rfl⟩
                  · have hnb : ¬ badE n (u, v) := by unfold badE; simp only []; omega
                    by_cases h0 : k = 0
                    · have HN : Hid (R = chkL n (prevE es (k + 1)) (es.drop (k + 1))) := Lib.hid (by rw [HC2.out]; exact chk_next hlt hx hnb (fun h => absurd h0 h) (by rw [← HC2.out]; exact HI.out))
                      have gd : decide ((0 : Int) < (k : Int)) = false := by simp; omega
                      have gd2 : decide (0 < k) = false := by simp; omega
                      clear hc hx hnb h0
                      go_wp2_with fail
                      go_quiet (fail)
                      go_wp2
                      go_roundw
                      case rel => exact ⟨k + 1, _, by omega, by go_num, rfl, Lib.hid HN.out⟩
                      case measure => simp [intOf]; omega
                    · obtain ⟨d1, d2⟩ := hc (k - 1) (by omega)
                      obtain ⟨⟨u', v'⟩, hp⟩ : ∃ e, es[k - 1]?.getD (0, 0) = e := ⟨_, rfl⟩
                      rw [hp] at d1 d2
                      simp only [] at d1 d2
                      have gd : decide ((0 : Int) < (k : Int)) = true := by simp; omega
                      have gd2 : decide (0 < k) = true := by simp; omega
                      have k1 : (1 : Int) ≤ (k : Int) := by omega
                      have k2 : (0 : Int) ≤ (k : Int) - 1 := by omega
                      have k3 : (k : Int) - 1 < (es.length : Int) := by omega
                      have k4 : ((k : Int) - 1).toNat = k - 1 := by omega
                      by_cases o1 : u < u'
                      · have HR : Hid (R = 9) := Lib.hid (by rw [HC2.out]; exact chk_low hlt hx hnb h0 hp (.inl o1) (by rw [← HC2.out]; exact HI.out))
                        have g1 : decide (u < u') = true := by simpa using o1
                        clear hc hx hnb h0 hp o1
                        go_wp2_with fail
                        go_quiet (fail)
                        go_wp2
                        go_ret
                        rw [HR.out]
                        exact ⟨rfl, _, World.drewN_drewN _ _ _⟩
                      · have g1 : decide (u < u') = false := by simpa using o1
                        by_cases o2 : u = u'
                        · have g2 : (u == u') = true := by simpa using o2
                          by_cases o3 : v ≤ v'
                          · have HR : Hid (R = 9) := Lib.hid (by rw [HC2.out]; exact chk_low hlt hx hnb h0 hp (.inr ⟨o2, o3⟩) (by rw [← HC2.out]; exact HI.out))
                            have g3 : decide (v ≤ v') = true := by simpa using o3
                            clear hc hx hnb h0 hp o1 o2 o3
                            go_wp2_with fail
                            go_quiet (fail)
                            go_wp2
                            go_ret
                            rw [HR.out]
                            exact ⟨rfl, _, World.drewN_drewN _ _ _⟩
                          · have HN : Hid (R = chkL n (prevE es (k + 1)) (es.drop (k + 1))) := Lib.hid (by rw [HC2.out]; exact chk_next hlt hx hnb (fun _ h => by rw [hp] at h; unfold lowE at h; simp only [] at h; omega) (by rw [← HC2.out]; exact HI.out))
                            have g3 : decide (v ≤ v') = false := by simpa using o3
                            clear hc hx hnb h0 hp o1 o2 o3
                            go_wp2_with fail
                            go_quiet (fail)
                            go_wp2
                            go_roundw
                            case rel => exact ⟨k + 1, _, by omega, by go_num, rfl, Lib.hid HN.out⟩
                            case measure => simp [intOf]; omega
                        · have HN : Hid (R = chkL n (prevE es (k + 1)) (es.drop (k + 1))) := Lib.hid (by rw [HC2.out]; exact chk_next hlt hx hnb (fun _ h => by rw [hp] at h; unfold lowE at h; simp only [] at h; omega) (by rw [← HC2.out]; exact HI.out))
                          have g2 : (u == u') = false := by simpa using o2
                          clear hc hx hnb h0 hp o1 o2
                          go_wp2_with fail
                          go_quiet (fail)
                          go_wp2
                          go_roundw
                          case rel => exact ⟨k + 1, _, by omega, by go_num, rfl, Lib.hid HN.out⟩
                          case measure => simp [intOf]; omega
          · have HR : Hid (R = 0) := Lib.hid (by have := HI.out; rwa [List.drop_of_length_le (by omega), chkL] at this)
            go_wp2
            go_ret
            rw [HR.out]
            exact ⟨rfl, _, rfl⟩

end Go.Proofs.Ytcggmonnajggcaa
