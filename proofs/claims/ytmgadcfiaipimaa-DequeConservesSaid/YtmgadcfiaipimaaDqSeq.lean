/-
  The library's Contains and Clone over ints.
-/
import Derived.Laws.Externs
import Derived.Laws.NewBlocks
import Derived.Test.YtmgadcfiaipimaaDqMem
namespace Go.Proofs.Ytmgadcfiaipimaa
open Go.RowKit

def hasZ (zs : List Int) (x : Int) : Bool := decide (x ∈ zs)
theorem zs_drop {zs : List Int} {k : Nat} (h : k < zs.length) : zs.drop k = zs[k]?.getD 0 :: zs.drop (k + 1) := by
  rw [List.drop_eq_getElem_cons h]; simp [h]
set_option maxRecDepth 100000 in
set_option maxHeartbeats 1000000 in
theorem zIndex_any (v : Value) (zs : List Int) (x : Int) (w : World) (hK : KlC w v zs) (hl : zs.length ≤ 1000) :
    Calls Try.prog 49 #[v, .int .i64 x] w fun e w' => ∃ k : Int, e = .returned (.int .i64 k) ∧ decide (0 ≤ k) = hasZ zs x ∧ w = w' := by
  obtain ⟨ad, cap, rfl, hI, hl2⟩ := hK
  have HI := Lib.hid hI
  clear hI
  go_enter Try.func49, Try.ntmps49
  go_wp2
  go_loopw [8] (fun i wr => ∃ k : Nat, k ≤ zs.length ∧ i = .int .i64 k ∧ wr = w ∧ Hid (x ∈ zs ↔ x ∈ zs.drop k)) (fun i _ => zs.length - (intOf i).toNat)
  case atStart => exact ⟨0, Nat.zero_le _, rfl, rfl, Lib.hid (by simp)⟩
  case round =>
    obtain ⟨k, hk, rfl, rfl, HD⟩ := hrel
    by_cases hkt : k < zs.length
    · have k1 : (k : Int) < (zs.length : Int) := by omega
      obtain ⟨bk, off, rfl, hb, c0⟩ := HI.out k hkt
      have hd := zs_drop hkt
      obtain ⟨y, hy⟩ : ∃ y, zs[k]?.getD 0 = y := ⟨_, rfl⟩
      rw [hy] at c0 hd
      by_cases hxy : x = y
      · have hq : (x == y) = true := by simp [hxy]
        have HR : Hid (hasZ zs x = true) := Lib.hid (by unfold hasZ; rw [decide_eq_true_iff, HD.out, hd, hxy]; simp)
        clear hy hd hxy
        go_wp2
        go_ret
        exact ⟨_, rfl, by rw [HR.out]; simp, rfl⟩
      · have hq : (x == y) = false := by simp [hxy]
        have HD' : Hid (x ∈ zs ↔ x ∈ zs.drop (k + 1)) := Lib.hid (by rw [HD.out, hd]; simp [hxy])
        clear hy hd hxy
        go_wp2
        go_roundw
        case rel => exact ⟨k + 1, by omega, by go_num, by trivial, HD'⟩
        case measure => simp [intOf]; omega
    · obtain rfl : k = zs.length := by omega
      have HR : Hid (hasZ zs x = false) := Lib.hid (by unfold hasZ; rw [decide_eq_false_iff_not, HD.out]; simp)
      go_wp2
      go_ret
      exact ⟨_, rfl, by rw [HR.out]; rfl, rfl⟩
set_option maxRecDepth 100000 in
theorem zContains_any (v : Value) (zs : List Int) (x : Int) (w : World) (hK : KlC w v zs) (hl : zs.length ≤ 1000) :
    Calls Try.prog 36 #[v, .int .i64 x] w fun e w' => e = .returned (.bool (hasZ zs x)) ∧ w = w' := by
  have HI := Lib.hid (zIndex_any v zs x w hK hl)
  clear hK
  go_enter Try.func36, Try.ntmps36
  go_wp2_with fail
  refine HI.out.mono ?_
  rintro e w1 ⟨k, rfl, hk, rfl⟩
  have HK := Lib.hid hk
  clear hk
  go_wp2
  go_ret
  exact ⟨by rw [← HK.out]; rfl, rfl⟩

set_option maxRecDepth 100000 in
set_option maxHeartbeats 2000000 in
/-- Clone. -/
theorem zClone_any (v : Value) (zs : List Int) (w : World) (hK : KZ w v zs) (hl : zs.length ≤ 1000) :
    Calls Try.prog 25 #[v] w fun e w' => ∃ v, e = .returned v ∧ OwnZ w.heap.size zs v w' ∧ Below w.heap.size w w' := by
  obtain ⟨i3, ki, kz0, kz1, kz2⟩ := info_parts infoZ
  obtain ⟨ad, cap, rfl, hc1, hc2, hE⟩ := hK
  have q22 : ∀ (w : World) (a : Option Addr) (n c n' c' : Nat), (binOp .eql 22 (.slice a n c) (.slice none n' c')).run Try.prog w = .ok (.bool a.isNone) w := fun w a n c n' c' => Lib.run_eql_slice_nil w _ _ a n c n' c' Try.underlying22
  cases ad with
  | none =>
    have hz : zs = [] := by
      cases zs with
      | nil => rfl
      | cons x xs =>
        obtain ⟨b, off, e, _⟩ := hE 0 (by simp)
        cases e
    subst hz
    clear hE
    go_enter Try.func25, Try.ntmps25
    go_wp2
    go_ret
    exact ⟨_, rfl, OwnZ.nil _ _, Below.refl _ _⟩
  | some q =>
    have hc : ∀ j u, (intV zs)[j]? = some u → (w.alloc (.cells #[] TZ)).cell? (q.add j) = some u := by
      intro j u hj
      have hlt : j < (intV zs).length := (List.getElem?_eq_some_iff.1 hj).1
      rw [intV_length] at hlt
      obtain ⟨b, off, e, _, h⟩ := hE j hlt
      cases e
      rw [Addr.add_lit]
      refine Lib.cell?_alloc_some _ ?_
      rw [h, ← hj, intV_get _ hlt]
      rfl
    have HC := Lib.hid hc
    clear hc hE
    go_enter Try.func25, Try.ntmps25
    go_wp2_with (at_builtin; refine wpList_append_own _ rfl _ _ 22 rfl w.heap.size TZ i3 (.int .i64 0) 1 8 Try.underlying22 ki kz0 kz1 kz2 rfl (by decide) _ _ _ rfl (World.ownsRow_made w #[] 0 (Nat.le_refl _) (Nat.zero_le _) rfl) q zs.length cap (intV zs) rfl ?qc1 HC.out (intV_one _) ?qc4 ?qc5 ?qc6 ?_)
    case qc1 => rw [intV_length, Nat.mul_one]
    case qc4 => unfold maxLen; omega
    case qc5 => omega
    case qc6 => simp
    intro v' w1 hown hgrow hnil
    go_wp2
    go_ret
    refine ⟨v', rfl, ?_, ((Below.refl _ w).alloc (Nat.le_refl _) _).grown hgrow (by simp) (by intro k hk; simp [Value.ownBlock] at hk; omega)⟩
    unfold OwnZ
    simpa using hown

end Go.Proofs.Ytmgadcfiaipimaa
