/-
  What the statements' added returns: timers added one after the other.
-/
import Derived.Test.YtcmcgcogahkamaaTmSame
namespace Go.Proofs.Ytcmcgcogahkamaa
open Go.RowKit Go.Shelf

/-- What comes of adding one after the other. -/
def adds : List Tm → List Tm → Option (List Tm)
  | q, [] => some q
  | q, t :: r => if addE q t = 0 then adds (addQ q t) r else none
def addsB (ts : List Tm) : Bool := (adds [] ts).isSome
def addsL (ts : List Tm) : List Tm := (adds [] ts).getD []
theorem addQ_length (q : List Tm) (t : Tm) : (addQ q t).length ≤ q.length + 1 := by
  unfold addQ
  split
  · rw [insL_length]
    have := woL_length q t.2.1 t.2.2
    omega
  · simp
/-- A call that returns timers in a block of its own and a bool. -/
def RetTB (zs : List Tm) (x : Bool) (w : World) (e : Ending) (w' : World) : Prop := ∃ v, e = .returned (.tuple #[v, .bool x]) ∧ FtC w.heap.size w' v zs ∧ Below w.heap.size w w'

set_option maxRecDepth 100000 in
set_option maxHeartbeats 2000000 in
theorem added_any (v : Value) (ts : List Tm) (w : World) (hK : KtC w v ts) (hl : ts.length ≤ 100) : Calls Try.prog 26 #[v] w (RetTB (addsL ts) (addsB ts) w) := by
  obtain ⟨ad, cap, rfl, hc1, hc2, hA⟩ := hK
  have HA := Lib.hid hA
  have H0 : Hid (adds [] ts = adds [] (ts.drop 0)) := Lib.hid rfl
  clear hA
  go_enter Try.func26, Try.ntmps26
  go_wp2
  go_loopw [4, 11] (fun y x wr => ∃ (k : Nat) (u : Value) (q : List Tm), u = y ∧ k ≤ ts.length ∧ x = .int .i64 k ∧ q.length ≤ k ∧ Hid (adds [] ts = adds q (ts.drop k)) ∧ Hid (FtC w.heap.size wr u q) ∧ Hid (Below w.heap.size w wr)) (fun _ x _ => ts.length - (intOf x).toNat)
  case atStart => exact ⟨0, _, [], rfl, Nat.zero_le _, rfl, Nat.zero_le _, H0, Lib.hid (FtC.nil _ _ _ _ (by omega)), Lib.hid (Below.refl _ _)⟩
  case round =>
    obtain ⟨k, u, q, rfl, hk, rfl, hq, HI, HF, HB⟩ := hrel
    by_cases hkt : k < ts.length
    · have k1 : (k : Int) < (ts.length : Int) := by omega
      have hAr := HA.out.below HB.out
      obtain ⟨bk, off, rfl, _, hbk, c0, c1, c2⟩ := hAr k hkt
      obtain ⟨⟨a, b, c⟩, ht⟩ : ∃ t, gt ts k = t := ⟨_, rfl⟩
      rw [ht] at c0 c1 c2
      simp only [] at c0 c1 c2
      have hba : Below wr.heap.size wr (wr.alloc (.cells #[.int .i64 a, .int .i64 b, .int .i64 c] TT)) := (Below.refl _ wr).alloc (Nat.le_refl _) _
      have hAD := tAdd_any u q a b c (wr.alloc (.cells #[.int .i64 a, .int .i64 b, .int .i64 c] TT)) (HF.out.below hba).known (by omega)
      unfold tmA encT at hAD
      dsimp only at hAD
      have HBA := Lib.hid (HB.out.trans (hba.mono HB.out.size))
      by_cases he : addE q (a, b, c) = 0
      · have HI' : Hid (adds [] ts = adds (addQ q (a, b, c)) (ts.drop (k + 1))) := Lib.hid (by
          rw [HI.out, drop_consT ts k hkt, ht]
          conv => lhs; unfold adds
          rw [if_pos he])
        have HLN := Lib.hid (addQ_length q (a, b, c))
        rw [he] at hAD
        have HAD := Lib.hid hAD
        generalize addQ q (a, b, c) = q2 at *
        clear he ht hba hAD hAr
        go_wp2_with fail
        refine HAD.out.mono ?_
        rintro e w4 ⟨v4, rfl, hf4, b4⟩
        have HF4 := Lib.hid (hf4.mono HBA.out.size)
        have HB4 := Lib.hid (HBA.out.trans (b4.mono HBA.out.size))
        clear hf4 b4
        go_wp2
        go_roundw
        case rel => exact ⟨k + 1, v4, q2, rfl, by omega, by go_num, by have := HLN.out; omega, HI', HF4, HB4⟩
        case measure => simp [intOf]; omega
      · have HI' : Hid (adds [] ts = none) := Lib.hid (by
          rw [HI.out, drop_consT ts k hkt, ht]
          unfold adds
          rw [if_neg he])
        obtain ⟨x, hx⟩ : ∃ x, addE q (a, b, c) = x := ⟨_, rfl⟩
        rw [hx] at he hAD
        have hxb : (x != 0) = true := by simpa using he
        have HAD := Lib.hid hAD
        clear he ht hba hAD hAr hx
        go_wp2_with fail
        refine HAD.out.mono ?_
        rintro e w4 ⟨v4, rfl, hf4, b4⟩
        have HB4 := Lib.hid (HBA.out.trans (b4.mono HBA.out.size))
        clear hf4 b4
        go_wp2
        go_ret2
        exact ⟨_, by unfold addsB; rw [HI'.out]; rfl, by unfold addsL; rw [HI'.out]; exact FtC.nil _ _ _ _ (by omega), HB4.out⟩
    · obtain rfl : k = ts.length := by omega
      have HI' : Hid (adds [] ts = some q) := Lib.hid (by rw [HI.out, List.drop_length]; rfl)
      go_wp2
      go_ret2
      exact ⟨_, by unfold addsB; rw [HI'.out]; rfl, by unfold addsL; rw [HI'.out]; exact HF.out, HB.out⟩

end Go.Proofs.Ytcmcgcogahkamaa
