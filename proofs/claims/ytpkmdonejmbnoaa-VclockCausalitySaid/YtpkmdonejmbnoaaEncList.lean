/-
  What codec's List returns, for every slice of ints; that awake is true.
-/
import Derived.Test.YtpkmdonejmbnoaaEnc
namespace Go.Proofs.Ytpkmdonejmbnoaa
open Go.RowKit

/-- The slice value sv holds the ints zs in a block below n₀, or it is nil and there are none. -/
def Ints (n₀ : Nat) (W : World) (sv : Value) (zs : List Int) : Prop :=
  (sv = .slice none 0 0 ∧ zs = []) ∨ ∃ b off cap, sv = .slice (some ⟨b, off, none⟩) zs.length cap ∧ b < n₀ ∧ ∀ j, j < zs.length → W.cell? ⟨b, off + j, none⟩ = some (.int .i64 (zs[j]?.getD 0))
theorem Ints.below {n₀ : Nat} {A B : World} (h : Below n₀ A B) {sv : Value} {zs : List Int} : Ints n₀ A sv zs → Ints n₀ B sv zs
  | .inl e => .inl e
  | .inr ⟨b, off, cap, e, hb, hc⟩ => .inr ⟨b, off, cap, e, hb, fun j hj => (h.cell (p := ⟨b, off + j, none⟩) hb).trans (hc j hj)⟩

def encList (zs : List Int) : List UInt8 := zs.flatMap encInt ++ [1]
def AllR (zs : List Int) : Prop := ∀ n ∈ zs, InR n
instance (zs : List Int) : Decidable (AllR zs) := by unfold AllR; infer_instance
def listE (zs : List Int) : Int := if 20000 < zs.length then 4 else if AllR zs then 0 else 2
def listL (zs : List Int) : List UInt8 := if 20000 < zs.length then [] else if AllR zs then encList zs else []

theorem flat_length (zs : List Int) (h : AllR zs) : (zs.flatMap encInt).length ≤ 9 * zs.length := by
  induction zs with
  | nil => simp
  | cons n r ih =>
    have h1 := encInt_length_le (h n (by simp))
    have h2 := ih fun x hx => h x (by simp [hx])
    rw [List.flatMap_cons, List.length_append, List.length_cons]
    omega
theorem take_snocZ (zs : List Int) (k : Nat) (h : k < zs.length) : zs.take (k + 1) = zs.take k ++ [zs[k]?.getD 0] := by
  rw [List.take_succ_eq_append_getElem h]; simp [h]

set_option maxHeartbeats 1000000 in
theorem list_nil (w : World) :
    Calls Try.prog 47 #[.slice none 0 0] w fun e w' => e = .returned (.tuple #[.string (strOf (listL [])), .int .i64 (listE [])]) ∧ Below w.heap.size w w' := by
  go_enter Try.func47, Try.ntmps47
  go_wp2
  go_loopw [12] (fun i wr => i = .int .i64 0 ∧ Bld none w.heap.size w.heap.size (Lib.byteCells []) wr ∧ Below w.heap.size w wr) (fun _ _ => 0)
  case atStart => exact ⟨rfl, Bld.fresh w, (Below.refl _ w).alloc (Nat.le_refl _) _⟩
  case round =>
    obtain ⟨rfl, hB, hb⟩ := hrel
    go_wp2_with fail
    refine (writeB w.heap.size w.heap.size _ _ 1 rfl _ hB (by simp)).mono ?_
    rintro e w1 ⟨rfl, hB1, hb1⟩
    go_wp2_with fail
    refine (readOut w.heap.size w.heap.size _ _ hB1).mono ?_
    rintro e w2 ⟨rfl, hb2⟩
    go_wp2
    go_ret2
    exact ⟨rfl, (hb.trans hb1).trans hb2⟩

set_option maxHeartbeats 1000000 in
theorem list_some (b off cap : Nat) (zs : List Int) (w : World) (hb : b < w.heap.size) (hlen : zs.length ≤ 9223372036854775807) (hc : ∀ j, j < zs.length → w.cell? ⟨b, off + j, none⟩ = some (.int .i64 (zs[j]?.getD 0))) :
    Calls Try.prog 47 #[.slice (some ⟨b, off, none⟩) zs.length cap] w fun e w' => e = .returned (.tuple #[.string (strOf (listL zs)), .int .i64 (listE zs)]) ∧ Below w.heap.size w w' := by
  by_cases hl : 20000 < zs.length
  · unfold listL listE
    rw [if_pos hl, if_pos hl]
    clear hc
    go_enter Try.func47, Try.ntmps47
    go_wp2
    go_ret2
    exact ⟨rfl, Below.refl _ _⟩
  · have hl' : zs.length ≤ 20000 := by omega
    have HE := Lib.hid (show listE zs = if AllR zs then 0 else 2 by unfold listE; rw [if_neg hl])
    have HL := Lib.hid (show listL zs = if AllR zs then encList zs else [] by unfold listL; rw [if_neg hl])
    have HC := Lib.hid hc
    clear hl hc
    go_enter Try.func47, Try.ntmps47
    go_wp2
    go_loopw [12] (fun i wr => ∃ k : Nat, k ≤ zs.length ∧ i = .int .i64 k ∧ AllR (zs.take k) ∧ Bld none w.heap.size w.heap.size (Lib.byteCells ((zs.take k).flatMap encInt)) wr ∧ Below w.heap.size w wr) (fun i _ => zs.length - (intOf i).toNat)
    case atStart => exact ⟨0, Nat.zero_le _, rfl, by intro n hn; simp at hn, by simpa [Lib.byteCells] using Bld.fresh w, (Below.refl _ w).alloc (Nat.le_refl _) _⟩
    case round =>
      obtain ⟨k, hk, rfl, hall, hB, hbw⟩ := hrel
      have hel := flat_length _ hall
      have htl : (zs.take k).length ≤ k := List.length_take_le _ _
      have HA := Lib.hid hall
      clear hall
      by_cases hlt : k < zs.length
      · have cx0 : wr.cell? ⟨b, off + k, none⟩ = some (.int .i64 (zs[k]?.getD 0)) := (hbw.cell (p := ⟨b, off + k, none⟩) hb).trans (HC.out k hlt)
        have hs0 := take_snocZ zs k hlt
        have hm0 : zs[k]?.getD 0 ∈ zs := by simp [hlt]
        obtain ⟨x, cx, HS, HM⟩ : ∃ x, wr.cell? ⟨b, off + k, none⟩ = some (.int .i64 x) ∧ Hid (zs.take (k + 1) = zs.take k ++ [x]) ∧ Hid (x ∈ zs) := ⟨_, cx0, Lib.hid hs0, Lib.hid hm0⟩
        clear cx0 hs0 hm0
        by_cases hn : InR x
        · have hd : decide (InR x) = true := by simp only [hn, decide_true]
          have HN := Lib.hid hn
          clear hn
          go_wp2_with (go_at_call 61; refine (inRange_any _ _).mono ?_; rintro e w' ⟨rfl, rfl⟩)
          refine (writeInt_any w.heap.size w.heap.size _ _ _ hB HN.out (by rw [Lib.byteCells_length]; omega)).mono ?_
          rintro e w1 ⟨rfl, hB1, hb1⟩
          go_wp2
          go_roundw
          case rel =>
            refine ⟨k + 1, by omega, by go_num, ?_, ?_, hbw.trans hb1⟩
            · rw [HS.out]
              intro y hy
              rcases List.mem_append.1 hy with h | h
              · exact HA.out y h
              · simp only [List.mem_singleton] at h; rw [h]; exact HN.out
            · rw [HS.out, List.flatMap_append, Lib.byteCells_append]
              simpa using hB1
          case measure => simp [intOf]; omega
        · have hd : decide (InR x) = false := by simp only [hn, decide_false]
          have HN := Lib.hid hn
          clear hn
          go_wp2_with (go_at_call 61; refine (inRange_any _ _).mono ?_; rintro e w' ⟨rfl, rfl⟩)
          go_ret2
          have hna : ¬ AllR zs := fun h => HN.out (h _ HM.out)
          rw [HE.out, HL.out, if_neg hna, if_neg hna]
          exact ⟨rfl, hbw⟩
      · go_wp2_with fail
        refine (writeB w.heap.size w.heap.size _ _ 1 rfl _ hB (by omega)).mono ?_
        rintro e w1 ⟨rfl, hB1, hb1⟩
        go_wp2_with fail
        refine (readOut w.heap.size w.heap.size _ _ hB1).mono ?_
        rintro e w2 ⟨rfl, hb2⟩
        go_wp2
        go_ret2
        have hall := HA.out
        rw [List.take_of_length_le (by omega)] at hall ⊢
        rw [HE.out, HL.out, if_pos hall, if_pos hall]
        exact ⟨rfl, (hbw.trans hb1).trans hb2⟩

theorem list_any (sv : Value) (zs : List Int) (w : World) (h : Ints w.heap.size w sv zs) (hlen : zs.length ≤ 9223372036854775807) :
    Calls Try.prog 47 #[sv] w fun e w' => e = .returned (.tuple #[.string (strOf (listL zs)), .int .i64 (listE zs)]) ∧ Below w.heap.size w w' := by
  rcases h with ⟨rfl, rfl⟩ | ⟨b, off, cap, rfl, hb, hc⟩
  · exact list_nil w
  · exact list_some b off cap zs w hb hlen hc

end Go.Proofs.Ytpkmdonejmbnoaa
