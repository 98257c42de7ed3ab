/-
  What codec's List and the reference's List return, for every slice of ints.
-/
import Derived.Test.YtpkmdonejmbnoaaRefInt
import Derived.Test.YtpkmdonejmbnoaaSame
namespace Go.Proofs.Ytpkmdonejmbnoaa
open Go.RowKit

set_option maxHeartbeats 1000000 in
theorem list_empty (ad : Option Addr) (cap : Nat) (w : World) :
    Calls Try.prog 47 #[.slice ad 0 cap] w fun e w' => e = .returned (.tuple #[.string (strOf (listL [])), .int .i64 (listE [])]) ∧ Below w.heap.size w w' := by
  go_enter Try.func47, Try.ntmps47
  go_wp2
  go_loopw [12] (fun i wr => i = .int .i64 0 ∧ Bld none w.heap.size w.heap.size (Lib.byteCells []) wr ∧ Below w.heap.size w wr) (fun _ _ => 0)
  case atStart => exact ⟨rfl, Bld.fresh w, (Below.refl _ w).alloc (Nat.le_refl _) _⟩
  case round =>
    obtain ⟨rfl, hB, hb⟩ := hrel
    go_wp2_with fail
    refine (writeB w.heap.size w.heap.size _ _ 1 rfl _ hB (by simp)).mono ?_
    rintro e w1 ⟨rfl, hB1, hb1⟩
    go_wp2_with fail
    refine (readOut w.heap.size w.heap.size _ _ hB1).mono ?_
    rintro e w2 ⟨rfl, hb2⟩
    go_wp2
    go_ret2
    exact ⟨rfl, (hb.trans hb1).trans hb2⟩

theorem list_anyA (ad : Option Addr) (cap : Nat) (zs : List Int) (w : World) (h : IntsA w.heap.size w ad zs) (hlen : zs.length ≤ 9223372036854775807) :
    Calls Try.prog 47 #[.slice ad zs.length cap] w fun e w' => e = .returned (.tuple #[.string (strOf (listL zs)), .int .i64 (listE zs)]) ∧ Below w.heap.size w w' := by
  by_cases h0 : zs.length = 0
  · have e1 : zs = [] := List.eq_nil_of_length_eq_zero h0
    subst e1
    exact list_empty ad cap w
  · obtain ⟨b, off, rfl, hb, hc⟩ := h.some_ (by omega)
    exact list_some b off cap zs w hb hlen hc

set_option maxRecDepth 100000 in
set_option maxHeartbeats 2000000 in
theorem refList_anyA (ad : Option Addr) (cap : Nat) (zs : List Int) (w : World) (h : IntsA w.heap.size w ad zs) (hlen : zs.length ≤ 9223372036854775807) :
    Calls Try.prog 48 #[.slice ad zs.length cap] w fun e w' => e = .returned (.tuple #[.string (strOf (listL zs)), .int .i64 (listE zs)]) ∧ Below w.heap.size w w' := by
  obtain ⟨i0, hi, hz0, hz1, hz2⟩ := info_parts info8
  by_cases hl : 20000 < zs.length
  · unfold listL listE
    rw [if_pos hl, if_pos hl]
    clear h
    go_enter Try.func48, Try.ntmps48
    go_wp2
    go_ret2
    exact ⟨rfl, Below.refl _ _⟩
  · have hl' : zs.length ≤ 20000 := by omega
    have HE := Lib.hid (show listE zs = if AllR zs then 0 else 2 by unfold listE; rw [if_neg hl])
    have HL := Lib.hid (show listL zs = if AllR zs then encList zs else [] by unfold listL; rw [if_neg hl])
    have HC := Lib.hid h
    clear hl h
    go_enter Try.func48, Try.ntmps48
    go_wp2
    go_loopw [4, 5] (fun v i wr => ∃ (k n g cap : Nat) (L : List UInt8), k ≤ zs.length ∧ i = .int .i64 k ∧ n ≤ 9 * k ∧ v = .slice (some ⟨g, 0, none⟩) n cap ∧ wr.ownsRow w.heap.size T8 1 (.slice (some ⟨g, 0, none⟩) n cap) n (Lib.byteCells L) ∧ Hid (AllR (zs.take k) ∧ L = (zs.take k).flatMap encInt) ∧ Below w.heap.size w wr) (fun _ i _ => zs.length - (intOf i).toNat)
    case atStart =>
      exact ⟨0, 0, w.heap.size, 0, [], Nat.zero_le _, rfl, by omega, rfl, ownsRow_new w _ (Nat.le_refl _) #[] 0 rfl (by decide), Lib.hid ⟨by intro n hn; simp at hn, rfl⟩, (Below.refl _ w).alloc (Nat.le_refl _) _⟩
    case round =>
      obtain ⟨k, n, g, cap2, L, hk, rfl, hn, rfl, ho, HK, hb⟩ := hrel
      have hsz := hb.size
      have hg := ho.lt g rfl
      by_cases hlt : k < zs.length
      · obtain ⟨b, off, rfl, hbb, hcz⟩ := HC.out.some_ (by omega)
        have cx0 : wr.cell? ⟨b, off + k, none⟩ = some (.int .i64 (zs[k]?.getD 0)) := (hb.cell (p := ⟨b, off + k, none⟩) hbb).trans (hcz k hlt)
        have hs0 := take_snocZ zs k hlt
        have hm0 : zs[k]?.getD 0 ∈ zs := by simp [hlt]
        obtain ⟨x, cx, HS, HM⟩ : ∃ x, wr.cell? ⟨b, off + k, none⟩ = some (.int .i64 x) ∧ Hid (zs.take (k + 1) = zs.take k ++ [x]) ∧ Hid (x ∈ zs) := ⟨_, cx0, Lib.hid hs0, Lib.hid hm0⟩
        clear cx0 hs0 hm0 hcz
        have hri := refInt_any x wr
        by_cases hn' : InR x
        · unfold intL intE at hri
          rw [if_pos hn', if_pos hn'] at hri
          have HRI := Lib.hid hri
          have HN := Lib.hid hn'
          have hel := encInt_length_le hn'
          clear hri hn'
          go_wp2_with fail
          refine HRI.out.mono ?_
          rintro e w1 ⟨rfl, hb1⟩
          have hb1' := hb.trans (hb1.mono hsz)
          have hsz1 := hb1'.size
          have ho1 : w1.ownsRow w.heap.size T8 1 (.slice (some ⟨g, 0, none⟩) n cap2) n (Lib.byteCells L) := by
            refine ho.kept (row := none) ⟨hb1.os, hb1.tape, hb1.output, hb1.size, fun j hj _ => hb1.block j hj⟩ (.inr (by simp [Value.ownBlock]))
          have hso := strOf_size (encInt x)
          have HSO := Lib.hid hso
          clear hso
          go_wp2_with (at_builtin; refine Lib.wpList_append_own_string _ rfl _ _ 73 9 rfl w.heap.size T8 i0 Try.underlying73 Try.underlying9 hi hz0 hz1 hz2 _ n _ rfl ho1 (strOf (encInt x)) rfl ?c1 ?c2 ?c3 ?_)
          case c1 => rw [HSO.out]; unfold maxLen; omega
          case c2 => rw [HSO.out]; omega
          case c3 => omega
          intro v' w2 hown' hgrow hnil
          rw [HSO.out] at hown'
          have hv' : v' ≠ .slice none 0 0 := by intro e; simp [e] at hnil
          obtain ⟨g2, cap3, hv2⟩ := ownsRow_some hown' hv'
          subst hv2
          go_wp2
          go_roundw
          case rel =>
            refine ⟨k + 1, n + (encInt x).length, g2, cap3, L ++ encInt x, by omega, by go_num, by omega, rfl, ?_, Lib.hid ⟨?_, ?_⟩, hb1'.grown hgrow (by omega) (fun j hj => by cases hj; exact hg.1)⟩
            · rw [Lib.byteCells_append]
              have e : Lib.strCells (strOf (encInt x)) = Lib.byteCells (encInt x) := by rw [Lib.strCells_eq, strOf_toList]
              rw [e] at hown'
              exact hown'
            · rw [HS.out]
              intro y hy
              rcases List.mem_append.1 hy with h | h
              · exact HK.out.1 y h
              · simp only [List.mem_singleton] at h; rw [h]; exact HN.out
            · rw [HS.out, List.flatMap_append, HK.out.2]; simp
          case measure => simp [intOf]; omega
        · unfold intL intE at hri
          rw [if_neg hn', if_neg hn'] at hri
          have HRI := Lib.hid hri
          have hna : ¬ AllR zs := fun h => hn' (h _ HM.out)
          have HN := Lib.hid hna
          clear hri hn' hna
          go_wp2_with fail
          refine HRI.out.mono ?_
          rintro e w1 ⟨rfl, hb1⟩
          go_wp2
          go_ret2
          rw [HE.out, HL.out, if_neg HN.out, if_neg HN.out]
          exact ⟨rfl, hb.trans (hb1.mono hsz)⟩
      · go_wp2_with (at_builtin; refine wpList_append_own _ rfl _ _ 73 rfl w.heap.size T8 i0 (.int .u8 0) 1 1 Try.underlying73 hi hz0 hz1 hz2 rfl (by decide) _ n _ rfl (ho.alloc _) ⟨wr.heap.size, 0, none⟩ 1 1 [.int .u8 1] rfl rfl ?g1 ?g2 ?g3 ?g4 ?g5 ?_)
        case g1 =>
          intro j u hj
          match j, hj with
          | 0, hj => simp at hj; subst hj; simp [Addr.add]
        case g2 => intro u hu; simp at hu; subst hu; rfl
        case g3 => unfold maxLen; omega
        case g4 => omega
        case g5 => simp; omega
        intro v' w2 hown' hgrow hnil
        obtain ⟨g2, cap3, hv2⟩ := ownsRow_some hown' hnil
        subst hv2
        have hrow : w2.ownsRow w.heap.size T8 1 (.slice (some ⟨g2, 0, none⟩) (n + 1) cap3) (n + 1) (Lib.byteCells (L ++ [1])) := by
          rw [Lib.byteCells_append]; exact hown'
        have hnl := row_length hrow
        have hconv := run_convert_bytes_back (P := Try.prog) w2 73 9 T8 ⟨g2, 0, none⟩ cap3 (L ++ [1]) Try.underlying73 Try.underlying5 Try.underlying9 (Row8.cell (l := L ++ [1]) ⟨g2, cap3, rfl, by rw [← hnl]; exact hrow⟩ g2 cap3 rfl)
        rw [← hnl] at hconv
        have hall := HK.out.1
        have hfin : L ++ [1] = encList zs := by
          have e := HK.out.2
          rw [List.take_of_length_le (by omega)] at e
          rw [e]; rfl
        rw [List.take_of_length_le (by omega)] at hall
        rw [hfin] at hconv
        have HALL := Lib.hid hall
        clear hnil hown' hnl hrow hfin hall
        go_wp2
        go_ret2
        rw [HE.out, HL.out, if_pos HALL.out, if_pos HALL.out]
        exact ⟨rfl, (hb.alloc hsz _).grown hgrow (by simp; omega) (fun j hj => by cases hj; exact hg.1)⟩

end Go.Proofs.Ytpkmdonejmbnoaa
