/-
  What the reference's Text returns, for every string.
-/
import Derived.Test.YtdnjjppidolnbaaRefInt
namespace Go.Proofs.Ytdnjjppidolnbaa
open Go.RowKit

theorem row_length {w : World} {B n : Nat} {v : Value} {L : List UInt8} (h : w.ownsRow B T8 1 v n (Lib.byteCells L)) : n = L.length := by
  have := h.1
  rw [Lib.byteCells_length] at this
  omega

set_option maxRecDepth 100000 in
set_option maxHeartbeats 2000000 in
theorem refText_any (s : ByteArray) (w : World) (hs : s.size ≤ 9223372036854775807) :
    Calls Try.prog 17 #[.string s] w fun e w' => e = .returned (.tuple #[.string (strOf (textL s.data.toList)), .int .i64 (textE s.data.toList)]) ∧ Below w.heap.size w w' := by
  obtain ⟨i0, hi, hz0, hz1, hz2⟩ := info_parts info8
  by_cases hl : s.size ≤ 100000
  · have hl' : s.data.toList.length ≤ 100000 := by simpa using hl
    unfold textL textE
    rw [if_pos hl', if_pos hl']
    clear hl'
    go_enter Try.func17, Try.ntmps17
    go_wp2
    go_loopw [4, 5] (fun v i wr => ∃ (k n g cap : Nat) (L : List UInt8), k ≤ s.size ∧ i = .int .i64 k ∧ n ≤ 2 * k ∧ v = .slice (some ⟨g, 0, none⟩) n cap ∧ wr.ownsRow w.heap.size T8 1 (.slice (some ⟨g, 0, none⟩) n cap) n (Lib.byteCells L) ∧ Hid (L = escText (s.data.toList.take k)) ∧ Below w.heap.size w wr) (fun _ i _ => s.size - (intOf i).toNat)
    case atStart =>
      exact ⟨0, 0, w.heap.size, 0, [], Nat.zero_le _, rfl, by omega, rfl, ownsRow_new w _ (Nat.le_refl _) #[] 0 rfl (by decide), Lib.hid rfl, (Below.refl _ w).alloc (Nat.le_refl _) _⟩
    case round =>
      obtain ⟨k, n, g, cap, L, hk, rfl, hn, rfl, ho, HL, hb⟩ := hrel
      have hsz := hb.size
      have hg := ho.lt g rfl
      by_cases hlt : k < s.size
      · have hts := take_snoc s k hlt
        obtain ⟨c, hcc⟩ : ∃ c, s[k] = c := ⟨_, rfl⟩
        rw [hcc] at hts
        have HS := Lib.hid hts
        clear hts
        by_cases hc : c = 0
        · have hcb : ((c.toNat : Int) == 0) = true := by simp [hc]
          have HC := Lib.hid hc
          clear hc
          go_wp2_with (at_builtin; refine wpList_append_own _ rfl _ _ 42 rfl w.heap.size T8 i0 (.int .u8 0) 1 1 Try.underlying42 hi hz0 hz1 hz2 rfl (by decide) _ n _ rfl (ho.alloc _) ⟨wr.heap.size, 0, none⟩ 1 1 [.int .u8 (c.toNat : Int)] rfl rfl ?c1 ?c2 ?c3 ?c4 ?c5 ?_)
          case c1 =>
            intro j u hj
            match j, hj with
            | 0, hj => simp at hj; subst hj; simp [Addr.add]
          case c2 => intro u hu; simp at hu; subst hu; rfl
          case c3 => unfold maxLen; omega
          case c4 => omega
          case c5 => simp; omega
          intro v' w2 hown' hgrow hnil
          obtain ⟨g2, cap2, hv2⟩ := ownsRow_some hown' hnil
          subst hv2
          have hrow : w2.ownsRow w.heap.size T8 1 (.slice (some ⟨g2, 0, none⟩) (n + 1) cap2) (n + 1) (Lib.byteCells (L ++ [c])) := by
            rw [Lib.byteCells_append]; exact hown'
          have hb2 : Below w.heap.size w w2 := (hb.alloc hsz _).grown hgrow (by simp; omega) (fun j hj => by cases hj; exact hg.1)
          have hsz2 := hb2.size
          clear hnil hown' hgrow
          go_wp2_with (at_builtin; refine wpList_append_own _ rfl _ _ 42 rfl w.heap.size T8 i0 (.int .u8 0) 1 1 Try.underlying42 hi hz0 hz1 hz2 rfl (by decide) _ (n + 1) _ rfl (hrow.alloc _) ⟨w2.heap.size, 0, none⟩ 1 1 [.int .u8 255] rfl rfl ?d1 ?d2 ?d3 ?d4 ?d5 ?_)
          case d1 =>
            intro j u hj
            match j, hj with
            | 0, hj => simp at hj; subst hj; simp [Addr.add]
          case d2 => intro u hu; simp at hu; subst hu; rfl
          case d3 => unfold maxLen; omega
          case d4 => omega
          case d5 => simp; omega
          intro v' w3 hown' hgrow hnil
          obtain ⟨g3, cap3, hv3⟩ := ownsRow_some hown' hnil
          subst hv3
          have hg2 := hrow.lt g2 rfl
          go_wp2
          go_roundw
          case rel =>
            refine ⟨k + 1, n + 1 + 1, g3, cap3, L ++ [c] ++ [255], by omega, by go_num, by omega, rfl, ?_, Lib.hid ?_, (hb2.alloc hsz2 _).grown hgrow (by simp; omega) (fun j hj => by cases hj; exact hg2.1)⟩
            · rw [Lib.byteCells_append]; exact hown'
            · rw [HS.out, escText_snoc, if_pos HC.out, HL.out, HC.out]; simp
          case measure => simp [intOf]; omega
        · obtain ⟨q1, q2⟩ : ((c.toNat : Int) == 0) = false ∧ True := ⟨by rw [beq_eq_false_iff_ne]; intro e; exact hc (UInt8.toNat_inj.1 (by simpa using e)), trivial⟩
          have HC := Lib.hid hc
          clear hc q2
          go_wp2_with (at_builtin; refine wpList_append_own _ rfl _ _ 42 rfl w.heap.size T8 i0 (.int .u8 0) 1 1 Try.underlying42 hi hz0 hz1 hz2 rfl (by decide) _ n _ rfl (ho.alloc _) ⟨wr.heap.size, 0, none⟩ 1 1 [.int .u8 (c.toNat : Int)] rfl rfl ?e1 ?e2 ?e3 ?e4 ?e5 ?_)
          case e1 =>
            intro j u hj
            match j, hj with
            | 0, hj => simp at hj; subst hj; simp [Addr.add]
          case e2 => intro u hu; simp at hu; subst hu; rfl
          case e3 => unfold maxLen; omega
          case e4 => omega
          case e5 => simp; omega
          intro v' w2 hown' hgrow hnil
          obtain ⟨g2, cap2, hv2⟩ := ownsRow_some hown' hnil
          subst hv2
          go_wp2
          go_roundw
          case rel =>
            refine ⟨k + 1, n + 1, g2, cap2, L ++ [c], by omega, by go_num, by omega, rfl, ?_, Lib.hid ?_, (hb.alloc hsz _).grown hgrow (by simp; omega) (fun j hj => by cases hj; exact hg.1)⟩
            · rw [Lib.byteCells_append]; exact hown'
            · rw [HS.out, escText_snoc, if_neg HC.out, HL.out]
          case measure => simp [intOf]; omega
      · go_wp2_with (at_builtin; refine wpList_append_own _ rfl _ _ 42 rfl w.heap.size T8 i0 (.int .u8 0) 1 1 Try.underlying42 hi hz0 hz1 hz2 rfl (by decide) _ n _ rfl (ho.alloc _) ⟨wr.heap.size, 0, none⟩ 2 2 [.int .u8 0, .int .u8 1] rfl rfl ?g1 ?g2 ?g3 ?g4 ?g5 ?_)
        case g1 =>
          intro j u hj
          match j, hj with
          | 0, hj => simp at hj; subst hj; simp [Addr.add]
          | 1, hj => simp at hj; subst hj; simp [Addr.add]
        case g2 => intro u hu; simp at hu; rcases hu with rfl | rfl <;> rfl
        case g3 => unfold maxLen; omega
        case g4 => omega
        case g5 => simp; omega
        intro v' w2 hown' hgrow hnil
        obtain ⟨g2, cap2, hv2⟩ := ownsRow_some hown' hnil
        subst hv2
        have hrow : w2.ownsRow w.heap.size T8 1 (.slice (some ⟨g2, 0, none⟩) (n + 2) cap2) (n + 2) (Lib.byteCells (L ++ [0, 1])) := by
          rw [Lib.byteCells_append]; exact hown'
        have hnl := row_length hrow
        have hconv := run_convert_bytes_back (P := Try.prog) w2 42 9 T8 ⟨g2, 0, none⟩ cap2 (L ++ [0, 1]) Try.underlying42 Try.underlying5 Try.underlying9 (Row8.cell (l := L ++ [0, 1]) ⟨g2, cap2, rfl, by rw [← hnl]; exact hrow⟩ g2 cap2 rfl)
        rw [← hnl] at hconv
        have hfin : L ++ [0, 1] = encText s.data.toList := by
          have e := HL.out
          rw [List.take_of_length_le (by simp; omega)] at e
          rw [e]; rfl
        rw [hfin] at hconv
        clear hnil hown' hnl hrow hfin
        go_wp2
        go_ret2
        exact ⟨rfl, (hb.alloc hsz _).grown hgrow (by simp; omega) (fun j hj => by cases hj; exact hg.1)⟩
  · have hl' : ¬ s.data.toList.length ≤ 100000 := by simpa using hl
    unfold textL textE
    rw [if_neg hl', if_neg hl']
    clear hl'
    go_enter Try.func17, Try.ntmps17
    go_wp2
    go_ret2
    exact ⟨rfl, Below.refl _ _⟩

end Go.Proofs.Ytdnjjppidolnbaa
