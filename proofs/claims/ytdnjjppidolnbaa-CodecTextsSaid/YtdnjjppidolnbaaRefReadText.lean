/-
  What the reference's ReadText returns, for every string.
-/
import Derived.Test.YtdnjjppidolnbaaReadTextB
import Derived.Test.YtdnjjppidolnbaaRefText
namespace Go.Proofs.Ytdnjjppidolnbaa
open Go.RowKit

theorem decT_nil (out : List UInt8) (p : Nat) : decT [] out p = .err 11 := rfl
theorem decT_zero_end (out : List UInt8) (p : Nat) : decT [0] out p = .err 11 := rfl
theorem decT_stop (r out : List UInt8) (p : Nat) : decT (0 :: 1 :: r) out p = .ok out (p + 2) := by rw [decT, if_pos rfl, if_pos rfl]
theorem decT_zero (r out : List UInt8) (p : Nat) : decT (0 :: 255 :: r) out p = if out.length = 100000 then .err 4 else decT r (out ++ [0]) (p + 2) := by rw [decT, if_pos rfl, if_neg (by decide), if_pos rfl]
theorem decT_bad (d : UInt8) (r out : List UInt8) (p : Nat) (h1 : d ≠ 1) (h2 : d ≠ 255) : decT (0 :: d :: r) out p = .err 12 := by rw [decT, if_pos rfl, if_neg h1, if_neg h2]

def ReadsText (s : ByteArray) (w : World) (e : Ending) (w' : World) : Prop := e = .returned (readTextV s.data.toList) ∧ Below w.heap.size w w'
theorem readsText_err {s : ByteArray} {w w' : World} {k : Nat} (h : decT s.data.toList [] 0 = .err k) (hb : Below w.heap.size w w') : ReadsText s w (.returned (.tuple #[.string ⟨#[]⟩, .int .i64 0, .int .i64 (k : Int)])) w' := by
  unfold ReadsText readTextV; rw [h]; exact ⟨rfl, hb⟩
theorem readsText_ok {s : ByteArray} {w w' : World} {x : List UInt8} {k : Nat} (h : decT s.data.toList [] 0 = .ok x k) (hb : Below w.heap.size w w') : ReadsText s w (.returned (.tuple #[.string (strOf x), .int .i64 (k : Int), .int .i64 0])) w' := by
  unfold ReadsText readTextV; rw [h]; exact ⟨rfl, hb⟩

set_option maxRecDepth 100000 in
set_option maxHeartbeats 4000000 in
theorem refReadText_any (s : ByteArray) (w : World) (hs : s.size ≤ 9223372036854775807) :
    Calls Try.prog 19 #[.string s] w (ReadsText s w) := by
  obtain ⟨i0, hi, hz0, hz1, hz2⟩ := info_parts info8
  go_enter Try.func19, Try.ntmps19
  go_wp2
  go_loopw [5, 6] (fun v i wr => ∃ (k n g cap : Nat) (L : List UInt8), k ≤ s.size ∧ i = .int .i64 k ∧ n ≤ 100000 ∧ v = .slice (some ⟨g, 0, none⟩) n cap ∧ wr.ownsRow w.heap.size T8 1 (.slice (some ⟨g, 0, none⟩) n cap) n (Lib.byteCells L) ∧ Hid (decT (s.data.toList.drop k) L k = decT s.data.toList [] 0) ∧ Below w.heap.size w wr) (fun _ i _ => s.size - (intOf i).toNat)
  case atStart =>
    exact ⟨0, 0, w.heap.size, 0, [], Nat.zero_le _, rfl, by omega, rfl, ownsRow_new w _ (Nat.le_refl _) #[] 0 rfl (by decide), Lib.hid (by simp), (Below.refl _ w).alloc (Nat.le_refl _) _⟩
  case round =>
    obtain ⟨k, n, g, cap, L, hk, rfl, hn, rfl, ho, HD, hb⟩ := hrel
    have hsz := hb.size
    have hg := ho.lt g rfl
    have HNL := Lib.hid (row_length ho)
    by_cases hend : k = s.size
    · have HE : Hid (decT s.data.toList [] 0 = .err 11) := Lib.hid (by rw [← HD.out, hend, List.drop_of_length_le (by simp)]; rfl)
      have hkb : ((k : Int) == (s.size : Int)) = true := by rw [hend]; simp
      clear hend
      go_wp2
      go_ret3
      exact readsText_err HE.out hb
    · have hlt : k < s.size := by omega
      have hkb : ((k : Int) == (s.size : Int)) = false := by rw [beq_eq_false_iff_ne]; omega
      have hdc := drop_cons s k hlt
      obtain ⟨c, hcc⟩ : ∃ c, s[k] = c := ⟨_, rfl⟩
      rw [hcc] at hdc
      clear hend
      have hc8 := byte_lt c
      by_cases hc : c = 0
      · have hcb : ((c.toNat : Int) == 0) = true := by simp [hc]
        by_cases hend2 : k + 1 = s.size
        · have HE : Hid (decT s.data.toList [] 0 = .err 11) := Lib.hid (by rw [← HD.out, hdc, hc, hend2, List.drop_of_length_le (by simp)]; rfl)
          have hkb2 : ((k : Int) + 1 == (s.size : Int)) = true := by rw [← hend2]; simp
          clear hend2 hdc hc
          go_wp2
          go_ret3
          exact readsText_err HE.out hb
        · have hlt2 : k + 1 < s.size := by omega
          have hkb2 : ((k : Int) + 1 == (s.size : Int)) = false := by rw [beq_eq_false_iff_ne]; omega
          have hdd := drop_cons s (k + 1) hlt2
          obtain ⟨d, hdc2⟩ : ∃ d, s[k + 1] = d := ⟨_, rfl⟩
          rw [hdc2] at hdd
          have hd8 := byte_lt d
          have HDR : Hid (decT (0 :: d :: s.data.toList.drop (k + 1 + 1)) L k = decT s.data.toList [] 0) := Lib.hid (by rw [← HD.out, hdc, hc, hdd])
          clear hend2 hdc hdd hc
          by_cases d1 : d = 1
          · have q1 : ((d.toNat : Int) == 1) = true := (byte_beq d 1 (by decide) d1).1
            have HE : Hid (decT s.data.toList [] 0 = .ok L (k + 2)) := Lib.hid (by rw [← HDR.out, d1, decT_stop])
            have hrow8 : Row8 w.heap.size L (.slice (some ⟨g, 0, none⟩) n cap) wr := ⟨g, cap, by rw [← HNL.out], by rw [← HNL.out]; exact ho⟩
            have hconv := run_convert_bytes_back (P := Try.prog) wr 42 9 T8 ⟨g, 0, none⟩ cap L Try.underlying42 Try.underlying5 Try.underlying9 (hrow8.cell g cap (by rw [← HNL.out]))
            rw [← HNL.out] at hconv
            clear d1 hrow8
            go_wp2
            go_ret3
            exact readsText_ok HE.out hb
          · have q1 : ((d.toNat : Int) == 1) = false := (byte_bne d 1 (by decide) d1).1
            by_cases d2 : d = 255
            · have q2 : ((d.toNat : Int) != 255) = false := (byte_beq d 255 (by decide) d2).2
              have HE : Hid (decT s.data.toList [] 0 = if L.length = 100000 then .err 4 else decT (s.data.toList.drop (k + 1 + 1)) (L ++ [0]) (k + 2)) := Lib.hid (by rw [← HDR.out, d2, decT_zero])
              clear d1 d2
              go_wp2_with (at_builtin; refine wpList_append_own _ rfl _ _ 42 rfl w.heap.size T8 i0 (.int .u8 0) 1 1 Try.underlying42 hi hz0 hz1 hz2 rfl (by decide) _ n _ rfl (ho.alloc _) ⟨wr.heap.size, 0, none⟩ 1 1 [.int .u8 0] rfl rfl ?c1 ?c2 ?c3 ?c4 ?c5 ?_)
              case c1 =>
                intro j u hj
                match j, hj with
                | 0, hj => simp at hj; subst hj; simp [Addr.add]
              case c2 => intro u hu; simp at hu; subst hu; rfl
              case c3 => unfold maxLen; omega
              case c4 => omega
              case c5 => simp; omega
              intro v' w2 hown' hgrow hnil
              obtain ⟨g2, cap2, hv2⟩ := ownsRow_some hown' hnil
              subst hv2
              have hb2 : Below w.heap.size w w2 := (hb.alloc hsz _).grown hgrow (by simp; omega) (fun j hj => by cases hj; exact hg.1)
              by_cases hfull : n = 100000
              · have hfb : (100000 : Int) < (n : Int) + 1 := by omega
                have HF : Hid (decT s.data.toList [] 0 = .err 4) := Lib.hid (by rw [HE.out, if_pos (by rw [← HNL.out]; exact hfull)])
                clear hfull hnil hown' hgrow
                go_wp2
                go_ret3
                exact readsText_err HF.out hb2
              · have hfb : ¬ (100000 : Int) < (n : Int) + 1 := by omega
                have hfn : n < 100000 := by omega
                have HF : Hid (decT s.data.toList [] 0 = decT (s.data.toList.drop (k + 1 + 1)) (L ++ [0]) (k + 2)) := Lib.hid (by rw [HE.out, if_neg (by rw [← HNL.out]; exact hfull)])
                have HR : Hid (w2.ownsRow w.heap.size T8 1 (.slice (some ⟨g2, 0, none⟩) (n + 1) cap2) (n + 1) (Lib.byteCells (L ++ [0]))) := Lib.hid (by rw [Lib.byteCells_append]; exact hown')
                clear hfull hnil hown' hgrow
                go_wp2
                go_roundw
                case rel => exact ⟨k + 1 + 1, n + 1, g2, cap2, L ++ [0], by omega, by go_num, by omega, rfl, HR.out, Lib.hid HF.out.symm, hb2⟩
                case measure => simp [intOf]; omega
            · have q2 : ((d.toNat : Int) != 255) = true := (byte_bne d 255 (by decide) d2).2
              have HE : Hid (decT s.data.toList [] 0 = .err 12) := Lib.hid (by rw [← HDR.out, decT_bad d _ _ _ d1 d2])
              clear d1 d2
              go_wp2
              go_ret3
              exact readsText_err HE.out hb
      · have hcb : ((c.toNat : Int) == 0) = false := (byte_bne c 0 (by decide) hc).1
        have HE : Hid (decT s.data.toList [] 0 = if L.length = 100000 then .err 4 else decT (s.data.toList.drop (k + 1)) (L ++ [c]) (k + 1)) := Lib.hid (by rw [← HD.out, hdc, decT_byte _ _ _ _ hc])
        clear hc hdc
        go_wp2_with (at_builtin; refine wpList_append_own _ rfl _ _ 42 rfl w.heap.size T8 i0 (.int .u8 0) 1 1 Try.underlying42 hi hz0 hz1 hz2 rfl (by decide) _ n _ rfl (ho.alloc _) ⟨wr.heap.size, 0, none⟩ 1 1 [.int .u8 (c.toNat : Int)] rfl rfl ?d1 ?d2 ?d3 ?d4 ?d5 ?_)
        case d1 =>
          intro j u hj
          match j, hj with
          | 0, hj => simp at hj; subst hj; simp [Addr.add]
        case d2 => intro u hu; simp at hu; subst hu; rfl
        case d3 => unfold maxLen; omega
        case d4 => omega
        case d5 => simp; omega
        intro v' w2 hown' hgrow hnil
        obtain ⟨g2, cap2, hv2⟩ := ownsRow_some hown' hnil
        subst hv2
        have hb2 : Below w.heap.size w w2 := (hb.alloc hsz _).grown hgrow (by simp; omega) (fun j hj => by cases hj; exact hg.1)
        by_cases hfull : n = 100000
        · have hfb : (100000 : Int) < (n : Int) + 1 := by omega
          have HF : Hid (decT s.data.toList [] 0 = .err 4) := Lib.hid (by rw [HE.out, if_pos (by rw [← HNL.out]; exact hfull)])
          clear hfull hnil hown' hgrow
          go_wp2
          go_ret3
          exact readsText_err HF.out hb2
        · have hfb : ¬ (100000 : Int) < (n : Int) + 1 := by omega
          have hfn : n < 100000 := by omega
          have HF : Hid (decT s.data.toList [] 0 = decT (s.data.toList.drop (k + 1)) (L ++ [c]) (k + 1)) := Lib.hid (by rw [HE.out, if_neg (by rw [← HNL.out]; exact hfull)])
          have HR : Hid (w2.ownsRow w.heap.size T8 1 (.slice (some ⟨g2, 0, none⟩) (n + 1) cap2) (n + 1) (Lib.byteCells (L ++ [c]))) := Lib.hid (by rw [Lib.byteCells_append]; exact hown')
          clear hfull hnil hown' hgrow
          go_wp2
          go_roundw
          case rel => exact ⟨k + 1, n + 1, g2, cap2, L ++ [c], by omega, by go_num, by omega, rfl, HR.out, Lib.hid HF.out.symm, hb2⟩
          case measure => simp [intOf]; omega

end Go.Proofs.Ytdnjjppidolnbaa
