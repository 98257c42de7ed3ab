/-
  What the program's forEachNode of digraph returns for the distances: a row for each node.
-/
import Derived.Test.YtcggmonnajggcaaDevRows
import Derived.Test.YtcggmonnajggcaaDevDist
namespace Go.Proofs.Ytcggmonnajggcaa
open Go.RowKit

/-- The distances of node i, as values. -/
noncomputable def distV (N : Nat) (g : List (Nat × Nat)) (i : Nat) : List Value := zV (ftab N (dstN g i))

set_option maxRecDepth 100000 in
set_option maxHeartbeats 4000000 in
theorem eachDist_any (n₀ N : Nat) (ad : Option Addr) (cap : Nat) (es : List (Int × Int)) (w : World) (hl : es.length ≤ 2000) (hcap : es.length ≤ cap) (hok : OkE N es) (hs : SrtN (gN es)) (hN : N ≤ 200) (hE : EdgesA n₀ w ad es) (hn₀ : n₀ ≤ w.heap.size) :
    Calls Try.prog 61 #[.int .i64 (N : Int), .func (.func 62) #[gV N ad es.length cap] #[]] w fun e w' => ∃ v, e = .returned v ∧ RowsAt w.heap.size TL TI N (distV N (gN es)) N v w' ∧ Below w.heap.size w w' := by
  obtain ⟨i1, ji, jz0, jz1, jz2⟩ := info_parts infoL
  have HE := Lib.hid hE
  have HOK := Lib.hid hok
  have HS := Lib.hid hs
  clear hE hok hs
  go_enter Try.func61, Try.ntmps61
  go_wp2
  go_loopw [5, 8] (fun v i wr => ∃ k : Nat, k ≤ N ∧ i = .int .i64 k ∧ Hid (RowsAt w.heap.size TL TI N (distV N (gN es)) k v wr) ∧ Below w.heap.size w wr) (fun _ i _ => N - (intOf i).toNat)
  case atStart => exact ⟨0, Nat.zero_le _, rfl, Lib.hid (RowsAt.nil _ _ _ _ _ _), Below.refl _ _⟩
  case round =>
    obtain ⟨k, hk, rfl, HO, hb⟩ := hrel
    by_cases hlt : k < N
    · have HA := Lib.hid (devDist_walk n₀ N k ad cap es wr hl hcap HOK.out HS.out hN hlt (HE.out.below (hb.mono hn₀)) (Nat.le_trans hn₀ hb.size))
      go_wp2_with fail
      refine HA.out.mono ?_
      rintro e w1 ⟨G, rfl, hm, b1⟩
      obtain ⟨vs, h1, h2, h3⟩ := HO.out.below b1
      have H1 := Lib.hid h1
      have H2 := Lib.hid h2
      have H3 := Lib.hid h3
      have HM := Lib.hid (ownsRow_base hb.size hm)
      have B1 := Lib.hid (hb.trans (b1.mono hb.size))
      have hs1 := B1.out.size
      clear h1 h2 h3 hm b1 HA
      go_wp2_with (at_builtin; refine wpList_append_own _ rfl _ _ 31 rfl w.heap.size TL i1 (.slice none 0 0) 1 24 Try.underlying31 ji jz0 jz1 jz2 rfl (by decide) _ _ _ rfl (H1.out.alloc _) ⟨w1.heap.size, 0, none⟩ 1 1 [.slice (some ⟨G, 0, none⟩) N N] rfl rfl (newCell w1 _ TL) (one_slice _ _ _) (by unfold maxLen; omega) (by omega) (by simp; omega) ?_)
      intro v' w3 hown' hgrow hnil
      have HO3 : Hid (RowsAt w.heap.size TL TI N (distV N (gN es)) (k + 1) v' w3) := Lib.hid (RowsAt.append (by decide) H1.out H2.out H3.out HM.out hgrow (by simpa using hown'))
      have HB3 : Hid (Below w.heap.size w w3) := Lib.hid ((B1.out.alloc B1.out.size _).grown hgrow (by simp; omega) (fun i hi => (H1.out.lt i hi).1))
      clear hown' hgrow hnil
      go_wp2
      go_roundw
      case rel => exact ⟨k + 1, by omega, by go_num, HO3, HB3.out⟩
      case measure => simp [intOf]; omega
    · have HN : Hid (RowsAt w.heap.size TL TI N (distV N (gN es)) N u5 wr) := Lib.hid (by
        have h : k = N := by omega
        exact h ▸ HO.out)
      go_wp2
      go_ret
      exact ⟨_, rfl, HN.out, hb⟩

end Go.Proofs.Ytcggmonnajggcaa
