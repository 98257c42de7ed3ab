/-
  What the reference's Order of digraph returns.
-/
import Derived.Test.YtcggmonnajggcaaMarked
import Derived.Test.YtcggmonnajggcaaOrderPlain
namespace Go.Proofs.Ytcggmonnajggcaa
open Go.RowKit

theorem RowN.ne {B C G N : Nat} {l : List Nat} {m : List Bool} {v : Value} {w : World} (h : RowN B l v w) (hM : MarksAt C G N m w) : v.ownBlock ≠ some G := by
  obtain ⟨g, cap, rfl, h⟩ := h
  intro e
  simp [Value.ownBlock] at e
  subst e
  rcases h.2 with ⟨e, _⟩ | ⟨g', cap', cur, e, _, hg, _⟩
  · cases e
  · cases e
    rcases hM.2 with ⟨e, _⟩ | ⟨g', cap', cur', e, _, hg', _⟩
    · cases e
    · cases e
      rw [hg] at hg'
      simp [TI, TBool] at hg'

theorem newCell (w : World) (u : Value) (T : TypeId) : ∀ (j : Nat) (x : Value), [u][j]? = some x → (w.alloc (.cells #[u] T)).cell? ((⟨w.heap.size, 0, none⟩ : Addr).add j) = some x := by
  intro j x hj
  match j, hj with
  | 0, hj => simp at hj; subst hj; simp [Addr.add]
theorem one_one (z : Int) : ∀ u ∈ [Value.int .i64 z], u.oneCell' = true := by
  intro u hu
  simp at hu
  subst hu
  rfl

/-- What Order returns. -/
def ordL (n : Int) (es : List (Int × Int)) : List Nat := if chkE n es = 0 then (orderFrom n.toNat (gN es) []).getD [] else []
def errO : Option (List Nat) → Int
  | some _ => 0
  | none => 21
def ordE (n : Int) (es : List (Int × Int)) : Int := if chkE n es = 0 then errO (orderFrom n.toNat (gN es) []) else 1
/-- A list of nodes and an error: what Order, Cycle and Ranks return. -/
def Gives (l : List Nat) (x : Int) (w : World) (e : Ending) (w' : World) : Prop := ∃ v, e = .returned (.tuple #[v, .int .i64 x]) ∧ RowN w.heap.size l v w' ∧ Below w.heap.size w w'

/-- The middle loop's state: next, and how far it has come. -/
def NextSt (N : Nat) (g : List (Nat × Nat)) (out : List Nat) (nx : Int) (i : Nat) : Prop :=
  (nx = -1 ∧ ∀ j, j < i → freeB g out j = false) ∨ (∃ j : Nat, nx = (j : Int) ∧ nextF N g out = some j)

set_option maxRecDepth 100000 in
set_option maxHeartbeats 8000000 in
theorem order_ok (n₀ N : Nat) (ad : Option Addr) (cap : Nat) (es : List (Int × Int)) (w : World) (hE : EdgesA n₀ w ad es) (hn₀ : n₀ ≤ w.heap.size) (hc : chkE (N : Int) es = 0) (hl : es.length ≤ 2000) (hN : N ≤ 200) (hok : OkE N es) (R : Option (List Nat)) (hR : orderFrom N (gN es) [] = R) :
    Calls Try.prog 22 #[.int .i64 (N : Int), .slice ad es.length cap] w (Gives (R.getD []) (errO R) w) := by
  obtain ⟨i0, hi, hz0, hz1, hz2⟩ := info_parts infoBool
  obtain ⟨i1, ji, jz0, jz1, jz2⟩ := info_parts infoI
  have hck := check_calm n₀ (N : Int) ad cap es w hE (by omega)
  rw [hc] at hck
  have HCK := Lib.hid hck
  have HE := Lib.hid (hE.mono hn₀)
  have HOK := Lib.hid hok
  have HR := Lib.hid hR
  clear hE hn₀ hc hck hok hR
  go_enter Try.func22, Try.ntmps22
  go_wp2_with fail
  refine HCK.out.mono ?_
  rintro e w1 ⟨rfl, b1, z1⟩
  have Z1 := Lib.hid z1
  have s1 := b1.size
  clear z1
  go_wp2_with (at_make; refine wpList_make_full _ rfl (.tmp 18) (.tmp 18) 50 rfl w.heap.size TBool i0 (.bool false) 1 Try.underlying50 hi hz0 hz1 .i64 .i64 _ _ N rfl rfl rfl rfl (by rw [hz2]; omega) (by unfold maxLen; omega) (by simp; omega) ?_)
  intro w2 ho2 hg2
  rw [madeFalse, ← marksOf_nil] at ho2
  have hr2 : RowN w.heap.size [] (.slice (some ⟨w1.heap.size, 0, none⟩) 0 0) w2 := by
    obtain ⟨g, cap, e, h⟩ := RowN.empty w1 w.heap.size s1
    exact ⟨g, cap, e, h.kept hg2 (.inr (by simp [Value.ownBlock]))⟩
  have c2 : Below w.heap.size w w2 := (b1.alloc s1 _).grown hg2 (by simp; omega) (fun j hj => by cases hj)
  obtain ⟨G, hG⟩ : ∃ G, w1.heap.size + 1 = G := ⟨_, rfl⟩
  rw [hG] at ho2 ⊢
  have hGB : w.heap.size ≤ G := by omega
  have hm2 : MarksAt w.heap.size G N (marksOf N []) w2 := ho2
  have HM2 := Lib.hid hm2
  have HR2 := Lib.hid hr2
  clear ho2 hg2 hG hr2 hm2 b1
  go_wp2
  clear s1 Z1
  go_loopg [6] N (fun gh o wr => ∃ out : List Nat, gh = N - out.length ∧ Hid (out.length ≤ N) ∧ Hid (orderFrom N (gN es) out = R) ∧ RowN w.heap.size out o wr ∧ Hid (MarksAt w.heap.size G N (marksOf N out) wr) ∧ Below w.heap.size w wr)
  case atStart => exact ⟨[], rfl, Lib.hid (Nat.zero_le _), HR, HR2.out, HM2, c2⟩
  case round =>
    obtain ⟨out, rfl, HL, HO, hrow, HM, hb⟩ := hrel
    obtain ⟨g, cp, rfl, ho⟩ := id hrow
    have HROW := Lib.hid hrow
    have HOWN := Lib.hid ho
    clear hrow ho
    by_cases hlt : out.length < N
    · go_wp2
      go_loop [8, 9] (fun nx i => ∃ (z : Int) (k : Nat), k ≤ N ∧ i = .int .i64 k ∧ nx = .int .i64 z ∧ Hid (NextSt N (gN es) out z k)) (fun _ i => N - (intOf i).toNat)
      case atStart => exact ⟨-1, 0, Nat.zero_le _, rfl, rfl, Lib.hid (.inl ⟨rfl, fun j hj => absurd hj (by omega)⟩)⟩
      case round =>
        obtain ⟨z, k, hk, rfl, rfl, HN⟩ := hrel
        by_cases hz : z < 0
        · have hnn : z = -1 ∧ ∀ j, j < k → freeB (gN es) out j = false := by
            rcases HN.out with h | ⟨j, h, _⟩
            · exact h
            · omega
          obtain ⟨rfl, hbef⟩ := hnn
          have HBEF := Lib.hid hbef
          clear hbef hz
          by_cases hkN : k < N
          · -- one node more
            obtain ⟨b0, hb0⟩ : ∃ b0, out.contains k = b0 := ⟨_, rfl⟩
            have c0 := HM.out.cell hkN (marksOf_get out hkN)
            rw [hb0] at c0
            have HF0 : Hid (freeK (gN es) out k 0 = !b0) := Lib.hid (by rw [← hb0]; exact freeK_zero _ _ _)
            clear hb0
            go_wp2
            go_loop [10, 11] (fun f j => ∃ q : Nat, q ≤ es.length ∧ j = .int .i64 q ∧ f = .bool (freeK (gN es) out k q)) (fun _ j => es.length - (intOf j).toNat)
            case atStart => exact ⟨0, Nat.zero_le _, rfl, by rw [HF0.out]⟩
            case round =>
              obtain ⟨q, hq, rfl, rfl⟩ := hrel
              obtain ⟨fr, hfr⟩ : ∃ fr, freeK (gN es) out k q = fr := ⟨_, rfl⟩
              rw [hfr]
              have HFR := Lib.hid hfr
              clear hfr
              by_cases hql : q < es.length
              · obtain ⟨bl, off, rfl, hbb, hcc⟩ := HE.out.some_ (by omega)
                obtain ⟨d1, d2⟩ := hcc q hql
                obtain ⟨u, v, he, hu, hv, hge⟩ := HOK.out.at_ hql
                rw [he] at d1 d2
                have e1 := (hb.cell (p := ⟨bl, off + q * 2, none⟩) hbb).trans d1
                have e2 := (hb.cell (p := ⟨bl, off + q * 2 + 1, none⟩) hbb).trans d2
                simp only [] at e1 e2
                have HS := Lib.hid (freeK_succ out k hge)
                clear hcc d1 d2 he hge c0
                cases fr
                · have HN : Hid (freeK (gN es) out k (q + 1) = false) := Lib.hid (by rw [HS.out, HFR.out]; rfl)
                  go_wp2
                  go_round
                  case rel => exact ⟨q + 1, by omega, by go_num, by rw [HN.out]⟩
                  case measure => simp [intOf]; omega
                · by_cases hvk : v = k
                  · obtain ⟨b1, hb1⟩ : ∃ b1, out.contains u = b1 := ⟨_, rfl⟩
                    have c1 := HM.out.cell hu (marksOf_get out hu)
                    rw [hb1] at c1
                    have HN : Hid (freeK (gN es) out k (q + 1) = b1) := Lib.hid (by rw [HS.out, HFR.out, hb1, hvk]; simp)
                    have g1 : ((v : Int) != (k : Int)) = false := by rw [hvk]; simp
                    have u0 : (u : Int) < (N : Int) := by omega
                    clear hb1 hvk
                    go_wp2
                    go_round
                    case rel => exact ⟨q + 1, by omega, by go_num, by rw [HN.out]⟩
                    case measure => simp [intOf]; omega
                  · have HN : Hid (freeK (gN es) out k (q + 1) = true) := Lib.hid (by rw [HS.out, HFR.out]; simp [hvk])
                    have g1 : ((v : Int) != (k : Int)) = true := by rw [bne_iff_ne]; omega
                    clear hvk
                    go_wp2
                    go_round
                    case rel => exact ⟨q + 1, by omega, by go_num, by rw [HN.out]⟩
                    case measure => simp [intOf]; omega
              · have HFB : Hid (freeB (gN es) out k = fr) := Lib.hid (by rw [← freeK_all, gN_length, ← HFR.out]; congr 1; omega)
                clear c0
                cases fr
                · have HN : Hid (NextSt N (gN es) out (-1) (k + 1)) := Lib.hid (.inl ⟨rfl, fun j hj => by
                    by_cases e : j = k
                    · subst e; exact HFB.out
                    · exact HBEF.out j (by omega)⟩)
                  go_wp2
                  go_round
                  case rel => exact ⟨-1, k + 1, by omega, by go_num, rfl, HN⟩
                  case measure => simp [intOf]; omega
                · have HN : Hid (NextSt N (gN es) out (k : Int) (k + 1)) := Lib.hid (.inr ⟨k, rfl, nextF_some hkN HFB.out HBEF.out⟩)
                  go_wp2
                  go_round
                  case rel => exact ⟨(k : Int), k + 1, by omega, by go_num, rfl, HN⟩
                  case measure => simp [intOf]; omega
          · -- no node is free
            have HRN : Hid (R = none) := Lib.hid (by rw [← HO.out]; exact orderFrom_none hlt (nextF_none (fun j hj => HBEF.out j (by omega))))
            have HSZ := Lib.hid hb.size
            go_wp2
            go_ret2
            rw [HRN.out]
            exact ⟨_, rfl, RowN.empty wr _ HSZ.out, hb.alloc HSZ.out _⟩
        · -- the next node
          obtain ⟨j, rfl, hj⟩ : ∃ j : Nat, z = (j : Int) ∧ nextF N (gN es) out = some j := by
            rcases HN.out with ⟨h, _⟩ | h
            · omega
            · exact h
          have hjN : j < N := (nextF_spec hj).1
          have HO2 : Hid (orderFrom N (gN es) (out ++ [j]) = R) := Lib.hid (by rw [← HO.out]; exact (orderFrom_some hlt hj).symm)
          have hsz := hb.size
          have c0 := HM.out.cell hjN (marksOf_get out hjN)
          have hne := HROW.out.ne HM.out
          have hout : out.length ≤ 200 := by omega
          have j0 : (j : Int) < (N : Int) := by omega
          have HJ := Lib.hid hj
          clear hj hz
          by_cases hkN : k < N
          all_goals
            go_wp2_with (at_builtin; refine wpList_append_own _ rfl _ _ 28 rfl w.heap.size TI i1 (.int .i64 0) 1 8 Try.underlying28 ji jz0 jz1 jz2 rfl (by decide) _ _ _ rfl (HOWN.out.alloc _) ⟨wr.heap.size, 0, none⟩ 1 1 [.int .i64 (j : Int)] rfl rfl (newCell wr _ TI) (one_one _) (by unfold maxLen; omega) (by omega) (by simp; omega) ?_)
            intro v' w3 hown' hgrow hnil
            obtain ⟨g2, cap2, rfl⟩ := ownsRow_some hown' hnil
            have m3 : MarksAt w.heap.size G N (marksOf N out) w3 := (HM.out.alloc _).kept hgrow (.inr (by intro e; exact hne e.symm))
            have c3 := m3.cell hjN (marksOf_get out hjN)
            have f3 := m3.free j
            have r3 : RowN w.heap.size (out ++ [j]) (.slice (some ⟨g2, 0, none⟩) (out.length + 1) cap2) w3 := ⟨g2, cap2, by simp, by simpa [natV] using hown'⟩
            have b3 : Below w.heap.size w w3 := (hb.alloc hsz _).grown hgrow (by simp; omega) (fun i hi => (HOWN.out.lt i hi).1)
            have m4 := m3.store j true
            rw [marksOf_snoc out hjN] at m4
            have r4 : RowN w.heap.size (out ++ [j]) (.slice (some ⟨g2, 0, none⟩) (out.length + 1) cap2) (w3.setCell ⟨G, j, none⟩ (.bool true)) := by
              obtain ⟨g5, cap5, e5, h5⟩ := id r3
              exact ⟨g5, cap5, e5, h5.kept (World.ownsRow.stored m3 j (.bool true)).2 (.inr (r3.ne m3))⟩
            have b4 := b3.setCell (p := ⟨G, j, none⟩) hGB (.bool true)
            have HM4 := Lib.hid m4
            have HR4 := Lib.hid r4
            have HL4 : Hid ((out ++ [j]).length ≤ N) := Lib.hid (by simp; omega)
            clear hown' hgrow hnil m3 r3 m4 r4 b3 hne
            go_wp2
            go_roundg (N - (out ++ [j]).length)
            case measure => simp; omega
            case rel => exact ⟨out ++ [j], rfl, HL4, HO2, HR4.out, HM4, b4⟩
    · -- the order is whole
      have HRN : Hid (R = some out) := Lib.hid (by rw [← HO.out]; exact orderFrom_full hlt)
      have hd : decide (out.length < N) = false := by simpa using hlt
      go_wp2
      go_ret2
      rw [HRN.out]
      exact ⟨_, rfl, HROW.out, hb⟩

theorem order_any (n₀ : Nat) (n : Int) (ad : Option Addr) (cap : Nat) (es : List (Int × Int)) (w : World) (hE : EdgesA n₀ w ad es) (hn₀ : n₀ ≤ w.heap.size) (hl : es.length ≤ 9223372036854775807) :
    Calls Try.prog 22 #[.int .i64 n, .slice ad es.length cap] w (Gives (ordL n es) (ordE n es) w) := by
  by_cases hc : chkE n es = 0
  · unfold ordL ordE
    rw [if_pos hc, if_pos hc]
    obtain ⟨N, rfl, hN, hl2, hok⟩ := chk_ok hc
    rw [Int.toNat_natCast]
    exact order_ok n₀ N ad cap es w hE hn₀ hc hl2 hN hok _ rfl
  · unfold ordL ordE
    rw [if_neg hc, if_neg hc]
    have hck := check_calm n₀ n ad cap es w hE hl
    have hcb : (chkE n es != 0) = true := by simpa using hc
    obtain ⟨c, hce⟩ : ∃ c, chkE n es = c := ⟨_, rfl⟩
    rw [hce] at hck hcb
    have HCK := Lib.hid hck
    clear hE hc hck hce
    go_enter Try.func22, Try.ntmps22
    go_wp2_with fail
    refine HCK.out.mono ?_
    rintro e w1 ⟨rfl, b1, z1⟩
    have HL : Hid (w.heap.size ≤ w1.heap.size) := Lib.hid b1.size
    clear z1
    go_wp2
    go_ret2
    exact ⟨_, rfl, RowN.empty w1 _ HL.out, b1.alloc HL.out _⟩

end Go.Proofs.Ytcggmonnajggcaa
