/-
  The walk of LexerSpaces.
-/
import Derived.Test.YtdgphhdkeikbaaaDoorLxEqF
import Derived.Test.YtdgphhdkeikbaaaDoorLxSpM
import Derived.Test.YtdgphhdkeikbaaaDoorLxBld
import Derived.Test.YtdgphhdkeikbaaaDoorLxOpen
namespace Go.Proofs.YtdgphhdkeikbaaaDoor
set_option linter.unusedSimpArgs false
set_option linter.unusedVariables false
open Go.RowKit

def kdCells : List Value := kdL.map fun x => .string (bB x)
theorem kd_cell (i : Nat) (h : i < 5) : kdCells[i]? = some (.string (bB (kd i))) := by
  rcases (show i = 0 ∨ i = 1 ∨ i = 2 ∨ i = 3 ∨ i = 4 by omega) with rfl | rfl | rfl | rfl | rfl <;> rfl
theorem kd_len (i : Nat) : (kd i).length ≤ 8 := by
  rcases kd_cases i with h | h | h | h | h <;> rw [h] <;> decide
theorem kd_ne (i : Nat) : kd i ≠ [] := by
  rcases kd_cases i with h | h | h | h | h <;> rw [h] <;> decide
theorem joinK_len (f : Nat → Nat) : ∀ (ts : List Tk) (i : Nat), (∀ t ∈ ts, t.t.size ≤ 400) → (joinK f i ts).length ≤ ts.length * 408 := by
  intro ts
  induction ts with
  | nil => intro i _; simp [joinK]
  | cons t r ih =>
    intro i h
    have h1 := ih (i + 1) (fun x hx => h x (by simp [hx]))
    have h2 := h t (by simp)
    have h3 := kd_len (f i)
    have h4 := list_len t.t
    simp only [joinK, List.length_append, List.length_cons]
    omega
theorem joinK_ne (f : Nat → Nat) {ts : List Tk} (h : ts ≠ []) : joinK f 0 ts ≠ [] := by
  cases ts with
  | nil => exact absurd rfl h
  | cons t r =>
    intro e
    simp only [joinK] at e
    rw [List.append_eq_nil_iff, List.append_eq_nil_iff] at e
    exact kd_ne _ e.2.1
/-- Which separator stands behind the token k. -/
def spF (z : List UInt8) (k : Nat) : Nat := if 0 < z.length then (g8 z (k % z.length)).toNat % 5 else 0
theorem joinK_next (f : Nat → Nat) (ts : List Tk) (k : Nat) (h : k < ts.length) : joinK f 0 (ts.take (k + 1)) = joinK f 0 (ts.take k) ++ (gk ts k).t.data.toList ++ (bB (kd (f k))).data.toList := by
  rw [take_snocK ts k h, joinK_snoc, bB_list, List.length_take, Nat.min_eq_left (by omega), Nat.zero_add, List.append_assoc]
theorem kdRow {W : World} {b : Nat} (h : W.heap[b]? = some (.cells kdCells.toArray 9 (0, 0))) (i : Nat) (hi : i < 5) : W.cell? ⟨b, i, none⟩ = some (.string (bB (kd i))) := by
  rw [Lib.cell_of_heap h]
  simpa using kd_cell i hi
set_option maxRecDepth 100000 in
set_option maxHeartbeats 16000000 in
theorem lexerSpaces_walk (s : ByteArray) (sa : Option Addr) (n cap : Nat) (z : List UInt8) (w : World) (hZ : IsU8 w sa n cap z) (hV : LxV w) (hT : TabJ w) :
    Calls Tryd.prog 6 #[.string s, .slice sa n cap] w fun e w' => e = .returned (.bool true) ∧ Below w.heap.size w w' := by
  have HAW : Hid (∀ W, Below w.heap.size w W → Calls Tryd.prog 11 #[] W fun e w' => e = .returned (.bool true) ∧ Below W.heap.size W w') := Lib.hid (fun W hW => awake_any W (hV.below hW (Nat.le_refl _)) (hT.below hW))
  by_cases h : 400 < s.size
  · have h1 : (400 : Int) < (s.size : Int) := by omega
    have HA := Lib.hid (HAW.out w (Below.refl _ _))
    clear h hV hT hZ HAW
    go_enter Tryd.func6, Tryd.ntmps6
    go_wp2_with fail
    refine HA.out.mono ?_
    rintro e w1 ⟨rfl, b1⟩
    go_wp2
    go_ret
    exact ⟨rfl, b1⟩
  · have h1 : ¬ (400 : Int) < (s.size : Int) := by omega
    by_cases h4 : 40 < n
    · have h2 : (40 : Int) < (n : Int) := by omega
      have HA := Lib.hid (HAW.out w (Below.refl _ _))
      clear h h4 hV hT hZ HAW
      go_enter Tryd.func6, Tryd.ntmps6
      go_wp2_with fail
      refine HA.out.mono ?_
      rintro e w1 ⟨rfl, b1⟩
      go_wp2
      go_ret
      exact ⟨rfl, b1⟩
    · have h2 : ¬ (40 : Int) < (n : Int) := by omega
      have hs : s.size ≤ 400 := by omega
      obtain ⟨ts, i0, q0, hl⟩ : ∃ e i q, lexT s = (e, i, q) := ⟨_, _, _, rfl⟩
      have HC := Lib.hid (tokB s ts i0 q0 w (by omega) hV hl)
      have HZ := Lib.hid hZ
      have HV := Lib.hid hV
      clear h hV hT hZ
      by_cases hq : q0 = 0
      · subst hq
        obtain ⟨hlo, rfl⟩ := lexT_ok hl
        have hlen := hlo.len
        have HNE : Hid (ts ≠ []) := Lib.hid (OffR_ne hlo.off)
        have HSZ : Hid (∀ t ∈ ts, t.t.size ≤ 400) := Lib.hid (fun t ht => by have := (OffR_all hlo.off t ht).1; rw [list_len] at this; omega)
        have HL := Lib.hid hl
        clear hl hlo
        go_enter Tryd.func6, Tryd.ntmps6
        go_wp2_with fail
        refine HC.out.mono ?_
        rintro e w1 ⟨a, c, rfl, hK, b1⟩
        obtain ⟨KW, hKW⟩ : ∃ X, w1.alloc (.cells kdCells.toArray 9) = X := ⟨_, rfl⟩
        have bKW : Below w1.heap.size w1 KW := by rw [← hKW]; exact below_allocW w1 _
        have sKW : KW.heap.size = w1.heap.size + 1 := by rw [← hKW]; simp
        have gKW : KW.heap[w1.heap.size]? = some (.cells kdCells.toArray 9 (0, 0)) := by rw [← hKW]; exact heapNew w1 _
        have HK := Lib.hid (show TkA anyB KW a ts ∧ TkO anyB KW a ts from ⟨hK.1.below bKW, hK.2.below bKW⟩)
        have HZK := Lib.hid (HZ.out.below (b1.trans (bKW.mono b1.size)))
        have HBK := Lib.hid (b1.trans (bKW.mono b1.size))
        have HGK := Lib.hid gKW
        have HSK := Lib.hid sKW
        have HB0 : Hid (BldF (w1.heap.size + 1) (w1.heap.size + 1) (joinK (spF z) 0 (ts.take 0)) (KW.alloc (.cells #[.pointer none, .slice none 0 0] TB))) := Lib.hid (by have := BldF.fresh KW; rw [sKW] at this; exact this)
        have HL0 : Hid (Below KW.heap.size KW (KW.alloc (.cells #[.pointer none, .slice none 0 0] TB))) := Lib.hid (below_allocW KW _)
        have HKW : Hid (w1.alloc (.cells kdCells.toArray 9) = KW) := Lib.hid hKW
        clear hK b1 bKW gKW sKW hKW HC HZ
        go_wp2
        go_loopw [38] (fun s38 wr => ∃ k : Nat, s38 = .int .i64 (k : Int) ∧ k ≤ ts.length ∧ Hid (BldF (w1.heap.size + 1) (w1.heap.size + 1) (joinK (spF z) 0 (ts.take k)) wr) ∧ Hid (Below KW.heap.size KW wr)) (fun s38 _ => ts.length - (intOf s38).toNat)
        case atStart => exact ⟨0, rfl, Nat.zero_le _, Lib.hid (by have := HB0.out; rw [← HKW.out] at this; exact this), Lib.hid (by have := HL0.out; rw [← HKW.out] at this ⊢; exact this)⟩
        case round =>
          obtain ⟨k, rfl, hk, HBL, HB⟩ := hrel
          by_cases hlt : k < ts.length
          · have k1 : (k : Int) < (ts.length : Int) := by omega
            obtain ⟨bb, off, rfl, _, hbl, c0, c1, c2, _⟩ := (HK.out.1.below HB.out) k hlt
            have c3 := (HK.out.2.below HB.out).at_ hlt
            have HNX := Lib.hid (joinK_next (spF z) ts k hlt)
            have HJL : Hid ((joinK (spF z) 0 (ts.take k)).length ≤ 4001 * 408) := Lib.hid (by
              have := joinK_len (spF z) (ts.take k) 0 (fun t ht => HSZ.out t (List.mem_of_mem_take ht))
              rw [List.length_take, Nat.min_eq_left (by omega)] at this
              omega)
            have htz := HSZ.out _ (gk_mem hlt)
            obtain ⟨J, hJ⟩ : ∃ J, joinK (spF z) 0 (ts.take k) = J := ⟨_, rfl⟩
            rw [hJ] at HBL HNX HJL
            obtain ⟨T, hT⟩ : ∃ t, gk ts k = t := ⟨_, rfl⟩
            rw [hT] at c0 c1 c2 c3 HNX htz
            obtain ⟨tk, tt, tv, ta⟩ := T
            simp only [] at c0 c1 c2 c3 HNX htz
            obtain ⟨W1, hW1⟩ : ∃ X, wr.alloc (.cells #[.int .i64 0, .string ⟨#[]⟩, .int .i64 0, .int .i64 0] TTk) = X := ⟨_, rfl⟩
            obtain ⟨g1, g2⟩ := varK wr ⟨tk, tt, tv, ta⟩ W1 hW1
            obtain ⟨X1, hX1⟩ : ∃ X, W1.setRow wr.heap.size #[.int .i64 tk, .string tt, .int .i64 tv, .int .i64 (ta : Int)] = X := ⟨_, rfl⟩
            obtain ⟨bX1, g3⟩ := g2 X1 hX1
            have d1 : X1.cell? ⟨wr.heap.size, 1, none⟩ = some (.string tt) := by rw [Lib.cell_of_heap g3]; rfl
            have HBX := Lib.hid (HB.out.trans (bX1.mono HB.out.size))
            have HC1 := Lib.hid (writeString_any (w1.heap.size + 1) (w1.heap.size + 1) J tt X1 (HBL.out.later bX1) (by have := HJL.out; omega))
            have HG1 := Lib.hid g1
            have HW1 := Lib.hid hW1
            have HX1 := Lib.hid hX1
            clear hJ hT g1 g2 hW1 hX1 g3 bX1
            go_wp2_with (rw [HW1.out]; refine wpList_store_row rfl TTk (.tmp 11) (.tmp 42) rfl wr.heap.size #[.int .i64 tk, .string tt, .int .i64 tv, .int .i64 (ta : Int)] rfl rfl _ _ HG1.out (by kernel_rfl) rfl (by simp [Value.oneCell']) ?_; rw [HX1.out])
            refine HC1.out.mono ?_
            rintro e w3 ⟨⟨x, rfl⟩, hb3, b3⟩
            have HBL3 := Lib.hid hb3
            have HB3 := Lib.hid (HBX.out.trans (b3.mono (Nat.le_of_eq HSK.out)))
            clear hb3 b3 d1 c0 c1 c2 c3
            have GK3 := (HB3.out.block _ (ltH HGK.out)).trans HGK.out
            by_cases hn : 0 < n
            · have k5 : (0 : Int) < (n : Int) := by omega
              have hzl : z.length = n := HZK.out.1
              obtain ⟨m, hm⟩ : ∃ m, k % n = m := ⟨_, rfl⟩
              have hmn : m < n := by rw [← hm]; exact Nat.mod_lt _ hn
              have tm1 : ((k : Int)).tmod (n : Int) = (m : Int) := by rw [Int.tmod_eq_emod_of_nonneg (by omega), ← hm]; simp
              have tw1 : IntKind.i64.wrap (m : Int) = (m : Int) := IntWalk.i64_in _ (by omega)
              have nz : ¬ (n : Int) = 0 := by omega
              have m1 : (m : Int) < (n : Int) := by omega
              have m0 : (0 : Int) ≤ (m : Int) := by omega
              obtain ⟨zb, zo, rfl, _, e0⟩ := (HZK.out.below HB3.out).2.2.2 m hmn
              obtain ⟨cv, hcv⟩ : ∃ c, g8 z m = c := ⟨_, rfl⟩
              rw [hcv] at e0
              obtain ⟨p, hp⟩ : ∃ p, cv.toNat % 5 = p := ⟨_, rfl⟩
              have hp5 : p < 5 := by rw [← hp]; exact Nat.mod_lt _ (by omega)
              have hc255 : cv.toNat < 256 := cv.toNat_lt
              have tm2 : ((cv.toNat : Int)).tmod 5 = (p : Int) := by rw [Int.tmod_eq_emod_of_nonneg (by omega), ← hp]; simp
              have tw2 : IntKind.i64.wrap (p : Int) = (p : Int) := IntWalk.i64_in _ (by omega)
              have tw3 : IntKind.i64.wrap (cv.toNat : Int) = (cv.toNat : Int) := IntWalk.i64_in _ (by omega)
              have p1 : (p : Int) < 5 := by omega
              have p0 : (0 : Int) ≤ (p : Int) := by omega
              have f0 := kdRow GK3 p hp5
              have hsf : spF z k = p := by unfold spF; rw [hzl, if_pos hn, hm, hcv, hp]
              have hkl := kd_len p
              rw [hsf] at HNX
              have hbz : (bB (kd p)).size ≤ 8 := by rw [bB_size]; exact hkl
              obtain ⟨D, hD⟩ : ∃ D, bB (kd p) = D := ⟨_, rfl⟩
              rw [hD] at f0 HNX hbz
              have HC2 := Lib.hid (fun W (hW : BldF (w1.heap.size + 1) (w1.heap.size + 1) (J ++ tt.data.toList) W) => writeString_any (w1.heap.size + 1) (w1.heap.size + 1) (J ++ tt.data.toList) D W hW (by
                have := HJL.out
                rw [List.length_append, list_len]
                omega))
              have HC3 := Lib.hid (HC2.out w3 HBL3.out)
              clear hm hcv hp hsf hkl hD GK3 HC2
              go_wp2_with fail
              refine HC3.out.mono ?_
              rintro e w4 ⟨⟨x, rfl⟩, hb4, b4⟩
              have HBL4 : Hid (BldF (w1.heap.size + 1) (w1.heap.size + 1) (joinK (spF z) 0 (ts.take (k + 1))) w4) := Lib.hid (by rw [HNX.out]; exact hb4)
              have HB4 := Lib.hid (HB3.out.trans (b4.mono (Nat.le_of_eq HSK.out)))
              clear hb4 b4
              go_wp2
              go_roundw
              case rel => exact ⟨k + 1, by go_num, by omega, HBL4, HB4⟩
              case measure => simp [intOf]; omega
            · have k5 : ¬ (0 : Int) < (n : Int) := by omega
              have hzl : z.length = n := HZK.out.1
              have f0 := kdRow GK3 0 (by omega)
              have hsf : spF z k = 0 := by unfold spF; rw [hzl, if_neg hn]
              have hkl := kd_len 0
              rw [hsf] at HNX
              have hbz : (bB (kd 0)).size ≤ 8 := by rw [bB_size]; exact hkl
              obtain ⟨D, hD⟩ : ∃ D, bB (kd 0) = D := ⟨_, rfl⟩
              rw [hD] at f0 HNX hbz
              have HC3 := Lib.hid (writeString_any (w1.heap.size + 1) (w1.heap.size + 1) (J ++ tt.data.toList) D w3 HBL3.out (by
                have := HJL.out
                rw [List.length_append, list_len]
                omega))
              clear hsf hkl hD GK3
              go_wp2_with fail
              refine HC3.out.mono ?_
              rintro e w4 ⟨⟨x, rfl⟩, hb4, b4⟩
              have HBL4 : Hid (BldF (w1.heap.size + 1) (w1.heap.size + 1) (joinK (spF z) 0 (ts.take (k + 1))) w4) := Lib.hid (by rw [HNX.out]; exact hb4)
              have HB4 := Lib.hid (HB3.out.trans (b4.mono (Nat.le_of_eq HSK.out)))
              clear hb4 b4
              go_wp2
              go_roundw
              case rel => exact ⟨k + 1, by go_num, by omega, HBL4, HB4⟩
              case measure => simp [intOf]; omega
          · obtain rfl : k = ts.length := by omega
            have hbl := HBL.out
            rw [List.take_of_length_le (Nat.le_refl _)] at hbl
            have HSP := Lib.hid (fun hl => spaces_same HL.out (spF z) hl)
            have HJN := Lib.hid (joinK_ne (spF z) HNE.out)
            obtain ⟨J, hJ⟩ : ∃ J, joinK (spF z) 0 ts = J := ⟨_, rfl⟩
            rw [hJ] at hbl HSP HJN
            have HLN := Lib.hid (bldLen_any _ _ J wr hbl)
            have HBL2 := Lib.hid hbl
            have HBW := Lib.hid (HBK.out.trans (HB.out.mono HBK.out.size))
            clear hbl hJ
            go_wp2_with fail
            refine HLN.out.mono ?_
            rintro e w3 ⟨rfl, hw⟩
            have hw := hw.symm
            subst hw
            by_cases hj : 4000 < J.length
            · have k6 : (4000 : Int) < (J.length : Int) := by omega
              have HA := Lib.hid (HAW.out wr HBW.out)
              clear hj
              go_wp2_with fail
              refine HA.out.mono ?_
              rintro e w4 ⟨rfl, b4⟩
              have HB4 := Lib.hid (HBW.out.trans (b4.mono HBW.out.size))
              clear b4
              go_wp2
              go_ret
              exact ⟨rfl, HB4.out⟩
            · have k6 : ¬ (4000 : Int) < (J.length : Int) := by omega
              obtain ⟨us, hus, hst⟩ := HSP.out (by omega)
              have HU := Lib.hid hus
              have HST := Lib.hid hst
              have HS := Lib.hid (bldString_any _ _ J wr HBL2.out HJN.out)
              have hbz : (bB J).size ≤ 9223372036854775807 := by rw [bB_size]; omega
              obtain ⟨S2, hS2⟩ : ∃ S, bB J = S := ⟨_, rfl⟩
              rw [hS2] at HU HS hbz
              clear hus hst hj hS2
              go_wp2_with fail
              refine HS.out.mono ?_
              rintro e w4 ⟨rfl, b4⟩
              have HB4 := Lib.hid (HB.out.trans (b4.mono (Nat.le_of_eq HSK.out)))
              have HBW4 := Lib.hid (HBK.out.trans (HB4.out.mono HBK.out.size))
              have HC5 := Lib.hid (tokB S2 us 0 0 w4 hbz (HV.out.below HBW4.out (Nat.le_refl _)) HU.out)
              clear b4
              go_wp2_with fail
              refine HC5.out.mono ?_
              rintro e w5 ⟨a5, c5, rfl, hK5, b5⟩
              have HBW5 := Lib.hid (HBW4.out.trans (b5.mono HBW4.out.size))
              have HB5 := Lib.hid (HB4.out.trans (b5.mono HB4.out.size))
              have HE := Lib.hid (equalF_any a a5 c c5 ts us w5 ⟨HK.out.1.below HB5.out, HK.out.2.below HB5.out⟩ hK5 (by omega) HST.out.symm)
              clear b5 hK5
              go_wp2_with fail
              refine HE.out.mono ?_
              rintro e w6 ⟨rfl, b6⟩
              have HBW6 := Lib.hid (HBW5.out.trans (b6.mono HBW5.out.size))
              have HA := Lib.hid (HAW.out w6 HBW6.out)
              clear b6
              go_wp2_with fail
              refine HA.out.mono ?_
              rintro e w7 ⟨rfl, b7⟩
              have HB7 := Lib.hid (HBW6.out.trans (b7.mono HBW6.out.size))
              clear b7
              go_wp2
              go_ret
              exact ⟨rfl, HB7.out⟩
      · have k1 : (q0 != 0) = true := by simpa using hq
        clear hl hq HZ HV
        go_enter Tryd.func6, Tryd.ntmps6
        go_wp2_with fail
        refine HC.out.mono ?_
        rintro e w1 ⟨a, c, rfl, hK, b1⟩
        have HA := Lib.hid (HAW.out w1 b1)
        have HB1 := Lib.hid b1
        clear hK b1 HC
        go_wp2_with fail
        refine HA.out.mono ?_
        rintro e w3 ⟨rfl, b3⟩
        have HB3 := Lib.hid (HB1.out.trans (b3.mono HB1.out.size))
        clear b3
        go_wp2
        go_ret
        exact ⟨rfl, HB3.out⟩
end Go.Proofs.YtdgphhdkeikbaaaDoor
