/-
  The reference's Tokens.
-/
import Derived.Test.YtdgphhdkeikbaaaDoorLxRef3
import Derived.Test.YtdgphhdkeikbaaaDoorLxDiv
import Derived.Test.YtdgphhdkeikbaaaDoorLxTokens
import Derived.Test.YtdgphhdkeikbaaaDoorLxCut
import Derived.Test.YtdgphhdkeikbaaaDoorHeldTop
namespace Go.Proofs.YtdgphhdkeikbaaaDoor
set_option linter.unusedSimpArgs false
set_option linter.unusedVariables false
open Go.RowKit

theorem chr_is3 (c : UInt8) (d : UInt8) : ((c.toNat : Int) == (d.toNat : Int)) = (c == d) := chr_is2 c d
theorem one_er_ne {l : LBy} {e : Int} (h : one l = .er e) : e ≠ 0 := by
  rintro rfl
  revert h
  cases l with
  | nil => intro h; cases h
  | cons c r =>
    unfold one
    simp only
    repeat' split
    all_goals (intro q; cases q)
theorem ownK_empty {V : World} {B x : Nat} (h : V.heap[x]? = some (.cells #[] TTk (0, 0))) (hB : B ≤ x) : OwnK B [] (.slice (some ⟨x, 0, none⟩) 0 0) V := ⟨rfl, .inr ⟨x, 0, #[], rfl, hB, h, Nat.le_refl _, Nat.zero_le _, rfl, rfl⟩⟩
theorem below_allocK (W : World) (o : Obj) : Below W.heap.size W (W.alloc o) := (Below.refl _ W).alloc (Nat.le_refl _) _
/-- What a round of the reference's loop meets. -/
theorem lx_at_sp {s : ByteArray} {p : Nat} {acc : List Tk} (hp : p < s.size) (h : lexL s.data.toList = lxx (s.data.toList.drop p) p acc) (hs : isSp (s[p]'hp) = true) : lexL s.data.toList = lxx (s.data.toList.drop (p + 1)) (p + 1) acc := by
  rw [h, drop_at (at_list s p hp), lxx_sp hs]
theorem lx_at_cm {s : ByteArray} {p k : Nat} {acc : List Tk} (hp : p < s.size) (h : lexL s.data.toList = lxx (s.data.toList.drop p) p acc) (hs : s[p]'hp = 35) (hk : ((s.data.toList.drop p).takeWhile isCm).length + p = k) : lexL s.data.toList = lxx (s.data.toList.drop k) k acc ∧ p < k := by
  have hd : (s.data.toList.drop p).head? = some 35 := by rw [drop_at (at_list s p hp), hs]; rfl
  refine ⟨?_, ?_⟩
  · rw [h, lxx_cm hd, drop_tw, List.drop_drop]
    rw [show p + ((s.data.toList.drop p).takeWhile isCm).length = k by omega]
  · have : 1 ≤ ((s.data.toList.drop p).takeWhile isCm).length := by
      rw [drop_at (at_list s p hp), hs, List.takeWhile_cons, if_pos (by decide)]; simp
    omega
theorem lx_at_one {s : ByteArray} {p : Nat} {acc : List Tk} (hp : p < s.size) (h : lexL s.data.toList = lxx (s.data.toList.drop p) p acc) (h1 : isSp (s[p]'hp) = false) (h2 : s[p]'hp ≠ 35) :
    (∃ e, tokR (s.data.toList.drop p) p = (zTk, e) ∧ e ≠ 0 ∧ lexL s.data.toList = ([], p, e)) ∨ (∃ T, tokR (s.data.toList.drop p) p = (T, 0) ∧ 1 ≤ T.t.size ∧ p + T.t.size ≤ s.size ∧ lexL s.data.toList = lxx (s.data.toList.drop (p + T.t.size)) (p + T.t.size) (acc ++ [T])) := by
  have hd := drop_at (at_list s p hp)
  cases ho : one (s.data.toList.drop p) with
  | er e =>
    left
    refine ⟨e, by unfold tokR; rw [ho], one_er_ne ho, ?_⟩
    rw [hd] at ho
    rw [h, hd, lxx_er h1 h2 ho]
  | tk k n v =>
    right
    have hn := one_tk ho
    rw [List.length_drop, list_len] at hn
    have hsz : (bB ((s.data.toList.drop p).take n)).size = n := by rw [bB_size, List.length_take, List.length_drop, list_len]; omega
    refine ⟨⟨k, bB ((s.data.toList.drop p).take n), v, p⟩, by unfold tokR; rw [ho], by rw [hsz]; omega, by rw [hsz]; omega, ?_⟩
    simp only
    rw [hsz]
    have ho' := ho
    rw [hd] at ho'
    rw [h]
    conv => lhs; rw [hd, lxx_tk h1 h2 ho', ← hd, List.drop_drop]
set_option maxRecDepth 100000 in
set_option maxHeartbeats 16000000 in
theorem rTokens_any (s : ByteArray) (w : World) (hs : s.size ≤ 9223372036854775807) :
    Calls Tryd.prog 38 #[.string s] w fun x w' => ∃ v, x = .returned (.tuple #[v, .int .i64 ((lexT s).2.1 : Nat), .int .i64 (lexT s).2.2]) ∧ LkC (fun b => w.heap.size ≤ b) w' v (lexT s).1 ∧ Below w.heap.size w w' := by
  have HE0 : Hid (Below w.heap.size w (w.alloc (.cells #[] TTk))) := Lib.hid ((Below.refl _ w).alloc (Nat.le_refl _) _)
  have HNIL : Hid (∀ (W : World) (a : Option Addr) (c : Nat), c ≤ 9223372036854775807 → LkC (fun b => w.heap.size ≤ b) W (.slice a 0 c) []) := Lib.hid (fun W a c hc => ⟨a, c, rfl, Nat.zero_le _, hc, fun j hj => absurd hj (by simp), fun j hj => absurd hj (by simp)⟩)
  by_cases h : 4000 < s.size
  · have hL : lexT s = ([], 0, 4) := by unfold lexT; rw [if_pos h]
    have h1 : (4000 : Int) < (s.size : Int) := by omega
    rw [hL]
    clear h hL
    go_enter Tryd.func38, Tryd.ntmps38
    go_wp2
    go_ret3
    exact ⟨_, rfl, HNIL.out _ _ _ (by decide), HE0.out⟩
  · have hL : lexT s = lexL s.data.toList := by unfold lexT; rw [if_neg h]
    have h1 : ¬ (4000 : Int) < (s.size : Int) := by omega
    have hs4 : s.size ≤ 4000 := by omega
    rw [hL]
    obtain ⟨R, hR⟩ : ∃ R, lexL s.data.toList = R := ⟨_, rfl⟩
    have HR := Lib.hid hR
    rw [hR]
    obtain ⟨i4, ki, kz0, kz1, kz2⟩ := info_parts infoTk
    have HO0 : Hid (OwnK w.heap.size [] (.slice (some ⟨w.heap.size, 0, none⟩) 0 0) (w.alloc (.cells #[] TTk))) := Lib.hid (ownK_empty (heapNew w _) (Nat.le_refl _))
    clear h hL hR
    go_enter Tryd.func38, Tryd.ntmps38
    go_wp2
    go_loopw [5, 6] (fun s5 s6 wr => ∃ (p : Nat) (v : Value) (acc : List Tk), v = s5 ∧ s6 = .int .i64 (p : Int) ∧ p ≤ s.size ∧ Hid (acc.length ≤ p) ∧ Hid (lexL s.data.toList = lxx (s.data.toList.drop p) p acc) ∧ Hid (OwnK w.heap.size acc v wr) ∧ Hid (Below w.heap.size w wr)) (fun _ s6 _ => s.size - (intOf s6).toNat)
    case atStart => exact ⟨0, _, [], rfl, rfl, Nat.zero_le _, Lib.hid (Nat.le_refl _), Lib.hid rfl, HO0, HE0⟩
    case round =>
      obtain ⟨p, v, acc, rfl, rfl, hp, HAL, HL, HO, HB⟩ := hrel
      by_cases hlt : p < s.size
      · have k1 : (p : Int) < (s.size : Int) := by omega
        have i32 := chr_is3 (s[p]'hlt) 32
        have i9 := chr_is3 (s[p]'hlt) 9
        have i10 := chr_is3 (s[p]'hlt) 10
        have i35 := chr_is3 (s[p]'hlt) 35
        change ((s[p]'hlt).toNat == (32 : Int)) = _ at i32
        change ((s[p]'hlt).toNat == (9 : Int)) = _ at i9
        change ((s[p]'hlt).toNat == (10 : Int)) = _ at i10
        change ((s[p]'hlt).toNat == (35 : Int)) = _ at i35
        have hsp : isSp (s[p]'hlt) = ((s[p]'hlt == 32) || (s[p]'hlt == 9) || (s[p]'hlt == 10)) := rfl
        obtain ⟨b1, hb1⟩ : ∃ b, (s[p]'hlt == 32) = b := ⟨_, rfl⟩
        obtain ⟨b2, hb2⟩ : ∃ b, (s[p]'hlt == 9) = b := ⟨_, rfl⟩
        obtain ⟨b3, hb3⟩ : ∃ b, (s[p]'hlt == 10) = b := ⟨_, rfl⟩
        obtain ⟨b4, hb4⟩ : ∃ b, (s[p]'hlt == 35) = b := ⟨_, rfl⟩
        rw [hb1] at i32 hsp
        rw [hb2] at i9 hsp
        rw [hb3] at i10 hsp
        rw [hb4] at i35
        have HSP : Hid ((b1 || b2 || b3) = true → lexL s.data.toList = lxx (s.data.toList.drop (p + 1)) (p + 1) acc) := Lib.hid (fun hh => lx_at_sp hlt HL.out (by rw [hsp]; exact hh))
        have HAL2 : Hid (acc.length ≤ p + 1) := Lib.hid (Nat.le_succ_of_le HAL.out)
        have HNS : Hid ((b1 || b2 || b3) = false → isSp (s[p]'hlt) = false) := Lib.hid (fun hh => by rw [hsp]; exact hh)
        have HB4 := Lib.hid hb4
        clear hsp hb1 hb2 hb3 hb4
        cases b1 with
        | true =>
          have HL2 := Lib.hid (HSP.out rfl)
          clear HSP HNS HB4
          go_wp2
          go_roundw
          case rel => exact ⟨p + 1, _, acc, rfl, by go_num, by omega, HAL2, HL2, HO, HB⟩
          case measure => simp [intOf]; omega
        | false =>
          cases b2 with
          | true =>
            have HL2 := Lib.hid (HSP.out rfl)
            clear HSP HNS HB4
            go_wp2
            go_roundw
            case rel => exact ⟨p + 1, _, acc, rfl, by go_num, by omega, HAL2, HL2, HO, HB⟩
            case measure => simp [intOf]; omega
          | false =>
            cases b3 with
            | true =>
              have HL2 := Lib.hid (HSP.out rfl)
              clear HSP HNS HB4
              go_wp2
              go_roundw
              case rel => exact ⟨p + 1, _, acc, rfl, by go_num, by omega, HAL2, HL2, HO, HB⟩
              case measure => simp [intOf]; omega
            | false =>
              have HNS2 := Lib.hid (HNS.out rfl)
              clear HSP HNS HAL2
              cases b4 with
              | true =>
                have HC : Hid (∀ k, ((s.data.toList.drop p).takeWhile isCm).length + p = k → lexL s.data.toList = lxx (s.data.toList.drop k) k acc ∧ p < k) := Lib.hid (fun k hk => lx_at_cm hlt HL.out (by simpa using HB4.out) hk)
                clear HNS2 HB4
                obtain ⟨wo, hwo⟩ : ∃ X, X = wr := ⟨_, rfl⟩
                subst hwo
                go_wp2
                go_loopw [6] (fun s6 w2 => ∃ k : Nat, s6 = .int .i64 (k : Int) ∧ p ≤ k ∧ k ≤ s.size ∧ Hid (((s.data.toList.drop p).takeWhile isCm).length + p = k + ((s.data.toList.drop k).takeWhile isCm).length) ∧ w2 = wo) (fun s6 _ => s.size - (intOf s6).toNat)
                case atStart => exact ⟨p, rfl, Nat.le_refl _, hp, Lib.hid (by omega), rfl⟩
                case round =>
                  obtain ⟨k, rfl, hpk, hk, HK, rfl⟩ := hrel
                  by_cases hkl : k < s.size
                  · have k3 : (k : Int) < (s.size : Int) := by omega
                    have j10 := chr_is3 (s[k]'hkl) 10
                    change ((s[k]'hkl).toNat == (10 : Int)) = _ at j10
                    have hcm : isCm (s[k]'hkl) = !(s[k]'hkl == 10) := by
                      unfold isCm
                      cases hh : (s[k]'hkl == 10) with
                      | true => simpa using hh
                      | false => simpa using hh
                    obtain ⟨b5, hb5⟩ : ∃ b, (s[k]'hkl == 10) = b := ⟨_, rfl⟩
                    rw [hb5] at j10 hcm
                    have j11 : (((s[k]'hkl).toNat : Int) != 10) = !b5 := by rw [bne, j10]
                    clear hb5
                    cases b5 with
                    | false =>
                      have HK2 := Lib.hid (tw_more hkl hcm HK.out)
                      clear hcm
                      go_wp2
                      go_roundw
                      case rel => exact ⟨k + 1, by go_num, by omega, by omega, HK2, by first | rfl | trivial⟩
                      case measure => simp [intOf]; omega
                    | true =>
                      obtain ⟨h5, h6⟩ := HC.out k (tw_end hkl hcm HK.out)
                      have HL2 := Lib.hid h5
                      have HAL2 : Hid (acc.length ≤ k) := Lib.hid (by have := HAL.out; omega)
                      clear hcm h5
                      go_wp2
                      go_roundw
                      case rel => exact ⟨k, _, acc, rfl, by go_num, hk, HAL2, HL2, HO, HB⟩
                      case measure => simp [intOf]; omega
                  · have k3 : ¬ (k : Int) < (s.size : Int) := by omega
                    obtain rfl : k = s.size := by omega
                    obtain ⟨h5, h6⟩ := HC.out s.size (tw_last HK.out)
                    have HL2 := Lib.hid h5
                    have HAL2 : Hid (acc.length ≤ s.size) := Lib.hid (by have := HAL.out; omega)
                    clear h5
                    go_wp2
                    go_roundw
                    case rel => exact ⟨s.size, _, acc, rfl, by go_num, hk, HAL2, HL2, HO, HB⟩
                    case measure => simp [intOf]; omega
              | false =>
                have hone := lx_at_one hlt HL.out HNS2.out (by simpa using HB4.out)
                have hT := rone_any s p wr hs4 hlt
                clear HNS2 HB4
                rcases hone with ⟨e, h2, h3, h4⟩ | ⟨T, h2, h3, h4, h5⟩
                · rw [h2] at hT
                  have k5 : (e != 0) = true := by simpa using h3
                  have HRR := Lib.hid (HR.out.symm.trans h4)
                  simp only [tkV, zTk] at hT
                  have HT := Lib.hid hT
                  clear h2 h3 h4 hT
                  go_wp2_with fail
                  refine HT.out.mono ?_
                  rintro x w3 ⟨rfl, b3⟩
                  have HB3 := Lib.hid (HB.out.trans (b3.mono HB.out.size))
                  clear b3
                  go_wp2
                  try simp only [Exit.inBlock, Exit.then, Exit.noGoto]
                  go_ret3
                  rw [HRR.out]
                  exact ⟨_, rfl, HNIL.out _ _ _ (by decide), (HB3.out.alloc (by have := HB3.out.size; omega) _).alloc (by have := HB3.out.size; simp; omega) _⟩
                · rw [h2] at hT
                  have HL2 := Lib.hid h5
                  obtain ⟨tk, tt, tv, ta⟩ := T
                  simp only at h3 h4
                  have w8 : IntKind.i64.wrap ((p : Int) + (tt.size : Int)) = (p : Int) + (tt.size : Int) := IntWalk.i64_in _ (by omega)
                  simp only [tkV] at hT
                  have HT := Lib.hid hT
                  clear h2 hT h5
                  go_wp2_with fail
                  refine HT.out.mono ?_
                  rintro x w3 ⟨rfl, b3⟩
                  obtain ⟨X, hX⟩ : ∃ X, w3.alloc (.cells #[.int .i64 tk, .string tt, .int .i64 tv, .int .i64 (ta : Int)] TTk) = X := ⟨_, rfl⟩
                  have hgx : X.heap[w3.heap.size]? = some (.cells #[.int .i64 tk, .string tt, .int .i64 tv, .int .i64 (ta : Int)] TTk (0, 0)) := by rw [← hX]; exact heapNew w3 _
                  have bX : Below wr.heap.size wr X := by rw [← hX]; exact b3.alloc b3.size _
                  have HBX := Lib.hid (HB.out.trans (bX.mono HB.out.size))
                  have HOX := Lib.hid (HO.out.keep (fun k _ h => bX.block k h))
                  have HX := Lib.hid hX
                  have HGX := Lib.hid hgx
                  have HZX : Hid (w.heap.size ≤ w3.heap.size ∧ wr.heap.size ≤ w3.heap.size) := Lib.hid ⟨Nat.le_trans HB.out.size b3.size, b3.size⟩
                  clear b3 bX hX hgx
                  go_wp2
                  rw [HX.out]
                  refine wp_region_held (S := fun V => V.heap[w3.heap.size]? = some (.cells #[.int .i64 tk, .string tt, .int .i64 tv, .int .i64 (ta : Int)] TTk (0, 0))) (by kernel_rfl) ?_
                  change wpAnyH _ _ _ _ _ _ _ _ (X).drew
                  obtain ⟨XD, hXD⟩ : ∃ V, (X).drew = V := ⟨_, rfl⟩
                  have bXD : Below (X).heap.size (X) XD := by rw [← hXD]; exact (Below.refl _ _).drew
                  have HS := Lib.hid ((bXD.block _ (ltH HGX.out)).trans HGX.out)
                  have HBD := Lib.hid (HBX.out.trans (bXD.mono HBX.out.size))
                  have HOD := Lib.hid (HOX.out.keep (fun k _ h => bXD.block k h))
                  have HZD := Lib.hid bXD.size
                  rw [hXD]
                  clear hXD bXD
                  refine wpAnyH_read (i := 0) (v := v) rfl (by kernel_rfl) (by kernel_rfl) (by kernel_rfl) (fun _ _ _ h => h) (by rfl) (by intro V _; rfl) HS.out ?_
                  simp only [Act.put, List.setIfInBounds_toArray, List.set_cons_zero, List.set_cons_succ]
                  refine wpAnyH_read (i := 1) (v := .agg #[.int .i64 tk, .string tt, .int .i64 tv, .int .i64 (ta : Int)]) rfl (by kernel_rfl) (by kernel_rfl) (by kernel_rfl) (fun _ _ _ h => h) (by rfl) (by intro V hV; have q0 := Lib.cell_of_heap (w := V) (j := 0) hV; have q1 := Lib.cell_of_heap (w := V) (j := 1) hV; have q2 := Lib.cell_of_heap (w := V) (j := 2) hV; have q3 := Lib.cell_of_heap (w := V) (j := 3) hV; simp at q0 q1 q2 q3; go_simp) HS.out ?_
                  simp only [Act.put, List.setIfInBounds_toArray, List.set_cons_zero, List.set_cons_succ]
                  refine wpAnyH_read (i := 4) (v := .int .i64 (p : Int)) rfl (by kernel_rfl) (by kernel_rfl) (by kernel_rfl) (fun _ _ _ h => h) (by rfl) (fun _ _ => rfl) HS.out ?_
                  simp only [Act.put, List.setIfInBounds_toArray, List.set_cons_zero, List.set_cons_succ]
                  refine wpAnyH_read (i := 5) (v := .pointer (some ⟨w3.heap.size, 1, none⟩)) rfl (by kernel_rfl) (by kernel_rfl) (by kernel_rfl) (fun _ _ _ h => h) (by rfl) (by intro V _; go_simp) HS.out ?_
                  simp only [Act.put, List.setIfInBounds_toArray, List.set_cons_zero, List.set_cons_succ]
                  refine wpAnyH_read (i := 6) (v := .string tt) rfl (by kernel_rfl) (by kernel_rfl) (by kernel_rfl) (fun _ _ _ h => h) (by rfl) (by intro V hV; have q0 := Lib.cell_of_heap (w := V) (j := 0) hV; have q1 := Lib.cell_of_heap (w := V) (j := 1) hV; have q2 := Lib.cell_of_heap (w := V) (j := 2) hV; have q3 := Lib.cell_of_heap (w := V) (j := 3) hV; simp at q0 q1 q2 q3; go_simp) HS.out ?_
                  simp only [Act.put, List.setIfInBounds_toArray, List.set_cons_zero, List.set_cons_succ]
                  refine wpAnyH_read (i := 7) (v := .int .i64 (tt.size : Int)) rfl (by kernel_rfl) (by kernel_rfl) (by kernel_rfl) (fun _ _ _ h => h) (by rfl) (by intro V _; go_simp) HS.out ?_
                  simp only [Act.put, List.setIfInBounds_toArray, List.set_cons_zero, List.set_cons_succ]
                  refine wpAnyH_read (i := 8) (v := .int .i64 ((p : Int) + (tt.size : Int))) rfl (by kernel_rfl) (by kernel_rfl) (by kernel_rfl) (fun _ _ _ h => h) (by rfl) (by intro V _; go_simp) HS.out ?_
                  simp only [Act.put, List.setIfInBounds_toArray, List.set_cons_zero, List.set_cons_succ]
                  obtain ⟨XE, hXE⟩ : ∃ V, XD.alloc (.cells #[.int .i64 tk, .string tt, .int .i64 tv, .int .i64 (ta : Int)] TTk) = V := ⟨_, rfl⟩
                  have hz0 : XE.heap.size = XD.heap.size + 1 := by rw [← hXE]; simp
                  have hNC := newCellK XD ⟨tk, tt, tv, ta⟩
                  simp only at hNC
                  rw [hXE] at hNC
                  have HNC := Lib.hid hNC
                  have bXE : Below XD.heap.size XD XE := by rw [← hXE]; exact below_allocK XD _
                  have HSE := Lib.hid ((bXE.block _ (ltH HS.out)).trans HS.out)
                  have HRW := Lib.hid (show XE.ownsRow w.heap.size TTk 4 v acc.length (tkL acc) from HOD.out.keep (fun k _ h => bXE.block k h))
                  have HOB := Lib.hid (fun t (ht : v.ownBlock = some t) => (World.ownsRow.lt (show wr.ownsRow w.heap.size TTk 4 v acc.length (tkL acc) from HO.out) t ht))
                  have HBB := Lib.hid (HBD.out.trans (bXE.mono HBD.out.size))
                  have HSH : Hid (acc.length ≤ 4000) := Lib.hid (by have := HAL.out; omega)
                  have HXE := Lib.hid hXE
                  have HZE := Lib.hid hz0
                  obtain ⟨q, hq⟩ : ∃ q, acc.length = q := ⟨_, rfl⟩
                  rw [hq] at HRW HSH
                  have HQ := Lib.hid hq
                  clear hq hNC bXE hz0 hXE
                  refine wpAnyH_next (i := 2) rfl (by kernel_rfl) ?_
                  go_wp2_with fail
                  rw [HXE.out]
                  refine ⟨HSE.out, ?_⟩
                  refine wpAnyH_next (i := 3) rfl (by kernel_rfl) ?_
                  go_wp2_with (at_builtin; refine wpList_append_own _ rfl _ _ TTs rfl w.heap.size TTk i4 (.agg #[.int .i64 0, .string ⟨#[]⟩, .int .i64 0, .int .i64 0]) 4 40 Tryd.underlying22 ki kz0 kz1 kz2 rfl (by decide) _ _ _ rfl HRW.out ⟨XD.heap.size, 0, none⟩ 1 1 (encK ⟨tk, tt, tv, ta⟩) rfl rfl HNC.out (encK_one _) ?qb4 ?qb5 ?qb6 ?_)
                  case qb4 => have := HSH.out; unfold maxLen; omega
                  case qb5 => have := HSH.out; omega
                  case qb6 => have := HBB.out.size; omega
                  intro v' w4 hown hgrow hnil
                  have HO4 : Hid (OwnK w.heap.size (acc ++ [⟨tk, tt, tv, ta⟩]) v' w4) := Lib.hid (by
                    unfold OwnK
                    rw [tkL_snoc, List.length_append, HQ.out]
                    exact hown)
                  have HB4 := Lib.hid (HBB.out.grown hgrow (by have := HBB.out.size; omega) (fun k hk => by have := (HOB.out k hk).1; omega))
                  have HS4 : Hid (w4.heap[w3.heap.size]? = some (.cells #[.int .i64 tk, .string tt, .int .i64 tv, .int .i64 (ta : Int)] TTk (0, 0))) := Lib.hid ((hgrow.block _ (ltH HSE.out) (fun e => by have := (HOB.out _ e.symm).2; have := HZX.out.2; omega)).trans HSE.out)
                  have HAL2 : Hid ((acc ++ [(⟨tk, tt, tv, ta⟩ : Tk)]).length ≤ p + tt.size) := Lib.hid (by rw [List.length_append, List.length_singleton]; have := HAL.out; omega)
                  clear hown hgrow hnil
                  go_wp2_with fail
                  refine ⟨HS4.out, ?_⟩
                  refine wpAnyH_next (i := 9) rfl (by kernel_rfl) ?_
                  go_wp2_with fail
                  refine ⟨HS4.out, ?_⟩
                  refine wpAnyH_next (i := 10) rfl (by kernel_rfl) ?_
                  go_wp2_with fail
                  refine ⟨HS4.out, ?_⟩
                  refine wpAnyH_done (by kernel_rfl) ?_ _
                  go_wp2
                  go_roundw
                  case rel => exact ⟨p + tt.size, _, acc ++ [⟨tk, tt, tv, ta⟩], rfl, by go_num, by omega, HAL2, HL2, HO4, HB4⟩
                  case measure => simp [intOf]; omega
      · obtain rfl : p = s.size := by omega
        have HLA : Hid (R = (acc ++ [⟨0, .empty, 0, s.size⟩], 0, 0)) := Lib.hid (by
          rw [← HR.out, HL.out, List.drop_of_length_le (by rw [list_len]; exact Nat.le_refl _)]
          exact lxx_nil _ _)
        have HSH : Hid (acc.length ≤ 4000) := Lib.hid (by have := HAL.out; omega)
        have HNC := Lib.hid (newCellK wr ⟨0, .empty, 0, s.size⟩)
        have HRW := Lib.hid (show (wr).ownsRow w.heap.size TTk 4 v acc.length (tkL acc) from HO.out)
        have HOB := Lib.hid (fun t (ht : v.ownBlock = some t) => (World.ownsRow.lt HRW.out t ht).1)
        have HBB := Lib.hid HB.out
        obtain ⟨q, hq⟩ : ∃ q, acc.length = q := ⟨_, rfl⟩
        rw [hq] at HRW HSH
        have HQ := Lib.hid hq
        clear hq
        go_wp2_with (at_builtin; refine wpList_append_own _ rfl _ _ TTs rfl w.heap.size TTk i4 (.agg #[.int .i64 0, .string ⟨#[]⟩, .int .i64 0, .int .i64 0]) 4 40 Tryd.underlying22 ki kz0 kz1 kz2 rfl (by decide) _ _ _ rfl (HRW.out.alloc _) ⟨(wr).heap.size, 0, none⟩ 1 1 (encK ⟨0, .empty, 0, s.size⟩) rfl rfl HNC.out (encK_one _) ?qa4 ?qa5 ?qa6 ?_)
        case qa4 => have := HSH.out; unfold maxLen; omega
        case qa5 => have := HSH.out; omega
        case qa6 => have := HBB.out.size; simp; omega
        intro v' w4 hown hgrow hnil
        have HO4 : Hid (OwnK w.heap.size (acc ++ [⟨0, .empty, 0, s.size⟩]) v' w4) := Lib.hid (by
          unfold OwnK
          rw [tkL_snoc, List.length_append, HQ.out]
          exact hown)
        have HB4 := Lib.hid ((HBB.out.alloc HBB.out.size _).grown hgrow (by have := HBB.out.size; simp; omega) (fun k hk => by have := HOB.out k hk; omega))
        clear hown hgrow hnil
        go_wp2
        try simp only [Exit.inBlock, Exit.then, Exit.noGoto]
        go_ret3
        rw [HLA.out]
        exact ⟨_, rfl, HO4.out.fresh, HB4.out⟩
end Go.Proofs.YtdgphhdkeikbaaaDoor
