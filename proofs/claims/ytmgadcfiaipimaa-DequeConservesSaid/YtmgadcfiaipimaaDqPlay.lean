/-
  What Play returns.
-/
import Derived.Shelf.Abstract
import Derived.Test.YtmgadcfiaipimaaDqOps
namespace Go.Proofs.Ytmgadcfiaipimaa
open Go.RowKit Go.Shelf

theorem box2V (w : World) (a b : Value) (t : TypeId) : (w.alloc (.cells #[a, b] t)).cell? ⟨w.heap.size, 0, none⟩ = some a ∧ (w.alloc (.cells #[a, b] t)).cell? ⟨w.heap.size, 1, none⟩ = some b := by constructor <;> go_simp
theorem playS_bad {l : List Int} {ops : List (Int × Int)} (h : dqE l ≠ 0) : playS l ops = ([], [], dqE l) := if_neg h
theorem playS_long {l : List Int} {ops : List (Int × Int)} (h : dqE l = 0) (hl : 1000 < ops.length) : playS l ops = ([], [], 4) := by unfold playS; rw [if_pos h, if_pos hl]
theorem playS_pl {l : List Int} {ops : List (Int × Int)} (h : dqE l = 0) (hl : ¬ 1000 < ops.length) : playS l ops = plS l ops := by unfold playS; rw [if_pos h, if_neg hl]
theorem opS_push {L O : List Int} {t : Int} (h : dnE L t = 0) : opS L O (1, t) = (L ++ [t], O, 0) := by unfold opS; rw [if_pos rfl, if_pos h]
theorem opS_no {L O : List Int} {t : Int} (h : dnE L t ≠ 0) : opS L O (1, t) = ([], [], dnE L t) := by unfold opS; rw [if_pos rfl, if_neg h]
theorem opS_pop {L O : List Int} {t : Int} : opS L O (2, t) = (if L = [] then [] else popQ L, O ++ [if L = [] then -1 else popX L], 0) ∨ dqE L ≠ 0 := by
  by_cases hd : dqE L = 0
  · refine .inl ?_
    unfold opS
    rw [if_neg (by simp), if_pos rfl]
    by_cases h0 : L = []
    · rw [if_pos h0, if_pos h0, if_pos h0]
    · have h := takeE_iff.2 ⟨hd, h0⟩
      rw [if_neg h0, if_neg h0, if_neg h0, show popQ L = _ from if_pos h, show popX L = _ from if_pos h]
  · exact .inr hd
theorem opS_steal {L O : List Int} {t : Int} : opS L O (3, t) = (if L = [] then [] else stealQ L, O ++ [if L = [] then -1 else stealX L], 0) ∨ dqE L ≠ 0 := by
  by_cases hd : dqE L = 0
  · refine .inl ?_
    unfold opS
    rw [if_neg (by simp), if_neg (by simp), if_pos rfl]
    by_cases h0 : L = []
    · rw [if_pos h0, if_pos h0, if_pos h0]
    · have h := takeE_iff.2 ⟨hd, h0⟩
      rw [if_neg h0, if_neg h0, if_neg h0, show stealQ L = _ from if_pos h, show stealX L = _ from if_pos h]
  · exact .inr hd
theorem opS_kind {L O : List Int} {f t : Int} (h : f < 1 ∨ 3 < f) : opS L O (f, t) = ([], [], 8) := by
  unfold opS
  rw [if_neg (by dsimp only; omega), if_neg (by dsimp only; omega), if_neg (by dsimp only; omega)]

set_option maxRecDepth 100000 in
set_option maxHeartbeats 8000000 in
/-- Play. -/
theorem play_any (v u : Value) (l : List Int) (ops : List (Int × Int)) (w : World) (hK : KZ w v l) (hE : KE w u ops) :
    Calls Try.prog 23 #[v, u] w (RetP (playS l ops) w) := by
  have HC := check_any v l w hK
  obtain ⟨ua, uc, rfl, huc1, huc2, hU⟩ := hE
  by_cases h : dqE l = 0
  · rw [h] at HC
    have HC := Lib.hid HC
    by_cases hlong : 1000 < ops.length
    · rw [playS_long h hlong]
      have q1 : (1000 : Int) < (ops.length : Int) := by omega
      clear hK hU h hlong
      go_enter Try.func23, Try.ntmps23
      go_wp2_with fail
      refine HC.out.mono ?_
      rintro e w1 ⟨rfl, rfl⟩
      go_wp2
      go_ret3
      exact ⟨_, _, rfl, FzC.nil _ _ _ _ (by decide), FzC.nil _ _ _ _ (by decide), Below.refl _ _⟩
    · rw [playS_pl h hlong]
      have q1 : ¬ (1000 : Int) < (ops.length : Int) := by omega
      have hol : ops.length ≤ 1000 := by omega
      have hlen := dqE_len h
      have HCL := Lib.hid (zClone_any v l w hK (by omega))
      have HU := Lib.hid hU
      have HG : Hid (∀ os, ((plS l os).2.2 = 0 → dqE (plS l os).1 = 0 ∧ (plS l os).2.1.length ≤ os.length)) := Lib.hid (fun os => (plS_good h os).1)
      clear hK hU h hlong
      go_enter Try.func23, Try.ntmps23
      go_wp2_with fail
      refine HC.out.mono ?_
      rintro e w0 ⟨rfl, rfl⟩
      go_wp2_with fail
      refine HCL.out.mono ?_
      rintro e w1 ⟨v1, rfl, o1, b1⟩
      have HF1 := Lib.hid o1.fz
      have HB1 := Lib.hid b1
      clear o1 b1
      go_wp2
      go_loopw [8, 9, 29] (fun x y i wr => ∃ (k : Nat) (L O : List Int) (lv rv : Value), k ≤ ops.length ∧ i = .int .i64 k ∧ lv = x ∧ rv = y ∧ Hid (plS l (ops.take k) = (L, O, 0)) ∧ Hid (FzC w.heap.size wr lv L) ∧ Hid (OwnZ w.heap.size O rv wr) ∧ Hid (Below w.heap.size w wr)) (fun _ _ i _ => ops.length - (intOf i).toNat)
      case atStart => exact ⟨0, l, [], _, _, Nat.zero_le _, rfl, rfl, rfl, Lib.hid rfl, HF1, Lib.hid (OwnZ.nil _ _), HB1⟩
      case round =>
        obtain ⟨k, L, O, lv, rv, hk, rfl, rfl, rfl, HP, HL, HO, HB⟩ := hrel
        by_cases hlt : k < ops.length
        · have k1 : (k : Int) < (ops.length : Int) := by omega
          have hgood := HG.out (ops.take k)
          rw [HP.out] at hgood
          obtain ⟨hdL, hOl⟩ := hgood rfl
          rw [List.length_take] at hOl
          have hOl : O.length ≤ 1000 := by have : O.length ≤ min k ops.length := hOl; omega
          obtain ⟨bk, off, rfl, hbk, c0, c1⟩ := (HU.out.below HB.out) k hlt
          have hnext := plS_next HP.out hlt
          have hstop := fun (s : Pl) (hs : plS l (ops.take (k + 1)) = s) (h0 : s.2.2 ≠ 0) => plS_stop hs h0
          obtain ⟨⟨f, t⟩, hft⟩ : ∃ x, ge ops k = x := ⟨_, rfl⟩
          rw [hft] at c0 c1 hnext
          simp only [] at c0 c1
          have HN := Lib.hid hnext
          have HST := Lib.hid hstop
          have HDL := Lib.hid hdL
          obtain ⟨W1, hW1⟩ : ∃ W, wr.alloc (.cells #[.int .i64 f, .int .i64 t] TE) = W := ⟨_, rfl⟩
          have hb1 : Below wr.heap.size wr W1 := by rw [← hW1]; exact (Below.refl _ _).alloc (Nat.le_refl _) _
          have hx1 : W1.cell? ⟨wr.heap.size, 0, none⟩ = some (.int .i64 f) ∧ W1.cell? ⟨wr.heap.size, 1, none⟩ = some (.int .i64 t) := by rw [← hW1]; exact box2V wr _ _ _
          have HW1 := Lib.hid hW1
          have HX1 := Lib.hid hx1
          have HB1' := Lib.hid (HB.out.trans (hb1.mono HB.out.size))
          have HL1 := Lib.hid (HL.out.below hb1)
          have HO1 := Lib.hid (HO.out.below hb1)
          clear hft hnext hstop hdL hgood hW1 hb1 hx1 HP
          by_cases hkind : f < 1 ∨ 3 < f
          · have HR : Hid (plS l ops = ([], [], 8)) := Lib.hid (HST.out _ (by rw [HN.out]; exact opS_kind hkind) (show (8 : Int) ≠ 0 by decide))
            have HOP := Lib.hid (operationOfNo_any f hkind W1)
            obtain ⟨x0, x1⟩ := HX1.out
            clear hkind
            go_wp2_with fail
            rw [HW1.out]
            go_wp2_with fail
            refine HOP.out.mono ?_
            rintro e w2 ⟨rfl, b2⟩
            have HB2 := Lib.hid (HB1'.out.trans (b2.mono HB1'.out.size))
            obtain ⟨w3, hw3⟩ : ∃ W, w2.alloc (.cells #[.nilFunc, .bool false] TO) = W := ⟨_, rfl⟩
            have HB3 : Hid (Below w.heap.size w w3) := Lib.hid (by rw [← hw3]; exact HB2.out.alloc HB2.out.size _)
            have HW3 := Lib.hid hw3
            clear b2 hw3 x0 x1
            go_wp2
            go_ret3
            exact ⟨_, _, by rw [HR.out]; rfl, by rw [HR.out]; exact FzC.nil _ _ _ _ (by decide), by rw [HR.out]; exact FzC.nil _ _ _ _ (by decide), by rw [HW3.out]; exact HB3.out⟩
          · by_cases hf1 : f = 1
            · subst hf1
              have HOP := Lib.hid (operationOf1_any W1)
              obtain ⟨x0, x1⟩ := HX1.out
              go_wp2_with fail
              rw [HW1.out]
              go_wp2_with fail
              refine HOP.out.mono ?_
              rintro e w2 ⟨rfl, b2⟩
              have HB2 := Lib.hid (HB1'.out.trans (b2.mono HB1'.out.size))
              have HX2 := Lib.hid (cell_laterZ b2 x1)
              have HS2 : Hid (wr.heap.size < w2.heap.size) := Lib.hid (World.block_lt_of_cell? _ _ HX2.out)
              have HL2 := Lib.hid (HL1.out.below b2)
              have HO2 := Lib.hid (HO1.out.below b2)
              obtain ⟨w3, hw3⟩ : ∃ W, w2.alloc (.cells #[fnV 50, .bool false] TO) = W := ⟨_, rfl⟩
              have hb3 : Below w2.heap.size w2 w3 := by rw [← hw3]; exact (Below.refl _ _).alloc (Nat.le_refl _) _
              have HB3 := Lib.hid (HB2.out.trans (hb3.mono HB2.out.size))
              have HX3 := Lib.hid (cell_laterZ hb3 HX2.out)
              have HL3 := Lib.hid (HL2.out.below hb3)
              have HO3 := Lib.hid (HO2.out.below hb3)
              have hy3 : w3.cell? ⟨w2.heap.size, 0, none⟩ = some (fnV 50) ∧ w3.cell? ⟨w2.heap.size, 1, none⟩ = some (.bool false) := by rw [← hw3]; exact box2V w2 _ _ _
              have HY3 := Lib.hid hy3
              have HW3 := Lib.hid hw3
              have hcall := pushOp_any lv L t w3 HL3.out.kz
              clear b2 hb3 hy3 hw3 x0 x1
              by_cases hn : dnE L t = 0
              · have hE : pushE L t = 0 := pushE_iff.2 ⟨HDL.out, hn⟩
                have hQ : pushQ L t = L ++ [t] := if_pos hE
                rw [hE, hQ] at hcall
                have HCA := Lib.hid hcall
                have HNX : Hid (plS l (ops.take (k + 1)) = (L ++ [t], O, 0)) := Lib.hid (by rw [HN.out, opS_push hn])
                clear hcall hE hQ hn
                obtain ⟨y0, y1⟩ := HY3.out
                have x1 := HX2.out
                have hs2 := HS2.out
                go_wp2_with fail
                rw [HW3.out]
                clear hs2
                refine HCA.out.mono ?_
                rintro e w4 ⟨u4, rfl, k4, b4⟩
                have HB4 := Lib.hid (HB3.out.trans (b4.mono HB3.out.size))
                have HK4 : Hid (FzC w.heap.size w4 u4 (L ++ [t])) := Lib.hid (k4.lower HB3.out.size)
                have HO4 := Lib.hid (HO3.out.below b4)
                have y4 := cell_laterZ b4 y1
                clear k4 b4 y0 y1 x1
                go_wp2
                go_roundw
                case rel => exact ⟨k + 1, L ++ [t], O, u4, rv, by omega, by go_num, rfl, rfl, HNX, HK4, HO4, HB4⟩
                case measure => simp [intOf]; omega
              · have hE : pushE L t = dnE L t := if_pos HDL.out
                have hQ : pushQ L t = [] := if_neg (by rw [hE]; exact hn)
                have HR : Hid (plS l ops = ([], [], dnE L t)) := Lib.hid (HST.out _ (by rw [HN.out]; exact opS_no hn) hn)
                rw [hE, hQ] at hcall
                obtain ⟨z, hz⟩ : ∃ z, dnE L t = z := ⟨_, rfl⟩
                rw [hz] at hcall HR hn
                have h0' : (z != 0) = true := by simpa using hn
                have HCA := Lib.hid hcall
                clear hcall hE hQ hn hz
                obtain ⟨y0, y1⟩ := HY3.out
                have x1 := HX2.out
                have hs2 := HS2.out
                go_wp2_with fail
                rw [HW3.out]
                clear hs2
                refine HCA.out.mono ?_
                rintro e w4 ⟨u4, rfl, k4, b4⟩
                have HB4 := Lib.hid (HB3.out.trans (b4.mono HB3.out.size))
                clear k4 b4 y0 y1 x1
                go_wp2
                go_ret3
                exact ⟨_, _, by rw [HR.out]; rfl, by rw [HR.out]; exact FzC.nil _ _ _ _ (by decide), by rw [HR.out]; exact FzC.nil _ _ _ _ (by decide), HB4.out⟩
            · by_cases hf2 : f = 2
              · subst hf2
                have HOP := Lib.hid (operationOf2_any W1)
                obtain ⟨x0, x1⟩ := HX1.out
                go_wp2_with fail
                rw [HW1.out]
                go_wp2_with fail
                refine HOP.out.mono ?_
                rintro e w2 ⟨gb, rfl, cb, b2⟩
                have HB2 := Lib.hid (HB1'.out.trans (b2.mono HB1'.out.size))
                have HX2 := Lib.hid (cell_laterZ b2 x1)
                have HS2 : Hid (wr.heap.size < w2.heap.size) := Lib.hid (World.block_lt_of_cell? _ _ HX2.out)
                have HL2 := Lib.hid (HL1.out.below b2)
                have HO2 := Lib.hid (HO1.out.below b2)
                obtain ⟨w3, hw3⟩ : ∃ W, w2.alloc (.cells #[byV gb, .bool true] TO) = W := ⟨_, rfl⟩
                have hb3 : Below w2.heap.size w2 w3 := by rw [← hw3]; exact (Below.refl _ _).alloc (Nat.le_refl _) _
                have HB3 := Lib.hid (HB2.out.trans (hb3.mono HB2.out.size))
                have HX3 := Lib.hid (cell_laterZ hb3 HX2.out)
                have HL3 := Lib.hid (HL2.out.below hb3)
                have HO3 := Lib.hid (HO2.out.below hb3)
                have hy3 : w3.cell? ⟨w2.heap.size, 0, none⟩ = some (byV gb) ∧ w3.cell? ⟨w2.heap.size, 1, none⟩ = some (.bool true) := by rw [← hw3]; exact box2V w2 _ _ _
                have HY3 := Lib.hid hy3
                have HW3 := Lib.hid hw3
                have hcb := cell_laterZ hb3 cb
                have HCA := Lib.hid (takeOp_any 14 gb lv L (popQ L) (popX L) t w3 (enters_of Try.func14 (by kernel_rfl) rfl) hcb HDL.out (pop_any lv L w3 HL3.out.kz))
                have hop := (opS_pop (L := L) (O := O) (t := t)).resolve_right (fun h => h HDL.out)
                obtain ⟨Q, hQ⟩ : ∃ q, (if L = [] then [] else popQ L) = q := ⟨_, rfl⟩
                obtain ⟨X, hX⟩ : ∃ q, (if L = [] then -1 else popX L) = q := ⟨_, rfl⟩
                rw [hQ, hX] at hop
                rw [hQ, hX] at HCA
                have HNX : Hid (plS l (ops.take (k + 1)) = (Q, O ++ [X], 0)) := Lib.hid (by rw [HN.out, hop])
                clear b2 hb3 hy3 hw3 x0 x1 cb hcb hop hQ hX
                have hen := enters_of Try.func58 (by kernel_rfl) rfl
                obtain ⟨y0, y1⟩ := HY3.out
                have x1 := HX2.out
                have hs2 := HS2.out
                go_wp2_with fail
                rw [HW3.out]
                clear hs2
                refine HCA.out.mono ?_
                rintro e w4 ⟨u4, rfl, k4, b4⟩
                have HB4 := Lib.hid (HB3.out.trans (b4.mono HB3.out.size))
                have HK4 := Lib.hid k4
                have HO4 := Lib.hid (HO3.out.below b4)
                have y4 := cell_laterZ b4 y1
                have hb5 : Below w4.heap.size w4 (w4.alloc (.cells #[.int .i64 X] TZ)) := (Below.refl _ _).alloc (Nat.le_refl _) _
                have HB5 := Lib.hid (HB4.out.trans (hb5.mono HB4.out.size))
                obtain ⟨r6, W6, hr6, ho6, hg6, hb6⟩ := append_oneZ (w4.alloc (.cells #[.int .i64 X] TZ)) w.heap.size rv O X w4.heap.size (HO4.out.below hb5) (World.alloc_heap_new w4 _) (by omega) HB5.out.size
                have HL6 : Hid (FzC w.heap.size W6 u4 Q) := Lib.hid ((FzC.grown (HK4.out.below hb5) hg6 (fun b e => (HO3.out.lt b e).2)).lower HB3.out.size)
                have HO6 := Lib.hid ho6
                have HB6 := Lib.hid (HB5.out.trans hb6)
                clear k4 b4 y0 y1 x1 hb5 ho6 hg6 hb6
                go_wp2_with (at_builtin; refine append_by_run _ rfl _ _ 22 rfl _ _ rfl rfl _ _ hr6 ?_)
                go_roundw
                case rel => exact ⟨k + 1, Q, O ++ [X], u4, r6, by omega, by go_num, rfl, rfl, HNX, HL6, HO6, HB6⟩
                case measure => simp [intOf]; omega
              · have hf3 : f = 3 := by omega
                subst hf3
                have HOP := Lib.hid (operationOf3_any W1)
                obtain ⟨x0, x1⟩ := HX1.out
                go_wp2_with fail
                rw [HW1.out]
                go_wp2_with fail
                refine HOP.out.mono ?_
                rintro e w2 ⟨gb, rfl, cb, b2⟩
                have HB2 := Lib.hid (HB1'.out.trans (b2.mono HB1'.out.size))
                have HX2 := Lib.hid (cell_laterZ b2 x1)
                have HS2 : Hid (wr.heap.size < w2.heap.size) := Lib.hid (World.block_lt_of_cell? _ _ HX2.out)
                have HL2 := Lib.hid (HL1.out.below b2)
                have HO2 := Lib.hid (HO1.out.below b2)
                obtain ⟨w3, hw3⟩ : ∃ W, w2.alloc (.cells #[byV gb, .bool true] TO) = W := ⟨_, rfl⟩
                have hb3 : Below w2.heap.size w2 w3 := by rw [← hw3]; exact (Below.refl _ _).alloc (Nat.le_refl _) _
                have HB3 := Lib.hid (HB2.out.trans (hb3.mono HB2.out.size))
                have HX3 := Lib.hid (cell_laterZ hb3 HX2.out)
                have HL3 := Lib.hid (HL2.out.below hb3)
                have HO3 := Lib.hid (HO2.out.below hb3)
                have hy3 : w3.cell? ⟨w2.heap.size, 0, none⟩ = some (byV gb) ∧ w3.cell? ⟨w2.heap.size, 1, none⟩ = some (.bool true) := by rw [← hw3]; exact box2V w2 _ _ _
                have HY3 := Lib.hid hy3
                have HW3 := Lib.hid hw3
                have hcb := cell_laterZ hb3 cb
                have HCA := Lib.hid (takeOp_any 16 gb lv L (stealQ L) (stealX L) t w3 (enters_of Try.func16 (by kernel_rfl) rfl) hcb HDL.out (steal_any lv L w3 HL3.out.kz))
                have hop := (opS_steal (L := L) (O := O) (t := t)).resolve_right (fun h => h HDL.out)
                obtain ⟨Q, hQ⟩ : ∃ q, (if L = [] then [] else stealQ L) = q := ⟨_, rfl⟩
                obtain ⟨X, hX⟩ : ∃ q, (if L = [] then -1 else stealX L) = q := ⟨_, rfl⟩
                rw [hQ, hX] at hop
                rw [hQ, hX] at HCA
                have HNX : Hid (plS l (ops.take (k + 1)) = (Q, O ++ [X], 0)) := Lib.hid (by rw [HN.out, hop])
                clear b2 hb3 hy3 hw3 x0 x1 cb hcb hop hQ hX
                have hen := enters_of Try.func58 (by kernel_rfl) rfl
                obtain ⟨y0, y1⟩ := HY3.out
                have x1 := HX2.out
                have hs2 := HS2.out
                go_wp2_with fail
                rw [HW3.out]
                clear hs2
                refine HCA.out.mono ?_
                rintro e w4 ⟨u4, rfl, k4, b4⟩
                have HB4 := Lib.hid (HB3.out.trans (b4.mono HB3.out.size))
                have HK4 := Lib.hid k4
                have HO4 := Lib.hid (HO3.out.below b4)
                have y4 := cell_laterZ b4 y1
                have hb5 : Below w4.heap.size w4 (w4.alloc (.cells #[.int .i64 X] TZ)) := (Below.refl _ _).alloc (Nat.le_refl _) _
                have HB5 := Lib.hid (HB4.out.trans (hb5.mono HB4.out.size))
                obtain ⟨r6, W6, hr6, ho6, hg6, hb6⟩ := append_oneZ (w4.alloc (.cells #[.int .i64 X] TZ)) w.heap.size rv O X w4.heap.size (HO4.out.below hb5) (World.alloc_heap_new w4 _) (by omega) HB5.out.size
                have HL6 : Hid (FzC w.heap.size W6 u4 Q) := Lib.hid ((FzC.grown (HK4.out.below hb5) hg6 (fun b e => (HO3.out.lt b e).2)).lower HB3.out.size)
                have HO6 := Lib.hid ho6
                have HB6 := Lib.hid (HB5.out.trans hb6)
                clear k4 b4 y0 y1 x1 hb5 ho6 hg6 hb6
                go_wp2_with (at_builtin; refine append_by_run _ rfl _ _ 22 rfl _ _ rfl rfl _ _ hr6 ?_)
                go_roundw
                case rel => exact ⟨k + 1, Q, O ++ [X], u4, r6, by omega, by go_num, rfl, rfl, HNX, HL6, HO6, HB6⟩
                case measure => simp [intOf]; omega
        · obtain rfl : k = ops.length := by omega
          have HR : Hid (plS l ops = (L, O, 0)) := Lib.hid (by have := HP.out; rwa [List.take_length] at this)
          go_wp2
          go_ret3
          exact ⟨_, _, by rw [HR.out]; rfl, by rw [HR.out]; exact HL.out, by rw [HR.out]; exact HO.out.fz, HB.out⟩
  · rw [playS_bad h]
    obtain ⟨z, hz⟩ : ∃ z, dqE l = z := ⟨_, rfl⟩
    rw [hz] at HC h ⊢
    have h0' : (z != 0) = true := by simpa using h
    have HC := Lib.hid HC
    clear hK hU hz h
    go_enter Try.func23, Try.ntmps23
    go_wp2_with fail
    refine HC.out.mono ?_
    rintro e w1 ⟨rfl, rfl⟩
    go_wp2
    go_ret3
    exact ⟨_, _, rfl, FzC.nil _ _ _ _ (by decide), FzC.nil _ _ _ _ (by decide), Below.refl _ _⟩

end Go.Proofs.Ytmgadcfiaipimaa
