/-
  The statement DigraphSorted: its loops.
-/
import Derived.Test.YtcggmonnajggcaaDigSorted
import Derived.Laws.EntriesVeiled
namespace Go.Proofs.Ytcggmonnajggcaa
open Go.RowKit Go.Shelf

set_option maxRecDepth 100000 in
set_option maxHeartbeats 8000000 in
theorem digraphSorted_walk (haw : ∀ w, Calls Try.prog 12 #[] w fun e w' => e = .returned (.bool true) ∧ Below w.heap.size w w') (n : Int) (ad : Option Addr) (cap : Nat) (es : List (Int × Int)) (w : World) (hE : EdgesA w.heap.size w ad es) (hl : es.length ≤ 9223372036854775807) (hcap : es.length ≤ cap) :
    Calls Try.prog 7 #[.int .i64 n, .slice ad es.length cap] w fun e w' => e = .returned (.bool true) ∧ Below w.heap.size w w' := by
  have HAW := Lib.hid haw
  have hb0 : Below w.heap.size w (w.alloc (.cells #[.slice ad es.length cap] 22)) := (Below.refl _ w).alloc (Nat.le_refl _) _
  have hE0 := (hE.below hb0).mono hb0.size
  have hx0 : (w.alloc (.cells #[.slice ad es.length cap] 22)).cell? ⟨w.heap.size, 0, none⟩ = some (.slice ad es.length cap) := by simp
  have hs0 : (w.alloc (.cells #[.slice ad es.length cap] 22)).heap.size = w.heap.size + 1 := by simp
  have hgr := (great_any n ad cap es (w.alloc (.cells #[.slice ad es.length cap] 22))).mono (fun e w' h => (⟨h.1, h.2⟩ : e = .returned (.bool (greatE n es)) ∧ w' = w.alloc (.cells #[.slice ad es.length cap] 22)))
  obtain ⟨gr, hgr2⟩ : ∃ gr, greatE n es = gr := ⟨_, rfl⟩
  rw [hgr2] at hgr
  have h1 := check_calm _ n ad cap es _ hE0 hl
  obtain ⟨w0, hw0⟩ : ∃ w0, w.alloc (.cells #[.slice ad es.length cap] 22) = w0 := ⟨_, rfl⟩
  rw [hw0] at hb0 hE0 hx0 hs0 hgr h1
  have HGR := Lib.hid hgr
  have HE := Lib.hid hE0
  have HB0 := Lib.hid hb0
  have HX := Lib.hid hx0
  clear haw hE hE0 hgr hgr2 hb0
  have hBl0 : w.heap.size < w0.heap.size := by omega
  cases gr
  · by_cases hc : chkE n es = 0
    · rw [hc] at h1
      have H1 := Lib.hid h1
      have ho := myOrder n ad cap es
      have ho2 := devOrder_any n ad cap es
      obtain ⟨N, rfl, hN, hl2, hok⟩ := chk_ok hc
      have HOK := Lib.hid hok
      cases hof : orderFrom N (gN es) [] with
      | none =>
        have e1 : ordE (N : Int) es = 21 := by unfold ordE; rw [if_pos hc, Int.toNat_natCast, hof]; rfl
        have e3 : ordL (N : Int) es = [] := by unfold ordL; rw [if_pos hc, Int.toNat_natCast, hof]; rfl
        rw [e1, e3] at ho
        have HO := Lib.hid ho
        clear h1 hc ho ho2 hof e1 e3 hok
        go_enter Try.func7, Try.ntmps7
        go_wp2_with fail
        refine HGR.out.mono ?_
        rintro e w1 ⟨rfl, rfl⟩
        go_wp2_with fail
        refine H1.out.mono ?_
        rintro e w1 ⟨rfl, b1, _⟩
        have B1 := Lib.hid b1
        have d1 := (b1.cell (p := ⟨w.heap.size, 0, none⟩) hBl0).trans HX.out
        have H2 := Lib.hid (HO.out w1 ((HE.out.below b1).mono b1.size) hl hcap)
        clear b1
        go_wp2_with fail
        refine H2.out.mono ?_
        rintro e w2 ⟨v2, rfl, ⟨a2, c2, rfl, _, _⟩, b2⟩
        have B2 := Lib.hid (B1.out.trans (b2.mono B1.out.size))
        clear b2
        simp only [intsOf, List.map_nil, List.length_nil]
        go_wp2_with fail
        refine (HAW.out _).mono ?_
        rintro e w9 ⟨rfl, b9⟩
        have B9 := B2.out.trans (b9.mono B2.out.size)
        go_wp2
        go_ret
        exact ⟨rfl, HB0.out.trans (B9.mono HB0.out.size)⟩
      | some l =>
        have e1 : ordE (N : Int) es = 0 := by unfold ordE; rw [if_pos hc, Int.toNat_natCast, hof]; rfl
        have e3 : ordL (N : Int) es = l := by unfold ordL; rw [if_pos hc, Int.toNat_natCast, hof]; rfl
        obtain ⟨hll, _, hat⟩ := order_at (OrdSt.nil N (gN es)) hof
        rw [e1, e3] at ho2
        have HO := Lib.hid ho2
        have HLL := Lib.hid hll
        have HAT := Lib.hid hat
        clear h1 hc ho ho2 hof e1 e3 hok hll hat
        go_enter Try.func7, Try.ntmps7
        go_wp2_with fail
        refine HGR.out.mono ?_
        rintro e w1 ⟨rfl, rfl⟩
        go_wp2_with fail
        refine H1.out.mono ?_
        rintro e w1 ⟨rfl, b1, _⟩
        have B1 := Lib.hid b1
        have d1 := (b1.cell (p := ⟨w.heap.size, 0, none⟩) hBl0).trans HX.out
        have H2 := Lib.hid (HO.out w1 ((HE.out.below b1).mono b1.size) hl hcap)
        clear b1
        go_wp2_with fail
        refine H2.out.mono ?_
        rintro e w2 ⟨v2, rfl, own2, b2⟩
        obtain ⟨a2, c2, rfl, hle2, hc2m⟩ := own_slice own2
        obtain ⟨a2', c2', eq1, i2, _⟩ := own2.known
        injection eq1 with eq1 _ eq3
        subst eq1
        subst eq3
        clear own2
        have b2' := B1.out.trans (b2.mono B1.out.size)
        have B2 := Lib.hid b2'
        have I2 := Lib.hid i2
        have E2 := Lib.hid ((HE.out.below b2').mono b2'.size)
        have d2 := (b2'.cell (p := ⟨w.heap.size, 0, none⟩) hBl0).trans HX.out
        have hBl2 : w.heap.size < w2.heap.size := by have := b2'.size; omega
        have D2 := Lib.hid d2
        clear b2 b2' i2 d1 d2
        rw [HLL.out] at hle2 ⊢
        have q1 : (((N : Nat) : Int) != (N : Int)) = false := by simp
        go_wp2_with fail
        go_loopw [46] (fun i wr => ∃ k : Nat, k ≤ N ∧ i = .int .i64 k ∧ Hid (Below w2.heap.size w2 wr)) (fun i _ => N - (intOf i).toNat)
        case atStart => exact ⟨0, Nat.zero_le _, rfl, Lib.hid (Below.refl _ _)⟩
        case round =>
          obtain ⟨k, hk, rfl, hb⟩ := hrel
          by_cases hlt : k < N
          · obtain ⟨x, hx, hnx, hos⟩ := HAT.out k (Nat.zero_le _) hlt
            obtain ⟨hxN, hfx, hfl⟩ := nextF_spec hnx
            have hkl : k < (intsOf l).length := by rw [intsOf_length, HLL.out]; exact hlt
            have hbs := hb.out.size
            have Ir := (I2.out.below hb.out).mono hbs
            obtain ⟨bo, off, rfl, hbo, hcc⟩ := Ir.some_ (by omega)
            have p1 := hcc k hkl
            have ex : (intsOf l)[k]?.getD 0 = (x : Int) := by simp [intsOf, hx]
            rw [ex] at p1
            have hlk : (intsOf (l.take k)).length = k := by rw [intsOf_length, List.length_take, HLL.out]; omega
            have b3 : Below wr.heap.size wr (wr.alloc (.cells #[.slice (some ⟨bo, off, none⟩) k c2] 28)) := (Below.refl _ wr).alloc (Nat.le_refl _) _
            have p2 := (b3.cell (p := ⟨w.heap.size, 0, none⟩) (by omega : w.heap.size < wr.heap.size)).trans ((hb.out.cell (p := ⟨w.heap.size, 0, none⟩) hBl2).trans D2.out)
            have p3 : (wr.alloc (.cells #[.slice (some ⟨bo, off, none⟩) k c2] 28)).cell? ⟨wr.heap.size, 0, none⟩ = some (.slice (some ⟨bo, off, none⟩) k c2) := by simp
            have sz3 : (wr.alloc (.cells #[.slice (some ⟨bo, off, none⟩) k c2] 28)).heap.size = wr.heap.size + 1 := by simp
            have I3 : IntsA wr.heap.size (wr.alloc (.cells #[.slice (some ⟨bo, off, none⟩) k c2] 28)) (some ⟨bo, off, none⟩) (intsOf (l.take k)) := by
              have := (Ir.below b3).take k
              rw [show (intsOf l).take k = intsOf (l.take k) by unfold intsOf; rw [List.map_take]] at this
              exact this
            have E3 := ((E2.out.below hb.out).mono hbs).below b3
            have HF : Hid (∀ (y : Nat) (W : World), Below (wr.heap.size + 1) (wr.alloc (.cells #[.slice (some ⟨bo, off, none⟩) k c2] 28)) W → Calls Try.prog 34 #[.int .i64 (y : Int), .pointer (some ⟨wr.heap.size, 0, none⟩), .pointer (some ⟨w.heap.size, 0, none⟩)] W fun e w' => e = .returned (.bool (freeB (gN es) (l.take k) y)) ∧ Below W.heap.size W w') := Lib.hid (fun y W hW => by
              have hz := hW.size
              have h := free_any wr.heap.size w.heap.size wr.heap.size (some ⟨bo, off, none⟩) c2 (intsOf (l.take k)) (y : Int) ad cap es W (I3.below (hW.mono (by omega))) (E3.below (hW.mono (by omega))) (by omega) (by omega) hl ((hW.cell (p := ⟨w.heap.size, 0, none⟩) (by omega : w.heap.size < wr.heap.size + 1)).trans p2) (by omega) (by rw [hlk]; exact (hW.cell (p := ⟨wr.heap.size, 0, none⟩) (by omega : wr.heap.size < wr.heap.size + 1)).trans p3) (by omega)
              rw [free_eq HOK.out] at h
              exact h)
            have HFX := Lib.hid hfx
            have HFL := Lib.hid hfl
            have k1 : (k : Int) < (N : Int) := by omega
            have k2 : k ≤ c2 := by omega
            have m1 : decide ((x : Int) < 0) = false := by rw [decide_eq_false_iff_not]; omega
            have m2 : decide ((N : Int) ≤ (x : Int)) = false := by rw [decide_eq_false_iff_not]; omega
            have m3 : decide (N ≤ x) = false := by rw [decide_eq_false_iff_not]; omega
            have B3 := Lib.hid (hb.out.trans (b3.mono hbs))
            clear hcc hx hnx hos hfx hfl hkl ex hlk I3 E3 Ir p2 p3 b3
            go_wp2_with fail
            obtain ⟨w3, hw3⟩ : ∃ w3, wr.alloc (.cells #[.slice (some ⟨bo, off, none⟩) k c2] 28) = w3 := ⟨_, rfl⟩
            rw [hw3] at HF B3 sz3 ⊢
            obtain ⟨G, hG⟩ : ∃ G, wr.heap.size = G := ⟨_, rfl⟩
            rw [hG] at HF sz3 hbs ⊢
            have H4 := HF.out x w3 (Below.refl _ _)
            rw [HFX.out] at H4
            clear hw3 hG
            refine H4.mono ?_
            rintro e w4 ⟨rfl, b4⟩
            have B4 : Hid (Below (G + 1) w3 w4) := Lib.hid (b4.mono (by omega))
            clear b4 H4
            have k3 : (x : Int) ≤ 200 := by omega
            go_wp2_with fail
            go_loopw [69] (fun i wx => ∃ j : Nat, j ≤ x ∧ i = .int .i64 j ∧ Hid (Below (G + 1) w3 wx)) (fun i _ => x - (intOf i).toNat)
            case atStart => exact ⟨0, Nat.zero_le _, rfl, B4⟩
            case round =>
              obtain ⟨j, hj, rfl, hbj⟩ := hrel
              by_cases hjx : j < x
              · have H5 := HF.out j _ hbj.out
                rw [HFL.out j hjx] at H5
                have H5 := Lib.hid H5
                have k4 : (j : Int) < (x : Int) := by omega
                go_wp2_with fail
                refine H5.out.mono ?_
                rintro e w5 ⟨rfl, b5⟩
                have B5 := hbj.out.trans (b5.mono (by have := hbj.out.size; omega))
                go_wp2
                go_roundw
                case rel => exact ⟨j + 1, by omega, by go_num, Lib.hid B5⟩
                case measure => simp only [intOf]; omega
              · have B6 := B3.out.trans (hbj.out.mono (by omega))
                go_wp2
                refine ⟨⟨k + 1, by omega, by go_num, Lib.hid B6⟩, ?_⟩
                simp only [intOf]
                omega
          · go_wp2_with fail
            refine (HAW.out _).mono ?_
            rintro e w9 ⟨rfl, b9⟩
            have B9 := (B2.out.trans (hb.out.mono B2.out.size)).trans (b9.mono (by have := B2.out.size; have := hb.out.size; omega))
            go_wp2
            go_ret
            exact ⟨rfl, HB0.out.trans (B9.mono HB0.out.size)⟩
    · obtain ⟨c, hc2⟩ : ∃ c, chkE n es = c := ⟨_, rfl⟩
      rw [hc2] at h1 hc
      have q1 : (c != 0) = true := by rw [bne_iff_ne]; exact hc
      have H1 := Lib.hid h1
      clear h1 hc hc2
      go_enter Try.func7, Try.ntmps7
      go_wp2_with fail
      refine HGR.out.mono ?_
      rintro e w1 ⟨rfl, rfl⟩
      go_wp2_with fail
      refine H1.out.mono ?_
      rintro e w1 ⟨rfl, b1, _⟩
      go_wp2_with fail
      refine (HAW.out _).mono ?_
      rintro e w9 ⟨rfl, b9⟩
      have B9 := b1.trans (b9.mono b1.size)
      go_wp2
      go_ret
      exact ⟨rfl, HB0.out.trans (B9.mono HB0.out.size)⟩
  · go_enter Try.func7, Try.ntmps7
    go_wp2_with fail
    refine HGR.out.mono ?_
    rintro e w1 ⟨rfl, rfl⟩
    go_wp2_with fail
    refine (HAW.out _).mono ?_
    rintro e w9 ⟨rfl, b9⟩
    go_wp2
    go_ret
    exact ⟨rfl, HB0.out.trans (b9.mono HB0.out.size)⟩

end Go.Proofs.Ytcggmonnajggcaa
