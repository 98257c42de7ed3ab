/-
  The statement DigraphCycles, walked by the contracts of digraph's functions.
-/
import Derived.Test.YtcggmonnajggcaaDigMine
import Derived.Test.YtcggmonnajggcaaDigSorted
import Derived.Test.YtcggmonnajggcaaCycFacts
namespace Go.Proofs.Ytcggmonnajggcaa
open Go.RowKit Go.Shelf

/-- slices.Contains of edges that are some. -/
theorem hasEdge_any (n₀ : Nat) (ad : Option Addr) (cap : Nat) (es : List (Int × Int)) (u v : Int) (w : World) (hE : EdgesA n₀ w ad es) (h0 : 0 < es.length) (hl : es.length ≤ 9223372036854775807) :
    Calls Try.prog 37 #[.slice ad es.length cap, .agg #[.int .i64 u, .int .i64 v]] w fun e w' => e = .returned (.bool (es.any fun y => sameB (u, v) y)) ∧ Below w.heap.size w w' := by
  obtain ⟨b1, o1, rfl, hbb, c1⟩ := hE.some_ h0
  have h := AnyQ.slices_Contains Try.hasEdge 2 Try.isAgg40 Try.sizeOf40 encE (fun _ => rfl) sameB eqE b1 o1 es.length cap es (u, v) w (Nat.le_refl _) hl (enc_cells c1)
  rw [List.take_length] at h
  exact h
theorem any_edge {N : Nat} {es : List (Int × Int)} (hok : OkE N es) {x y : Nat} (h : (x, y) ∈ gN es) : (es.any fun z => sameB ((x : Int), (y : Int)) z) = true := by
  unfold gN at h
  obtain ⟨e, he, h⟩ := List.mem_map.1 h
  rw [List.any_eq_true]
  refine ⟨e, he, ?_⟩
  have := hok e he
  rw [sameB_eq, decide_eq_true_iff]
  obtain ⟨a, b⟩ := e
  injection h with h1 h2
  dsimp only at this h1 h2
  exact Prod.ext (by dsimp only; omega) (by dsimp only; omega)

set_option maxRecDepth 100000 in
set_option maxHeartbeats 8000000 in
theorem digraphCycles_walk (haw : ∀ w, Calls Try.prog 12 #[] w fun e w' => e = .returned (.bool true) ∧ Below w.heap.size w w') (n : Int) (ad : Option Addr) (cap : Nat) (es : List (Int × Int)) (w : World) (hE : EdgesA w.heap.size w ad es) (hl : es.length ≤ 9223372036854775807) (hcap : es.length ≤ cap) :
    Calls Try.prog 8 #[.int .i64 n, .slice ad es.length cap] w fun e w' => e = .returned (.bool true) ∧ Below w.heap.size w w' := by
  obtain ⟨i1, ji, jz0, jz1, jz2⟩ := info_parts infoI
  have HAW := Lib.hid haw
  have HE := Lib.hid hE
  have hgr := (great_any n ad cap es w).mono (fun e w' h => (⟨h.1, h.2.symm⟩ : e = .returned (.bool (greatE n es)) ∧ w = w'))
  obtain ⟨gr, hgr2⟩ : ∃ gr, greatE n es = gr := ⟨_, rfl⟩
  rw [hgr2] at hgr
  have HGR := Lib.hid hgr
  clear haw hE hgr hgr2
  cases gr
  · have h1 := check_calm w.heap.size n ad cap es w HE.out hl
    by_cases hc : chkE n es = 0
    · rw [hc] at h1
      have H1 := Lib.hid h1
      have hcy := devCycle_any n ad cap es
      have hor := myOrder n ad cap es
      obtain ⟨N, rfl, hN, hl2, hok⟩ := chk_ok hc
      have HG := Lib.hid (gN_lt hok)
      have HOK := Lib.hid hok
      obtain ⟨R, hR, hcase⟩ := cyc_facts hc HG.out
      rw [(cycDL_eq _ _).1, (cycDL_eq _ _).2, hR] at hcy
      obtain ⟨OL, hOL⟩ : ∃ OL, ordL (N : Int) es = OL := ⟨_, rfl⟩
      rw [hOL] at hor
      rcases hcase with ⟨rfl, e1, e2⟩ | ⟨ok, e1, e2⟩
      · rw [e1] at hcy
        rw [e2] at hor
        have HCY := Lib.hid hcy
        have HOR := Lib.hid hor
        clear h1 hc hok hcy hor hR hOL e1 e2
        go_enter Try.func8, Try.ntmps8
        go_wp2_with fail
        refine HGR.out.mono ?_
        rintro e w0 ⟨rfl, rfl⟩
        go_wp2_with fail
        refine H1.out.mono ?_
        rintro e w1 ⟨rfl, b1, _⟩
        have B1 := Lib.hid b1
        have H2 := Lib.hid (HCY.out w1 ((HE.out.below b1).mono b1.size) hl hcap)
        clear b1
        go_wp2_with fail
        refine H2.out.mono ?_
        rintro e w2 ⟨v2, rfl, o2, b2⟩
        have B2 := Lib.hid (B1.out.trans (b2.mono B1.out.size))
        obtain ⟨a2, c2, rfl, _, _⟩ := own_slice o2
        have H3 := Lib.hid (HOR.out w2 ((HE.out.below B2.out).mono B2.out.size) hl hcap)
        clear b2 o2
        go_wp2_with fail
        refine H3.out.mono ?_
        rintro e w3 ⟨v3, rfl, _, b3⟩
        have B3 := Lib.hid (B2.out.trans (b3.mono B2.out.size))
        clear b3
        go_wp2_with fail
        refine (HAW.out _).mono ?_
        rintro e w9 ⟨rfl, b9⟩
        go_wp2
        go_ret
        exact ⟨rfl, B3.out.trans (b9.mono B3.out.size)⟩
      · rw [e1] at hcy
        rw [e2] at hor
        have HCY := Lib.hid hcy
        have HOR := Lib.hid hor
        have HCK := Lib.hid ok
        have hR0 := ok.pos
        have hRN := ok.len
        clear h1 hc hok hcy hor hR hOL e1 e2 ok
        go_enter Try.func8, Try.ntmps8
        go_wp2_with fail
        refine HGR.out.mono ?_
        rintro e w0 ⟨rfl, rfl⟩
        go_wp2_with fail
        refine H1.out.mono ?_
        rintro e w1 ⟨rfl, b1, _⟩
        have B1 := Lib.hid b1
        have H2 := Lib.hid (HCY.out w1 ((HE.out.below b1).mono b1.size) hl hcap)
        clear b1
        go_wp2_with fail
        refine H2.out.mono ?_
        rintro e w2 ⟨v2, rfl, o2, b2⟩
        have B2 := Lib.hid (B1.out.trans (b2.mono B1.out.size))
        obtain ⟨a2, c2, rfl, hc2, _⟩ := own_slice o2
        have H3 := Lib.hid (HOR.out w2 ((HE.out.below B2.out).mono B2.out.size) hl hcap)
        obtain ⟨_, _, ev, i2, l2⟩ := o2.known
        injection ev with ev1 ev2 ev3
        subst ev1
        subst ev3
        obtain ⟨bR, oR, ea, hbR, hcR⟩ := i2.some_ (by rw [intsOf_length]; exact hR0)
        subst ea
        have I2 := Lib.hid i2
        have E2 := Lib.hid ((HE.out.below B2.out).mono B2.out.size)
        clear b2 o2 i2 l2 hcR ev2
        go_wp2_with fail
        refine H3.out.mono ?_
        rintro e w3 ⟨v3, rfl, _, b3⟩
        have I3 := Lib.hid ((I2.out.below b3).mono b3.size)
        have E3 := Lib.hid ((E2.out.below b3).mono b3.size)
        have B3 := Lib.hid (B2.out.trans (b3.mono B2.out.size))
        have hbR3 : bR < w3.heap.size := by have := b3.size; omega
        clear b3 I2 E2 H3 H2
        go_wp2_with fail
        go_loopw [56] (fun i wr => ∃ q : Nat, q ≤ R.length ∧ i = .int .i64 q ∧ Hid (Below w3.heap.size w3 wr)) (fun i _ => R.length - (intOf i).toNat)
        case atStart => exact ⟨0, Nat.zero_le _, rfl, Lib.hid (Below.refl _ _)⟩
        case round =>
          obtain ⟨q, hq, rfl, hb⟩ := hrel
          by_cases hlq : q < R.length
          · obtain ⟨x, y, z, hx, hy, he, hz, hzx, hnm⟩ := HCK.out.at_ q hlq
            have hsb := hb.out.size
            have hj : (q + 1) % R.length < R.length := Nat.mod_lt _ hR0
            have cellR : ∀ (W : World), Below w3.heap.size w3 W → ∀ (k t : Nat), R[k]? = some t → W.cell? ⟨bR, oR + k, none⟩ = some (.int .i64 (t : Int)) := by
              intro W hW k t hk
              have hkl : k < R.length := (List.getElem?_eq_some_iff.1 hk).1
              obtain ⟨b', o', e', _, hc'⟩ := I3.out k (by rw [intsOf_length]; exact hkl)
              cases e'
              refine (hW.cell (p := ⟨bR, oR + k, none⟩) hbR3).trans (hc'.trans ?_)
              unfold intsOf
              rw [List.getElem?_map, hk]
              rfl
            have hE0 : 0 < es.length := by
              rw [← gN_length]
              exact List.length_pos_of_mem he
            have HD := hasEdge_any wr.heap.size ad cap es (x : Int) (y : Int) wr ((E3.out.below hb.out).mono hsb) hE0 hl
            rw [any_edge HOK.out he] at HD
            have HD := Lib.hid HD
            have CR := Lib.hid cellR
            have p1 := cellR wr hb.out q x hx
            have p2 := cellR wr hb.out _ y hy
            obtain ⟨j, hjj⟩ : ∃ j, (q + 1) % R.length = j := ⟨_, rfl⟩
            rw [hjj] at p2 hj
            have m1b : ((q : Int) + 1) % (R.length : Int) = (j : Int) := by
              rw [← hjj, Int.natCast_emod]
              rfl
            have m1 : ((q : Int) + 1).tmod (R.length : Int) = (j : Int) := by
              rw [Int.tmod_eq_emod_of_nonneg (by omega), m1b]
            have hLne : ((R.length : Int) = 0) = False := eq_false (by omega)
            have hq1 : (R.take q).contains x = false := by
              cases hh : (R.take q).contains x with
              | false => rfl
              | true => exact absurd (List.contains_iff_mem.1 hh) hnm
            have ht : intsOf (R.take q) = (intsOf R).take q := by unfold intsOf; rw [List.map_take]
            have htl : ((intsOf R).take q).length = q := by rw [List.length_take, intsOf_length]; omega
            have HZ := Lib.hid hz
            have HNM : Hid (((intsOf R).take q).contains (x : Int) = false) := Lib.hid (by rw [← ht, contains_intsOf]; exact hq1)
            have m2 : decide ((x : Int) < (z : Int)) = false := by rw [decide_eq_false_iff_not]; omega
            have m3 : decide (x < z) = false := by rw [decide_eq_false_iff_not]; omega
            have hqc : q ≤ c2 := by omega
            clear hx hy he hz hzx hnm hjj hq1 ht cellR hE0
            go_wp2_with fail
            refine HD.out.mono ?_
            rintro e w5 ⟨rfl, b5⟩
            have B5 := Lib.hid (hb.out.trans (b5.mono hsb))
            have IT := hasInt_any w5.heap.size (some ⟨bR, oR, none⟩) c2 ((intsOf R).take q) (x : Int) w5 (((I3.out.take q).below B5.out).mono B5.out.size) (by rw [htl]; omega)
            rw [HNM.out, htl] at IT
            have H6 := Lib.hid IT
            clear b5 IT
            have p3 := CR.out w5 B5.out 0 z HZ.out
            rw [Nat.add_zero] at p3
            go_wp2_with fail
            refine H6.out.mono ?_
            rintro e w6 ⟨rfl, hw6⟩
            rw [hw6]
            clear hw6
            go_wp2
            refine ⟨⟨q + 1, by omega, by go_num, B5⟩, ?_⟩
            simp only [intOf]
            omega
          · go_wp2_with fail
            clear hlq hq
            go_loopw [90] (fun i wx => ∃ k : Nat, k ≤ N ∧ i = .int .i64 k ∧ Hid (Below w3.heap.size w3 wx)) (fun i _ => N - (intOf i).toNat)
            case atStart => exact ⟨0, Nat.zero_le _, rfl, hb⟩
            case round =>
              obtain ⟨k, hk, rfl, hb⟩ := hrel
              by_cases hkN : k < N
              · have k1 : (k : Int) < (N : Int) := by omega
                have b7 : Below w3.heap.size w3 (wr.alloc (.cells #[.int .i64 (k : Int)] 3)) := hb.out.alloc hb.out.size _
                have I7 : Hid (Ints (wr.alloc (.cells #[.int .i64 (k : Int)] 3)) (.slice (some ⟨wr.heap.size, 0, none⟩) 1 1) [k]) := Lib.hid (OwnN.known (B := wr.heap.size) (World.ownsRow_lit wr #[.int .i64 (k : Int)] 1 (Nat.le_refl _) (by decide) rfl))
                have B7 := Lib.hid b7
                have S7 := Lib.hid (Stp.start (gN es) hkN)
                clear b7
                go_wp2_with fail
                go_loopw [12, 98] (fun v i wy => ∃ (r : Nat) (F : List Nat), r + 1 ≤ R.length ∧ i = .int .i64 r ∧ Hid (Ints wy v F) ∧ Hid (Stp N (gN es) k r F) ∧ Hid (Below w3.heap.size w3 wy)) (fun _ i _ => R.length - (intOf i).toNat)
                case atStart => exact ⟨0, [k], by omega, rfl, I7, S7, B7⟩
                case round =>
                  obtain ⟨r, F, hr, rfl, HI, HS, hbx⟩ := hrel
                  by_cases hlr : r + 1 < R.length
                  · have r1 : (r : Int) < (R.length : Int) - 1 := by omega
                    obtain ⟨aF, cF, hv, iF, lF⟩ := HI.out
                    subst hv
                    have IF := Lib.hid iF
                    have O0 := Lib.hid (OwnN.nil wr.heap.size wr)
                    have N0 := Lib.hid (Nxt.start N (gN es) k r)
                    have B0 := Lib.hid (Below.refl wr.heap.size wr)
                    have EW := Lib.hid ((E3.out.below hbx.out).mono hbx.out.size)
                    obtain ⟨lenF, hlenF⟩ : ∃ m, (intsOf F).length = m := ⟨_, rfl⟩
                    have HLF := Lib.hid hlenF
                    rw [hlenF] at lF ⊢
                    clear hlenF HI iF
                    obtain ⟨wa, rfl⟩ : ∃ x, x = wr := ⟨_, rfl⟩
                    go_wp2_with fail
                    go_loopw [13, 102] (fun v i wz => ∃ (q : Nat) (X : List Nat), q ≤ es.length ∧ i = .int .i64 q ∧ Hid (OwnN wa.heap.size X v wz) ∧ Hid (Nxt N (gN es) k r q X) ∧ Hid (Below wa.heap.size wa wz)) (fun _ i _ => es.length - (intOf i).toNat)
                    case atStart => exact ⟨0, [], Nat.zero_le _, rfl, O0, N0, B0⟩
                    case round =>
                      obtain ⟨q, X, hq, rfl, HO, HX, hbz⟩ := hrel
                      by_cases hlq : q < es.length
                      · obtain ⟨bl, off, rfl, hbb, hcc⟩ := EW.out.some_ (by omega)
                        obtain ⟨d1, d2⟩ := hcc q hlq
                        obtain ⟨a, b, hev, haN, hbN, hge⟩ := HOK.out.at_ hlq
                        rw [hev] at d1 d2
                        have p1 := (hbz.out.cell (p := ⟨bl, off + q * 2, none⟩) hbb).trans d1
                        have p2 := (hbz.out.cell (p := ⟨bl, off + q * 2 + 1, none⟩) hbb).trans d2
                        simp only [] at p1 p2
                        have hbs := hbz.out.size
                        have hbb2 : bl < wr.heap.size := by omega
                        have b0 : Below wr.heap.size wr (wr.alloc (.cells #[.int .i64 (a : Int), .int .i64 (b : Int)] 40)) := (Below.refl _ wr).alloc (Nat.le_refl _) _
                        have HOb0 : (wr.alloc (.cells #[.int .i64 (a : Int), .int .i64 (b : Int)] 40)).ownsRow wa.heap.size TI 1 u13 X.length (natV X) := World.ownsRow.alloc HO.out _
                        obtain ⟨wb, hwb⟩ : ∃ wb, wr.alloc (.cells #[.int .i64 (a : Int), .int .i64 (b : Int)] 40) = wb := ⟨_, rfl⟩
                        have c0 : wb.cell? ⟨wr.heap.size, 0, none⟩ = some (.int .i64 (a : Int)) := by rw [← hwb]; simp
                        have c1 : wb.cell? ⟨wr.heap.size, 1, none⟩ = some (.int .i64 (b : Int)) := by rw [← hwb]; simp
                        rw [hwb] at b0 HOb0
                        have HOb := Lib.hid HOb0
                        have HOn : Hid (OwnN wa.heap.size X u13 wb) := Lib.hid HOb0
                        obtain ⟨ao', co', hv', hi, hlF⟩ := HO.out.known
                        have IB := hi.below b0
                        have bz := hbz.out.trans (b0.mono hbs)
                        have hsb : wa.heap.size ≤ wb.heap.size := by have := b0.size; omega
                        have HA := hasInt_any wb.heap.size aF cF (intsOf F) (a : Int) wb ((IF.out.below bz).mono hsb) (by rw [HLF.out]; exact lF)
                        have HB := hasInt_any wr.heap.size ao' co' (intsOf X) (b : Int) wb IB hlF
                        rw [← hv'] at HB
                        rw [HLF.out] at HA
                        have BB := Lib.hid bz
                        have hXN : X.length ≤ 200 := by
                          have := HX.out.len
                          omega
                        rw [contains_intsOf] at HA HB
                        obtain ⟨ra, hra⟩ : ∃ r, F.contains a = r := ⟨_, rfl⟩
                        obtain ⟨rb, hrb⟩ : ∃ r, X.contains b = r := ⟨_, rfl⟩
                        rw [hra] at HA
                        rw [hrb] at HB
                        have HA := Lib.hid HA
                        have HB := Lib.hid HB
                        cases ra
                        · have HF2 := Lib.hid (HX.out.skip hge (fun h => by
                            have h2 := (HS.out.iff a).2 h
                            rw [← List.contains_iff_mem, hra] at h2
                            cases h2))
                          clear hra hrb b0 IB hcc d1 d2 hev hge HB hv' hi HOb0 bz
                          go_wp2_with fail
                          refine HA.out.mono ?_
                          rintro e w8 ⟨rfl, hw8⟩
                          rw [hw8]
                          go_wp2
                          refine ⟨⟨q + 1, X, by omega, by go_num, HOn, HF2, BB⟩, ?_⟩
                          simp only [intOf]
                          omega
                        · cases rb
                          · have HF2 := Lib.hid (HX.out.push hge ((HS.out.iff a).1 (by rw [← List.contains_iff_mem]; exact hra)) (fun h => by
                              rw [← List.contains_iff_mem, hrb] at h
                              cases h) hbN)
                            clear hra hrb b0 IB hcc d1 d2 hev hge hv' hi HOb0 bz
                            go_wp2_with fail
                            refine HA.out.mono ?_
                            rintro e w8 ⟨rfl, hw8⟩
                            rw [hw8]
                            go_wp2_with fail
                            refine HB.out.mono ?_
                            rintro e w9 ⟨rfl, hw9⟩
                            rw [hw9]
                            clear hw8 hw9
                            go_wp2_with (at_builtin; refine wpList_append_own _ rfl _ _ 28 rfl wa.heap.size TI i1 (.int .i64 0) 1 8 Try.underlying28 ji jz0 jz1 jz2 rfl (by decide) _ _ _ rfl (HOb.out.alloc _) ⟨wb.heap.size, 0, none⟩ 1 1 [.int .i64 (b : Int)] rfl rfl (newCell _ _ TI) (one_one _) (by unfold maxLen; omega) (by omega) (by simp; omega) ?_)
                            intro v' w10 hown' hgrow hnil
                            have HO3 : Hid (OwnN wa.heap.size (X ++ [b]) v' w10) := Lib.hid (by unfold OwnN; simpa [natV] using hown')
                            have HB3 : Hid (Below wa.heap.size wa w10) := Lib.hid ((BB.out.alloc hsb _).grown hgrow (by simp; omega) (fun i hi => (HOb.out.lt i hi).1))
                            clear hown' hgrow hnil
                            go_wp2
                            refine ⟨⟨q + 1, X ++ [b], by omega, by go_num, HO3, HF2, HB3⟩, ?_⟩
                            simp only [intOf]
                            omega
                          · have HF2 := Lib.hid (HX.out.skip hge (fun _ => by rw [← List.contains_iff_mem]; exact hrb))
                            clear hra hrb b0 IB hcc d1 d2 hev hge hv' hi HOb0 bz
                            go_wp2_with fail
                            refine HA.out.mono ?_
                            rintro e w8 ⟨rfl, hw8⟩
                            rw [hw8]
                            go_wp2_with fail
                            refine HB.out.mono ?_
                            rintro e w9 ⟨rfl, hw9⟩
                            rw [hw9]
                            go_wp2
                            refine ⟨⟨q + 1, X, by omega, by go_num, HOn, HF2, BB⟩, ?_⟩
                            simp only [intOf]
                            omega
                      · obtain rfl : q = es.length := by omega
                        have hx := HX.out
                        rw [← gN_length] at hx
                        have hs := hx.done
                        have hnk : X.contains k = false := by
                          cases h : X.contains k with
                          | false => rfl
                          | true => exact absurd ((hs.iff k).1 (List.contains_iff_mem.1 h)) (HCK.out.few k r hkN hlr)
                        have HS2 := Lib.hid hs
                        obtain ⟨aX, cX, hvX, iX, lX⟩ := HO.out.known
                        have HIX : Hid (Ints wr u13 X) := Lib.hid HO.out.known
                        have HK := hasInt_any wr.heap.size aX cX (intsOf X) (k : Int) wr iX lX
                        rw [contains_intsOf, hnk, ← hvX] at HK
                        have HK := Lib.hid HK
                        have HBW := Lib.hid (hbx.out.trans (hbz.out.mono hbx.out.size))
                        clear hx hs hnk hvX iX lX
                        go_wp2_with fail
                        refine HK.out.mono ?_
                        rintro e w8 ⟨rfl, hw8⟩
                        rw [hw8]
                        clear hw8
                        go_wp2
                        refine ⟨⟨r + 1, X, by omega, by go_num, HIX, HS2, HBW⟩, ?_⟩
                        simp only [intOf]
                        omega
                  · have r1 : ¬ (r : Int) < (R.length : Int) - 1 := by omega
                    go_wp2
                    refine ⟨⟨k + 1, by omega, by go_num, hbx⟩, ?_⟩
                    simp only [intOf]
                    omega
              · have m5 : decide ((0 : Int) < (R.length : Int)) = true := by rw [decide_eq_true_iff]; omega
                have m6 : decide (0 < R.length) = true := by rw [decide_eq_true_iff]; omega
                have HBF := Lib.hid (B3.out.trans (hb.out.mono B3.out.size))
                go_wp2_with fail
                refine (HAW.out _).mono ?_
                rintro e w9 ⟨rfl, b9⟩
                go_wp2
                go_ret
                exact ⟨rfl, HBF.out.trans (b9.mono HBF.out.size)⟩
    · obtain ⟨c, hc2⟩ : ∃ c, chkE n es = c := ⟨_, rfl⟩
      rw [hc2] at h1 hc
      have q1 : (c != 0) = true := by rw [bne_iff_ne]; exact hc
      have H1 := Lib.hid h1
      clear h1 hc hc2
      go_enter Try.func8, Try.ntmps8
      go_wp2_with fail
      refine HGR.out.mono ?_
      rintro e w0 ⟨rfl, rfl⟩
      go_wp2_with fail
      refine H1.out.mono ?_
      rintro e w1 ⟨rfl, b1, _⟩
      go_wp2_with fail
      refine (HAW.out _).mono ?_
      rintro e w9 ⟨rfl, b9⟩
      go_wp2
      go_ret
      exact ⟨rfl, b1.trans (b9.mono b1.size)⟩
  · go_enter Try.func8, Try.ntmps8
    go_wp2_with fail
    refine HGR.out.mono ?_
    rintro e w0 ⟨rfl, rfl⟩
    go_wp2_with fail
    refine (HAW.out _).mono ?_
    rintro e w9 ⟨rfl, b9⟩
    go_wp2
    go_ret
    exact ⟨rfl, b9⟩

end Go.Proofs.Ytcggmonnajggcaa
