/-
  The statement DigraphReachable, walked by the contracts of digraph's functions.
-/
import Derived.Test.YtcggmonnajggcaaDigUniq
import Derived.Test.YtcggmonnajggcaaFound
namespace Go.Proofs.Ytcggmonnajggcaa
open Go.RowKit

theorem below_drewN1 {n₀ k : Nat} {a b : World} (h : Below n₀ a b) : Below n₀ a (b.drewN k) := below_drewN' h
set_option maxRecDepth 100000 in
set_option maxHeartbeats 8000000 in
theorem digraphReachable_walk (haw : ∀ w, Calls Try.prog 12 #[] w fun e w' => e = .returned (.bool true) ∧ Below w.heap.size w w') (n s : Int) (ad : Option Addr) (cap : Nat) (es : List (Int × Int)) (w : World) (hE : EdgesA w.heap.size w ad es) (hl : es.length ≤ 9223372036854775807) (hcap : es.length ≤ cap) :
    Calls Try.prog 5 #[.int .i64 n, .slice ad es.length cap, .int .i64 s] w fun e w' => e = .returned (.bool true) ∧ Below w.heap.size w w' := by
  obtain ⟨i1, ji, jz0, jz1, jz2⟩ := info_parts infoI
  have HAW := Lib.hid haw
  have HE := Lib.hid hE
  have hgr := (great_any n ad cap es w).mono (fun e w' h => (⟨h.1, h.2.symm⟩ : e = .returned (.bool (greatE n es)) ∧ w = w'))
  obtain ⟨gr, hgr2⟩ : ∃ gr, greatE n es = gr := ⟨_, rfl⟩
  rw [hgr2] at hgr
  have HGR := Lib.hid hgr
  clear haw hE hgr hgr2
  cases gr
  · have h1 := check_calm w.heap.size n ad cap es w HE.out hl
    by_cases hc : chkE n es = 0
    · rw [hc] at h1
      have H1 := Lib.hid h1
      have hr := myReach n s ad cap es
      obtain ⟨N, rfl, hN, hl2, hok⟩ := chk_ok hc
      have HG := Lib.hid (gN_lt hok)
      have HOK := Lib.hid hok
      by_cases hs0 : s < 0
      · clear h1 hc hr hok
        have m1 : decide (s < 0) = true := by rw [decide_eq_true_iff]; exact hs0
        go_enter Try.func5, Try.ntmps5
        go_wp2_with fail
        refine HGR.out.mono ?_
        rintro e w0 ⟨rfl, rfl⟩
        go_wp2_with fail
        refine H1.out.mono ?_
        rintro e w1 ⟨rfl, b1, _⟩
        go_wp2_with fail
        refine (HAW.out _).mono ?_
        rintro e w9 ⟨rfl, b9⟩
        go_wp2
        go_ret
        exact ⟨rfl, b1.trans (b9.mono b1.size)⟩
      · by_cases hsN : (N : Int) ≤ s
        · clear h1 hc hr hok
          have m1 : decide (s < 0) = false := by rw [decide_eq_false_iff_not]; exact hs0
          have m2 : decide ((N : Int) ≤ s) = true := by rw [decide_eq_true_iff]; exact hsN
          go_enter Try.func5, Try.ntmps5
          go_wp2_with fail
          refine HGR.out.mono ?_
          rintro e w0 ⟨rfl, rfl⟩
          go_wp2_with fail
          refine H1.out.mono ?_
          rintro e w1 ⟨rfl, b1, _⟩
          go_wp2_with fail
          refine (HAW.out _).mono ?_
          rintro e w9 ⟨rfl, b9⟩
          go_wp2
          go_ret
          exact ⟨rfl, b1.trans (b9.mono b1.size)⟩
        · obtain ⟨u, rfl⟩ := Int.eq_ofNat_of_zero_le (show 0 ≤ s by omega)
          have huN : u < N := by omega
          have e1 : reachL (N : Int) es (u : Int) = selN N (reachP (gN es) u) := by
            unfold reachL
            rw [if_pos ⟨hc, by omega, by omega⟩, Int.toNat_natCast, Int.toNat_natCast, reach_sel]
          rw [e1] at hr
          obtain ⟨R, hR⟩ : ∃ R, selN N (reachP (gN es) u) = R := ⟨_, rfl⟩
          have hmem : ∀ x, x ∈ R ↔ x < N ∧ Rch (gN es) u x := fun x => by rw [← hR]; exact mem_selN.trans (by rw [reachP_iff])
          have hpair : R.Pairwise (· < ·) := by rw [← hR]; exact selN_pair N _
          have hRl : R.length ≤ 200 := by have := selN_length N (reachP (gN es) u); rw [hR] at this; omega
          rw [hR] at hr
          have HR := Lib.hid hr
          have HRM := Lib.hid hmem
          have HRP := Lib.hid hpair
          have HRE := Lib.hid hR
          have HRL := Lib.hid hRl
          have huR : (intsOf R).contains (u : Int) = true := by rw [contains_intsOf, List.contains_iff_mem]; exact (hmem u).2 ⟨huN, .refl⟩
          have HUR := Lib.hid huR
          clear h1 hc hr hok e1 hmem hpair hR hRl huR
          have m1 : decide ((u : Int) < 0) = false := by rw [decide_eq_false_iff_not]; omega
          have m2 : decide ((N : Int) ≤ (u : Int)) = false := by rw [decide_eq_false_iff_not]; omega
          have m3 : decide (N ≤ u) = false := by rw [decide_eq_false_iff_not]; omega
          go_enter Try.func5, Try.ntmps5
          go_wp2_with fail
          refine HGR.out.mono ?_
          rintro e w0 ⟨rfl, rfl⟩
          go_wp2_with fail
          refine H1.out.mono ?_
          rintro e w1 ⟨rfl, b1, _⟩
          have B1 := Lib.hid b1
          have H2 := Lib.hid (HR.out w1 ((HE.out.below b1).mono b1.size) hl hcap)
          clear b1
          go_wp2_with fail
          refine H2.out.mono ?_
          rintro e w2 ⟨v2, rfl, ⟨a2, c2, rfl, i2, l2⟩, b2⟩
          have B2 := Lib.hid (B1.out.trans (b2.mono B1.out.size))
          obtain ⟨bR, oR, ea, _, _⟩ := i2.some_ (by
            have := List.length_pos_of_mem ((HRM.out u).2 ⟨huN, .refl⟩)
            rw [intsOf_length]; omega)
          subst ea
          have I2 := Lib.hid i2
          have H3 := hasInt_any w2.heap.size (some ⟨bR, oR, none⟩) c2 (intsOf R) (u : Int) w2 i2 l2
          rw [HUR.out] at H3
          have H3 := Lib.hid H3
          clear b2 i2
          go_wp2_with fail
          refine H3.out.mono ?_
          rintro e w3 ⟨rfl, hw3⟩
          rw [hw3]
          clear hw3 H3
          have H4 := Lib.hid (isSorted_any w2.heap.size (some ⟨bR, oR, none⟩) c2 R w2 I2.out HRP.out HRL.out)
          go_wp2_with fail
          refine H4.out.mono ?_
          rintro e w4 ⟨rfl, q4, hw4⟩
          have b4 : Below w2.heap.size w2 w4 := by rw [hw4]; exact below_drewN1 (Below.refl _ _)
          have I4 := Lib.hid ((I2.out.below b4).mono b4.size)
          have B4 := Lib.hid (B2.out.trans (b4.mono B2.out.size))
          have H5 := Lib.hid (clone_any w4.heap.size bR oR c2 R w4 I4.out HRL.out)
          clear hw4 b4 H4
          go_wp2_with fail
          refine H5.out.mono ?_
          rintro e w5 ⟨g5, cap5, rfl, hg5, hcap5, hH5, b5⟩
          have H6 := Lib.hid (compact_any w4.heap.size g5 cap5 R w5 hH5 HRP.out HRL.out hcap5 hg5)
          have B5 := Lib.hid b5
          clear hH5 b5 H5 hg5
          go_wp2_with fail
          refine H6.out.mono ?_
          rintro e w6 ⟨rfl, b6⟩
          have b6' := B5.out.trans b6
          have B6 := Lib.hid (B4.out.trans (b6'.mono B4.out.size))
          have I6 := Lib.hid ((I4.out.below b6').mono b6'.size)
          have E6 := Lib.hid ((HE.out.below B6.out).mono B6.out.size)
          clear b6 b6' H6
          have m4 : (((intsOf R).length : Int) != ((intsOf R).length : Int)) = false := by simp
          go_wp2_with fail
          go_loopw [56] (fun i wr => ∃ q : Nat, q ≤ es.length ∧ i = .int .i64 q ∧ Hid (Below w6.heap.size w6 wr)) (fun i _ => es.length - (intOf i).toNat)
          case atStart => exact ⟨0, Nat.zero_le _, rfl, Lib.hid (Below.refl _ _)⟩
          case round =>
            obtain ⟨q, hq, rfl, hb⟩ := hrel
            by_cases hlq : q < es.length
            · obtain ⟨bl, off, rfl, hbb, hcc⟩ := E6.out.some_ (by omega)
              obtain ⟨d1, d2⟩ := hcc q hlq
              obtain ⟨a, b, hev, haN, hbN, hge⟩ := HOK.out.at_ hlq
              rw [hev] at d1 d2
              have p1 := (hb.out.cell (p := ⟨bl, off + q * 2, none⟩) hbb).trans d1
              have p2 := (hb.out.cell (p := ⟨bl, off + q * 2 + 1, none⟩) hbb).trans d2
              simp only [] at p1 p2
              have hbs := hb.out.size
              have hbb2 : bl < wr.heap.size := by omega
              have b0 : Below wr.heap.size wr (wr.alloc (.cells #[.int .i64 (a : Int), .int .i64 (b : Int)] 40)) := (Below.refl _ wr).alloc (Nat.le_refl _) _
              obtain ⟨wb, hwb⟩ : ∃ wb, wr.alloc (.cells #[.int .i64 (a : Int), .int .i64 (b : Int)] 40) = wb := ⟨_, rfl⟩
              have c0 : wb.cell? ⟨wr.heap.size, 0, none⟩ = some (.int .i64 (a : Int)) := by rw [← hwb]; simp
              have c1 : wb.cell? ⟨wr.heap.size, 1, none⟩ = some (.int .i64 (b : Int)) := by rw [← hwb]; simp
              rw [hwb] at b0
              have IB := ((I6.out.below hb.out).mono hbs).below b0
              have HA := hasInt_any wr.heap.size _ c2 (intsOf R) (a : Int) wb IB l2
              have HB := hasInt_any wr.heap.size _ c2 (intsOf R) (b : Int) wb IB l2
              have BB := Lib.hid (hb.out.trans (b0.mono hbs))
              have hstep : a ∈ R → b ∈ R := fun h => (HRM.out b).2 ⟨hbN, ((HRM.out a).1 h).2.step (List.mem_of_getElem? hge)⟩
              obtain ⟨ra, hra⟩ : ∃ r, (intsOf R).contains (a : Int) = r := ⟨_, rfl⟩
              rw [hra] at HA
              have HA := Lib.hid HA
              cases ra
              · clear HB hra hstep b0 IB hcc d1 d2 hev hge
                go_wp2_with fail
                refine HA.out.mono ?_
                rintro e w8 ⟨rfl, hw8⟩
                rw [hw8]
                go_wp2
                refine ⟨⟨q + 1, by omega, by go_num, BB⟩, ?_⟩
                simp only [intOf]
                omega
              · have hrb : (intsOf R).contains (b : Int) = true := by
                  rw [contains_intsOf, List.contains_iff_mem]
                  rw [contains_intsOf, List.contains_iff_mem] at hra
                  exact hstep hra
                rw [hrb] at HB
                have HB := Lib.hid HB
                clear hra hrb hstep b0 IB hcc d1 d2 hev hge
                go_wp2_with fail
                refine HA.out.mono ?_
                rintro e w8 ⟨rfl, hw8⟩
                rw [hw8]
                go_wp2_with fail
                refine HB.out.mono ?_
                rintro e w9 ⟨rfl, hw9⟩
                rw [hw9]
                go_wp2
                refine ⟨⟨q + 1, by omega, by go_num, BB⟩, ?_⟩
                simp only [intOf]
                omega
            · obtain ⟨w7, rfl⟩ : ∃ x, x = wr := ⟨_, rfl⟩
              have O7 : Hid (OwnN w7.heap.size [u] (.slice (some ⟨w7.heap.size, 0, none⟩) 1 1) (w7.alloc (.cells #[.int .i64 (u : Int)] 3))) := Lib.hid (World.ownsRow_lit w7 #[.int .i64 (u : Int)] 1 (Nat.le_refl _) (by decide) rfl)
              have B7 : Hid (Below w7.heap.size w7 (w7.alloc (.cells #[.int .i64 (u : Int)] 3))) := Lib.hid ((Below.refl _ w7).alloc (Nat.le_refl _) _)
              have F0 := Lib.hid (Fnd.start (g := gN es) huN)
              have E7 := Lib.hid ((E6.out.below hb.out).mono hb.out.size)
              have B67 := Lib.hid (B6.out.trans (hb.out.mono B6.out.size))
              go_wp2_with fail
              go_loopw [10, 75] (fun v i wx => ∃ (k : Nat) (F : List Nat), k ≤ N ∧ i = .int .i64 k ∧ Hid (OwnN w7.heap.size F v wx) ∧ Hid (Fnd N (gN es) u k 0 F) ∧ Hid (Below w7.heap.size w7 wx)) (fun _ i _ => N - (intOf i).toNat)
              case atStart => exact ⟨0, [u], Nat.zero_le _, rfl, O7, F0, B7⟩
              case round =>
                obtain ⟨k, F, hk, rfl, HO, HF, hbk⟩ := hrel
                by_cases hlk : k < N
                · go_wp2_with fail
                  go_loopw [10, 79] (fun v i wx => ∃ (q : Nat) (F : List Nat), q ≤ es.length ∧ i = .int .i64 q ∧ Hid (OwnN w7.heap.size F v wx) ∧ Hid (Fnd N (gN es) u k q F) ∧ Hid (Below w7.heap.size w7 wx)) (fun _ i _ => es.length - (intOf i).toNat)
                  case atStart => exact ⟨0, F, Nat.zero_le _, rfl, HO, HF, hbk⟩
                  case round =>
                    obtain ⟨q, F, hq, rfl, HO, HF, hbx⟩ := hrel
                    by_cases hlq : q < es.length
                    · obtain ⟨bl, off, rfl, hbb, hcc⟩ := E7.out.some_ (by omega)
                      obtain ⟨d1, d2⟩ := hcc q hlq
                      obtain ⟨a, b, hev, haN, hbN, hge⟩ := HOK.out.at_ hlq
                      rw [hev] at d1 d2
                      have p1 := (hbx.out.cell (p := ⟨bl, off + q * 2, none⟩) hbb).trans d1
                      have p2 := (hbx.out.cell (p := ⟨bl, off + q * 2 + 1, none⟩) hbb).trans d2
                      simp only [] at p1 p2
                      have hbs := hbx.out.size
                      have hbb2 : bl < wr.heap.size := by omega
                      have b0 : Below wr.heap.size wr (wr.alloc (.cells #[.int .i64 (a : Int), .int .i64 (b : Int)] 40)) := (Below.refl _ wr).alloc (Nat.le_refl _) _
                      have HOb0 : (wr.alloc (.cells #[.int .i64 (a : Int), .int .i64 (b : Int)] 40)).ownsRow w7.heap.size TI 1 u10 F.length (natV F) := World.ownsRow.alloc HO.out _
                      obtain ⟨wb, hwb⟩ : ∃ wb, wr.alloc (.cells #[.int .i64 (a : Int), .int .i64 (b : Int)] 40) = wb := ⟨_, rfl⟩
                      have c0 : wb.cell? ⟨wr.heap.size, 0, none⟩ = some (.int .i64 (a : Int)) := by rw [← hwb]; simp
                      have c1 : wb.cell? ⟨wr.heap.size, 1, none⟩ = some (.int .i64 (b : Int)) := by rw [← hwb]; simp
                      rw [hwb] at b0 HOb0
                      have HOb := Lib.hid HOb0
                      have HOn : Hid (OwnN w7.heap.size F u10 wb) := Lib.hid HOb0
                      obtain ⟨ao', co', hv', hi, hlF⟩ := HO.out.known
                      have IB := hi.below b0
                      have HA := hasInt_any wr.heap.size ao' co' (intsOf F) (a : Int) wb IB hlF
                      have HB := hasInt_any wr.heap.size ao' co' (intsOf F) (b : Int) wb IB hlF
                      rw [← hv'] at HA HB
                      have BB := Lib.hid (hbx.out.trans (b0.mono hbs))
                      have hFN : F.length ≤ 200 := by
                        have := nodup_length_le N F HF.out.nodup (fun x hx => (HF.out.rch x hx).2)
                        omega
                      have hsb : w7.heap.size ≤ wb.heap.size := by have := b0.size; omega
                      rw [contains_intsOf] at HA HB
                      obtain ⟨ra, hra⟩ : ∃ r, F.contains a = r := ⟨_, rfl⟩
                      obtain ⟨rb, hrb⟩ : ∃ r, F.contains b = r := ⟨_, rfl⟩
                      rw [hra] at HA
                      rw [hrb] at HB
                      have HA := Lib.hid HA
                      have HB := Lib.hid HB
                      cases ra
                      · have HF2 := Lib.hid (HF.out.skip hge (fun h => by
                          rw [← List.contains_iff_mem, hra] at h
                          cases h))
                        clear hra hrb b0 IB hcc d1 d2 hev hge HB hv' hi HOb0
                        go_wp2_with fail
                        refine HA.out.mono ?_
                        rintro e w8 ⟨rfl, hw8⟩
                        rw [hw8]
                        go_wp2
                        refine ⟨⟨q + 1, F, by omega, by go_num, HOn, HF2, BB⟩, ?_⟩
                        simp only [intOf]
                        omega
                      · cases rb
                        · have HF2 := Lib.hid (HF.out.push hge (by rw [← List.contains_iff_mem]; exact hra) (fun h => by
                            rw [← List.contains_iff_mem, hrb] at h
                            cases h) hbN)
                          clear hra hrb b0 IB hcc d1 d2 hev hge hv' hi HOb0
                          go_wp2_with fail
                          refine HA.out.mono ?_
                          rintro e w8 ⟨rfl, hw8⟩
                          rw [hw8]
                          go_wp2_with fail
                          refine HB.out.mono ?_
                          rintro e w9 ⟨rfl, hw9⟩
                          rw [hw9]
                          clear hw8 hw9
                          go_wp2_with (at_builtin; refine wpList_append_own _ rfl _ _ 28 rfl w7.heap.size TI i1 (.int .i64 0) 1 8 Try.underlying28 ji jz0 jz1 jz2 rfl (by decide) _ _ _ rfl (HOb.out.alloc _) ⟨wb.heap.size, 0, none⟩ 1 1 [.int .i64 (b : Int)] rfl rfl (newCell _ _ TI) (one_one _) (by unfold maxLen; omega) (by omega) (by simp; omega) ?_)
                          intro v' w10 hown' hgrow hnil
                          have HO3 : Hid (OwnN w7.heap.size (F ++ [b]) v' w10) := Lib.hid (by unfold OwnN; simpa [natV] using hown')
                          have HB3 : Hid (Below w7.heap.size w7 w10) := Lib.hid ((BB.out.alloc hsb _).grown hgrow (by simp; omega) (fun i hi => (HOb.out.lt i hi).1))
                          clear hown' hgrow hnil
                          go_wp2
                          refine ⟨⟨q + 1, F ++ [b], by omega, by go_num, HO3, HF2, HB3⟩, ?_⟩
                          simp only [intOf]
                          omega
                        · have HF2 := Lib.hid (HF.out.skip hge (fun _ => by rw [← List.contains_iff_mem]; exact hrb))
                          clear hra hrb b0 IB hcc d1 d2 hev hge hv' hi HOb0
                          go_wp2_with fail
                          refine HA.out.mono ?_
                          rintro e w8 ⟨rfl, hw8⟩
                          rw [hw8]
                          go_wp2_with fail
                          refine HB.out.mono ?_
                          rintro e w9 ⟨rfl, hw9⟩
                          rw [hw9]
                          go_wp2
                          refine ⟨⟨q + 1, F, by omega, by go_num, HOn, HF2, BB⟩, ?_⟩
                          simp only [intOf]
                          omega
                    · obtain rfl : q = es.length := by omega
                      have HF2 := HF.out
                      rw [← gN_length] at HF2
                      have HF3 := Lib.hid HF2.round
                      clear HF2
                      go_wp2
                      refine ⟨⟨k + 1, F, by omega, by go_num, HO, HF3, hbx⟩, ?_⟩
                      simp only [intOf]
                      omega
                · obtain rfl : k = N := by omega
                  have hFl := HF.out.all HG.out
                  rw [HRE.out] at hFl
                  obtain ⟨ao, co, hv, _, _⟩ := own_slice HO.out
                  rw [hv, hFl]
                  have hRll := intsOf_length R
                  have m5 : ((R.length : Int) == ((intsOf R).length : Int)) = true := by rw [hRll]; simp
                  have m6 : (R.length == (intsOf R).length) = true := by rw [hRll]; simp
                  clear hv hFl hRll
                  go_wp2_with fail
                  refine (HAW.out _).mono ?_
                  rintro e w9 ⟨rfl, b9⟩
                  have B9 := (B67.out.trans (hbk.out.mono B67.out.size)).trans (b9.mono (by have := B67.out.size; have := hbk.out.size; omega))
                  go_wp2
                  go_ret
                  exact ⟨rfl, B9⟩
    · obtain ⟨c, hc2⟩ : ∃ c, chkE n es = c := ⟨_, rfl⟩
      rw [hc2] at h1 hc
      have q1 : (c != 0) = true := by rw [bne_iff_ne]; exact hc
      have H1 := Lib.hid h1
      clear h1 hc hc2
      go_enter Try.func5, Try.ntmps5
      go_wp2_with fail
      refine HGR.out.mono ?_
      rintro e w0 ⟨rfl, rfl⟩
      go_wp2_with fail
      refine H1.out.mono ?_
      rintro e w1 ⟨rfl, b1, _⟩
      go_wp2_with fail
      refine (HAW.out _).mono ?_
      rintro e w9 ⟨rfl, b9⟩
      go_wp2
      go_ret
      exact ⟨rfl, b1.trans (b9.mono b1.size)⟩
  · go_enter Try.func5, Try.ntmps5
    go_wp2_with fail
    refine HGR.out.mono ?_
    rintro e w0 ⟨rfl, rfl⟩
    go_wp2_with fail
    refine (HAW.out _).mono ?_
    rintro e w9 ⟨rfl, b9⟩
    go_wp2
    go_ret
    exact ⟨rfl, b9⟩

end Go.Proofs.Ytcggmonnajggcaa
