/-
  The statement DigraphClasses, walked by the contracts of digraph's functions.
-/
import Derived.Test.YtcggmonnajggcaaDigUniq
import Derived.Test.YtcggmonnajggcaaClsPlain
namespace Go.Proofs.Ytcggmonnajggcaa
open Go.RowKit

theorem own_off {w w' : World} {B G s n : Nat} {T : TypeId} {v : Value} {xs : List Value} (h : w.ownsRow B T s v n xs) (hg : w.grownBy w' (some G)) (hG : G < B) : w'.ownsRow B T s v n xs :=
  h.kept hg (by
    cases e : v.ownBlock with
    | none => simp
    | some r =>
      right
      intro e2
      have := (h.lt r e).1
      rw [Option.some.injEq] at e2
      omega)
theorem RowsL.off {w w' : World} {B G : Nat} {ll : List (List Nat)} {v : Value} (h : RowsL B ll v w) (hg : w.grownBy w' (some G)) (hG : G < B) : RowsL B ll v w' := by
  obtain ⟨vs, h1, h2, h3⟩ := h
  exact ⟨vs, own_off h1 hg hG, h2, fun i x l hx hl => own_off (h3 i x l hx hl) hg hG⟩
/-- How many nodes the first i lists have. -/
def cnt (LL : List (List Nat)) (i : Nat) : Nat := (LL.take i).flatten.length
theorem cnt_succ {LL : List (List Nat)} {i : Nat} {cur : List Nat} (h : LL[i]? = some cur) : cnt LL (i + 1) = cnt LL i + cur.length := by
  unfold cnt
  rw [List.take_add_one, h]
  simp
theorem cnt_all (LL : List (List Nat)) : cnt LL LL.length = LL.flatten.length := by unfold cnt; rw [List.take_length]

theorem cnt_le (LL : List (List Nat)) (i : Nat) : cnt LL i ≤ LL.flatten.length := by
  have h : (LL.take i ++ LL.drop i).flatten.length = LL.flatten.length := by rw [List.take_append_drop]
  rw [List.flatten_append, List.length_append] at h
  unfold cnt
  omega
theorem ClsSt.open_ {N : Nat} {LL : List (List Nat)} {i : Nat} {c1 : List Nat} {f : Nat → Int} (h : ClsSt N LL i 0 c1 f) (c2 : List Nat) : ClsSt N LL i 0 c2 f where
  old := h.old
  now := fun x hx => by simp at hx
  rest := fun x hx => by
    rcases h.rest x hx with h1 | h1
    · exact .inl h1
    · simp at h1

set_option maxRecDepth 100000 in
set_option maxHeartbeats 8000000 in
theorem digraphClasses_walk (haw : ∀ w, Calls Try.prog 12 #[] w fun e w' => e = .returned (.bool true) ∧ Below w.heap.size w w') (n : Int) (ad : Option Addr) (cap : Nat) (es : List (Int × Int)) (w : World) (hE : EdgesA w.heap.size w ad es) (hl : es.length ≤ 9223372036854775807) (hcap : es.length ≤ cap) :
    Calls Try.prog 6 #[.int .i64 n, .slice ad es.length cap] w fun e w' => e = .returned (.bool true) ∧ Below w.heap.size w w' := by
  obtain ⟨i1, ji, jz0, jz1, jz2⟩ := info_parts infoI
  have HAW := Lib.hid haw
  have HE := Lib.hid hE
  have hgr := (great_any n ad cap es w).mono (fun e w' h => (⟨h.1, h.2.symm⟩ : e = .returned (.bool (greatE n es)) ∧ w = w'))
  obtain ⟨gr, hgr2⟩ : ∃ gr, greatE n es = gr := ⟨_, rfl⟩
  rw [hgr2] at hgr
  have HGR := Lib.hid hgr
  clear haw hE hgr hgr2
  cases gr
  · have h1 := check_calm w.heap.size n ad cap es w HE.out hl
    by_cases hc : chkE n es = 0
    · rw [hc] at h1
      have H1 := Lib.hid h1
      have hr := myReach n
      have hco := devComponents_any n ad cap es
      obtain ⟨N, rfl, hN, hl2, hok⟩ := chk_ok hc
      have e1 : compL (N : Int) es = compsK N (gN es) N := by unfold compL; rw [if_pos hc, Int.toNat_natCast]
      have e2 : ∀ u : Nat, u < N → reachL (N : Int) es (u : Int) = selN N (reachP (gN es) u) := fun u hu => by
        unfold reachL
        rw [if_pos ⟨hc, by omega, by omega⟩, Int.toNat_natCast, Int.toNat_natCast, reach_sel]
      have hRE : ∀ (u : Nat) (W : World), u < N → EdgesA W.heap.size W ad es → Calls Try.prog 16 #[.int .i64 (N : Int), .slice ad es.length cap, .int .i64 (u : Int)] W (RetI (selN N (reachP (gN es) u)) W) := fun u W hu hEW => by
        rw [← e2 u hu]
        exact hr (u : Int) ad cap es W hEW hl hcap
      have hPP := comps_parts N (gN es)
      have hPC := hPP.count
      have hLn := compsK_length_le N (gN es) N
      obtain ⟨LL, hLL⟩ : ∃ LL, compsK N (gN es) N = LL := ⟨_, rfl⟩
      rw [e1, hLL] at hco
      rw [hLL] at hPP hPC hLn
      have HRE := Lib.hid hRE
      have HCO := Lib.hid hco
      have HP := Lib.hid hPP
      have HPC := Lib.hid hPC
      have HLn := Lib.hid hLn
      clear h1 hc hr hco hok e1 e2 hRE hPP hPC hLn hLL
      go_enter Try.func6, Try.ntmps6
      go_wp2_with fail
      refine HGR.out.mono ?_
      rintro e w0 ⟨rfl, rfl⟩
      go_wp2_with fail
      refine H1.out.mono ?_
      rintro e w1 ⟨rfl, b1, hcs⟩
      clear hcs
      have s1 := b1.size
      have B1 := Lib.hid b1
      clear b1
      go_wp2_with (at_make; refine wpList_make_full _ rfl (.tmp 25) (.tmp 25) 28 rfl w.heap.size TI i1 (.int .i64 0) 1 Try.underlying28 ji jz0 jz1 .i64 .i64 _ _ N rfl rfl rfl rfl (by rw [jz2]; omega) (by unfold maxLen; omega) s1 ?_)
      intro w2 ho2 hg2
      rw [madeZ, tabN_zero] at ho2
      have b2 : Below w.heap.size w w2 := B1.out.grown hg2 s1 (fun j hj => by cases hj)
      have hGlt : w1.heap.size < w2.heap.size := (World.ownsRow.lt ho2 _ rfl).2
      obtain ⟨G, hG⟩ : ∃ G, w1.heap.size = G := ⟨_, rfl⟩
      rw [hG] at ho2 hGlt s1 ⊢
      have H3 := Lib.hid (HCO.out w2 ((HE.out.below b2).mono b2.size) hl hcap)
      have HZ2 := Lib.hid ho2
      have B2 := Lib.hid b2
      obtain ⟨M, hM⟩ : ∃ M, w2.heap.size = M := ⟨_, rfl⟩
      rw [hM] at hGlt H3
      clear ho2 hg2 hG b2
      go_wp2_with fail
      refine H3.out.mono ?_
      rintro e w3 ⟨v3, rfl, hrows, b3⟩
      rw [← hM] at b3
      have HZ3 : Hid (ZsAt w.heap.size G N (tabN N (fun _ => 0)) w3) := Lib.hid (own_below HZ2.out b3 (by omega))
      have B3 := Lib.hid (B2.out.trans (b3.mono B2.out.size))
      obtain ⟨vs0, h10, h20, h30⟩ := hrows
      obtain ⟨aL, cL, rfl, _, _⟩ := own_slice h10
      have HL3 : Hid (RowsL M LL (.slice aL LL.length cL) w3) := Lib.hid ⟨vs0, h10, h20, h30⟩
      have C0 := Lib.hid (ClsSt.start N LL)
      clear h10 h20 h30 b3 hM
      go_wp2_with fail
      go_loopw [6, 31] (fun c i wr => ∃ (k : Nat) (f : Nat → Int), k ≤ LL.length ∧ i = .int .i64 k ∧ c = .int .i64 ((cnt LL k : Nat) : Int) ∧ Hid (ClsSt N LL k 0 [] f) ∧ Hid (ZsAt w.heap.size G N (tabN N f) wr) ∧ Hid (RowsL M LL (.slice aL LL.length cL) wr) ∧ Hid (Below w.heap.size w wr)) (fun _ i _ => LL.length - (intOf i).toNat)
      case atStart => exact ⟨0, _, Nat.zero_le _, rfl, rfl, C0, HZ3, HL3, B3⟩
      case round =>
        obtain ⟨k, f, hk, rfl, rfl, HC, HZ, HL, hb⟩ := hrel
        by_cases hkl : k < LL.length
        · obtain ⟨vs, h1, h2, h3⟩ := HL.out
          obtain ⟨cur, hcur⟩ : ∃ cur, LL[k]? = some cur := ⟨_, List.getElem?_eq_getElem hkl⟩
          obtain ⟨x, hx⟩ : ∃ x, vs[k]? = some x := ⟨_, List.getElem?_eq_getElem (by omega)⟩
          have ho := h3 k x cur hx hcur
          obtain ⟨gL, cg, eL⟩ := ownsRow_some h1 (by intro e; injection e with _ e2 _; omega)
          injection eL with eL1 _ eL3
          subst eL1
          subst eL3
          have p1 : wr.cell? ⟨gL, k, none⟩ = some x := by rw [World.ownsRow.cellAt h1 k (by omega), hx]
          obtain ⟨ax, cx, rfl, _, _⟩ := own_slice ho
          have HO := Lib.hid ho
          have HCU := Lib.hid hcur
          have HC1 := Lib.hid (HC.out.open_ cur)
          have hkI : (k : Int) < (LL.length : Int) := by omega
          have hLL200 : LL.length ≤ 200 := by have := HLn.out; omega
          have hgl : gL < wr.heap.size := (World.ownsRow.lt h1 gL rfl).2
          clear h1 h2 h3 ho hx hcur
          go_wp2_with fail
          go_loopw [6, 38] (fun c i wx => ∃ (p : Nat) (f : Nat → Int), p ≤ cur.length ∧ i = .int .i64 p ∧ c = .int .i64 ((cnt LL k + p : Nat) : Int) ∧ Hid (ClsSt N LL k p cur f) ∧ Hid (ZsAt w.heap.size G N (tabN N f) wx) ∧ Hid (RowsL M LL (.slice (some ⟨gL, 0, none⟩) LL.length cL) wx) ∧ Hid (OwnN M cur (.slice ax cur.length cx) wx) ∧ Hid (Below w.heap.size w wx)) (fun _ i _ => cur.length - (intOf i).toNat)
          case atStart => exact ⟨0, f, Nat.zero_le _, rfl, rfl, HC1, HZ, HL, HO, hb⟩
          case round =>
            obtain ⟨p, f, hp, rfl, rfl, HC, HZ, HL, HO, hbx⟩ := hrel
            by_cases hpl : p < cur.length
            · obtain ⟨x, hx⟩ : ∃ x, cur[p]? = some x := ⟨_, List.getElem?_eq_getElem hpl⟩
              have hxN := HP.out.lt k cur HCU.out x (List.mem_of_getElem? hx)
              have hf0 := HC.out.free HP.out HCU.out hx
              have HC2 := Lib.hid (HC.out.put HP.out HCU.out hx)
              obtain ⟨gx, cgx, ex⟩ := ownsRow_some HO.out (by intro e; injection e with _ e2 _; omega)
              injection ex with ex1 _ ex3
              subst ex1
              subst ex3
              have p2 : wr.cell? ⟨gx, p, none⟩ = some (.int .i64 (x : Int)) := by
                rw [World.ownsRow.cellAt HO.out p (by omega), natV, List.getElem?_map, hx]
                rfl
              have hgx : gx < wr.heap.size := (World.ownsRow.lt HO.out gx rfl).2
              have p3 : wr.cell? ⟨G, x, none⟩ = some (.int .i64 0) := by rw [HZ.out.cell hxN (tabN_get f hxN), hf0]
              have p4 := HZ.out.free x
              have hst := HZ.out.store x ((k : Int) + 1)
              have hsg := (World.ownsRow.stored HZ.out x (.int .i64 ((k : Int) + 1))).2
              have HC3 : Hid (tabN N (fun y => if y = x then (k : Int) + 1 else f y) = (tabN N f).set x ((k : Int) + 1)) := Lib.hid (tabN_set (by simp) (fun j hj => by simp [hj])).symm
              have HZ2 : Hid (ZsAt w.heap.size G N (tabN N (fun y => if y = x then (k : Int) + 1 else f y)) (wr.setCell ⟨G, x, none⟩ (.int .i64 ((k : Int) + 1)))) := Lib.hid (by rw [HC3.out]; exact hst)
              have HL2 : Hid (RowsL M LL (.slice (some ⟨gL, 0, none⟩) LL.length cL) (wr.setCell ⟨G, x, none⟩ (.int .i64 ((k : Int) + 1)))) := Lib.hid (HL.out.off hsg hGlt)
              have HO2 : Hid (OwnN M cur (.slice (some ⟨gx, 0, none⟩) cur.length cx) (wr.setCell ⟨G, x, none⟩ (.int .i64 ((k : Int) + 1)))) := Lib.hid (own_off HO.out hsg hGlt)
              have HB2 : Hid (Below w.heap.size w (wr.setCell ⟨G, x, none⟩ (.int .i64 ((k : Int) + 1)))) := Lib.hid (hbx.out.setCell (p := ⟨G, x, none⟩) s1 _)
              have hcn : cnt LL k + p + 1 ≤ 200 := by
                have h1 := cnt_succ HCU.out
                have h2 := cnt_le LL (k + 1)
                have := HPC.out
                omega
              have m1 : decide ((x : Int) < 0) = false := by rw [decide_eq_false_iff_not]; omega
              have m2 : decide ((N : Int) ≤ (x : Int)) = false := by rw [decide_eq_false_iff_not]; omega
              have m3 : decide (N ≤ x) = false := by rw [decide_eq_false_iff_not]; omega
              have hGw : G < wr.heap.size := (World.ownsRow.lt HZ.out G rfl).2
              clear hx hf0 hst hsg HC3
              go_wp2
              refine ⟨⟨p + 1, _, by omega, by go_num, by go_num, HC2, HZ2, HL2, HO2, HB2⟩, ?_⟩
              simp only [intOf]
              omega
            · obtain rfl : p = cur.length := by omega
              have HC2 := Lib.hid (HC.out.next HCU.out [])
              have hcs := cnt_succ HCU.out
              rw [← hcs]
              clear hcs
              go_wp2
              refine ⟨⟨k + 1, f, by omega, by go_num, rfl, HC2, HZ, HL, hbx⟩, ?_⟩
              simp only [intOf]
              omega
        · obtain rfl : k = LL.length := by omega
          have hcN : cnt LL LL.length = N := by rw [cnt_all]; exact HPC.out
          rw [hcN]
          clear hcN
          go_wp2_with fail
          go_loopw [66] (fun i wx => ∃ k : Nat, k ≤ N ∧ i = .int .i64 k ∧ Hid (ZsAt w.heap.size G N (tabN N f) wx) ∧ Hid (Below w.heap.size w wx)) (fun i _ => N - (intOf i).toNat)
          case atStart => exact ⟨0, Nat.zero_le _, rfl, HZ, hb⟩
          case round =>
            obtain ⟨k, hk, rfl, HZ, hb⟩ := hrel
            by_cases hkN : k < N
            · have hGw : G < wr.heap.size := (World.ownsRow.lt HZ.out G rfl).2
              have H4 := Lib.hid (HRE.out k wr hkN ((HE.out.below hb.out).mono hb.out.size))
              go_wp2_with fail
              refine H4.out.mono ?_
              rintro e w4 ⟨v4, rfl, ⟨a4, c4, rfl, i4, l4⟩, b4⟩
              have HZ4 : Hid (ZsAt w.heap.size G N (tabN N f) w4) := Lib.hid (own_below HZ.out b4 hGw)
              have B4 := Lib.hid (hb.out.trans (b4.mono hb.out.size))
              have I4 : Hid (Ints w4 (.slice a4 (intsOf (selN N (reachP (gN es) k))).length c4) (selN N (reachP (gN es) k))) := Lib.hid ⟨a4, c4, rfl, i4, l4⟩
              obtain ⟨n4, hn4⟩ : ∃ n4, (intsOf (selN N (reachP (gN es) k))).length = n4 := ⟨_, rfl⟩
              rw [hn4] at I4 ⊢
              clear b4 i4 l4 H4 hn4
              go_wp2_with fail
              go_loopw [74] (fun i wx => ∃ q : Nat, q ≤ N ∧ i = .int .i64 q ∧ Hid (ZsAt w.heap.size G N (tabN N f) wx) ∧ Hid (Ints wx (.slice a4 n4 c4) (selN N (reachP (gN es) k))) ∧ Hid (Below w.heap.size w wx)) (fun i _ => N - (intOf i).toNat)
              case atStart => exact ⟨0, Nat.zero_le _, rfl, HZ4, I4, B4⟩
              case round =>
                obtain ⟨q, hq, rfl, HZ, HI, hbx⟩ := hrel
                by_cases hqN : q < N
                · have hsame := HC.out.same HP.out hkN hqN
                  have hGx : G < wr.heap.size := (World.ownsRow.lt HZ.out G rfl).2
                  obtain ⟨a5, c5, e5, i5, l5⟩ := HI.out
                  have H5 := hasInt_any wr.heap.size a5 c5 _ (q : Int) wr i5 l5
                  rw [← e5, contains_intsOf] at H5
                  have hm1 : (selN N (reachP (gN es) k)).contains q = true ↔ Rch (gN es) k q := by
                    rw [List.contains_iff_mem, mem_selN, reachP_iff]
                    exact ⟨fun h => h.2, fun h => ⟨hqN, h⟩⟩
                  obtain ⟨r1, hr1⟩ : ∃ r, (selN N (reachP (gN es) k)).contains q = r := ⟨_, rfl⟩
                  rw [hr1] at H5 hm1
                  have H5 := Lib.hid H5
                  cases r1
                  · have hne : (f k == f q) = false := by
                      rw [beq_eq_false_iff_ne]
                      intro e
                      have := (mutB_iff.1 (hsame.2 e)).1
                      exact absurd (hm1.2 this) (by decide)
                    have p5 := HZ.out.cell hkN (tabN_get f hkN)
                    have p6 := HZ.out.cell hqN (tabN_get f hqN)
                    obtain ⟨y, hy⟩ : ∃ y, f k = y := ⟨_, rfl⟩
                    obtain ⟨z, hz⟩ : ∃ z, f q = z := ⟨_, rfl⟩
                    rw [hy] at hne p5
                    rw [hz] at hne p6
                    clear hsame hm1 hr1 e5 i5 l5 hy hz
                    go_wp2_with fail
                    refine H5.out.mono ?_
                    rintro e w5 ⟨rfl, hw5⟩
                    rw [hw5]
                    clear hw5
                    go_wp2_with fail
                    go_quiet (fail)
                    have HZq := Lib.hid (own_drewN (k := nq) HZ.out)
                    have HIq : Hid (Ints (wr.drewN nq) (.slice a4 n4 c4) (selN N (reachP (gN es) k))) := Lib.hid (HI.out.below (below_drewN' (Below.refl _ _)))
                    have HBq := Lib.hid (below_drewN' (k := nq) hbx.out)
                    go_wp2
                    go_roundw
                    case rel => exact ⟨q + 1, by omega, by go_num, HZq, HIq, HBq⟩
                    case measure => simp only [intOf]; omega
                  · have HS := Lib.hid hsame
                    have HM1 := Lib.hid hm1
                    clear hsame hm1 hr1 e5 i5 l5
                    have H6 := Lib.hid (HRE.out q wr hqN ((HE.out.below hbx.out).mono hbx.out.size))
                    go_wp2_with fail
                    refine H5.out.mono ?_
                    rintro e w5 ⟨rfl, hw5⟩
                    rw [hw5]
                    clear hw5
                    go_wp2_with fail
                    refine H6.out.mono ?_
                    rintro e w6 ⟨v6, rfl, ⟨a6, c6, rfl, i6, l6⟩, b6⟩
                    have H7 := hasInt_any w6.heap.size a6 c6 _ (k : Int) w6 i6 l6
                    rw [contains_intsOf] at H7
                    have hm2 : (selN N (reachP (gN es) q)).contains k = true ↔ Rch (gN es) q k := by
                      rw [List.contains_iff_mem, mem_selN, reachP_iff]
                      exact ⟨fun h => h.2, fun h => ⟨hkN, h⟩⟩
                    obtain ⟨r2, hr2⟩ : ∃ r, (selN N (reachP (gN es) q)).contains k = r := ⟨_, rfl⟩
                    rw [hr2] at H7 hm2
                    have hne : (f k == f q) = r2 := by
                      rw [Bool.eq_iff_iff, beq_iff_eq, ← HS.out, mutB_iff, hm2]
                      exact ⟨fun h => h.2, fun h => ⟨HM1.out.1 (by simp), h⟩⟩
                    have HZ6 : Hid (ZsAt w.heap.size G N (tabN N f) w6) := Lib.hid (own_below HZ.out b6 hGx)
                    have HI6 : Hid (Ints w6 (.slice a4 n4 c4) (selN N (reachP (gN es) k))) := Lib.hid (HI.out.below b6)
                    have HB6 := Lib.hid (hbx.out.trans (b6.mono hbx.out.size))
                    have p5 := HZ6.out.cell hkN (tabN_get f hkN)
                    have p6 := HZ6.out.cell hqN (tabN_get f hqN)
                    obtain ⟨y, hy⟩ : ∃ y, f k = y := ⟨_, rfl⟩
                    obtain ⟨z, hz⟩ : ∃ z, f q = z := ⟨_, rfl⟩
                    rw [hy] at hne p5
                    rw [hz] at hne p6
                    have H7 := Lib.hid H7
                    have hG6 : G < w6.heap.size := (World.ownsRow.lt HZ6.out G rfl).2
                    clear hm2 hr2 hy hz i6 l6 b6
                    go_wp2_with fail
                    refine H7.out.mono ?_
                    rintro e w7 ⟨rfl, hw7⟩
                    rw [hw7]
                    clear hw7
                    cases r2
                    · go_wp2_with fail
                      go_quiet (fail)
                      have HZq := Lib.hid (own_drewN (k := nq) HZ6.out)
                      have HIq : Hid (Ints (w6.drewN nq) (.slice a4 n4 c4) (selN N (reachP (gN es) k))) := Lib.hid (HI6.out.below (below_drewN' (Below.refl _ _)))
                      have HBq := Lib.hid (below_drewN' (k := nq) HB6.out)
                      go_wp2
                      go_roundw
                      case rel => exact ⟨q + 1, by omega, by go_num, HZq, HIq, HBq⟩
                      case measure => simp only [intOf]; omega
                    · go_wp2_with fail
                      go_quiet (fail)
                      have HZq := Lib.hid (own_drewN (k := nq) HZ6.out)
                      have HIq : Hid (Ints (w6.drewN nq) (.slice a4 n4 c4) (selN N (reachP (gN es) k))) := Lib.hid (HI6.out.below (below_drewN' (Below.refl _ _)))
                      have HBq := Lib.hid (below_drewN' (k := nq) HB6.out)
                      go_wp2
                      go_roundw
                      case rel => exact ⟨q + 1, by omega, by go_num, HZq, HIq, HBq⟩
                      case measure => simp only [intOf]; omega
                · go_wp2
                  refine ⟨⟨k + 1, by omega, by go_num, HZ, hbx⟩, ?_⟩
                  simp only [intOf]
                  omega
            · have m5 : ((N : Int) == (N : Int)) = true := beq_self_eq_true _
              go_wp2_with fail
              refine (HAW.out _).mono ?_
              rintro e w9 ⟨rfl, b9⟩
              have B9 := hb.out.trans (b9.mono hb.out.size)
              go_wp2
              go_ret
              exact ⟨rfl, B9⟩
    · obtain ⟨c, hc2⟩ : ∃ c, chkE n es = c := ⟨_, rfl⟩
      rw [hc2] at h1 hc
      have q1 : (c != 0) = true := by rw [bne_iff_ne]; exact hc
      have H1 := Lib.hid h1
      clear h1 hc hc2
      go_enter Try.func6, Try.ntmps6
      go_wp2_with fail
      refine HGR.out.mono ?_
      rintro e w0 ⟨rfl, rfl⟩
      go_wp2_with fail
      refine H1.out.mono ?_
      rintro e w1 ⟨rfl, b1, _⟩
      go_wp2_with fail
      refine (HAW.out _).mono ?_
      rintro e w9 ⟨rfl, b9⟩
      go_wp2
      go_ret
      exact ⟨rfl, b1.trans (b9.mono b1.size)⟩
  · go_enter Try.func6, Try.ntmps6
    go_wp2_with fail
    refine HGR.out.mono ?_
    rintro e w0 ⟨rfl, rfl⟩
    go_wp2_with fail
    refine (HAW.out _).mono ?_
    rintro e w9 ⟨rfl, b9⟩
    go_wp2
    go_ret
    exact ⟨rfl, b9⟩

end Go.Proofs.Ytcggmonnajggcaa
