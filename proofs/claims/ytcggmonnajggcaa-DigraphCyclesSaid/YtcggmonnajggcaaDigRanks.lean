/-
  The statement DigraphRanks, walked by the contracts of digraph's functions.
-/
import Derived.Test.YtcggmonnajggcaaDigMine
import Derived.Test.YtcggmonnajggcaaRankOf
namespace Go.Proofs.Ytcggmonnajggcaa
open Go.RowKit

theorem gN_lt {N : Nat} {es : List (Int × Int)} (h : OkE N es) : ∀ e, e ∈ gN es → e.1 < N ∧ e.2 < N := by
  intro e he
  obtain ⟨x, hx, rfl⟩ := List.mem_map.1 he
  have := h x hx
  dsimp only
  omega
theorem relaxN_most (g : List (Nat × Nat)) (x M : Nat) (r : List Nat) (h : Most M r) : Most (M + g.length) (relaxN g r x) := by
  unfold relaxN
  induction g generalizing r M with
  | nil => exact h
  | cons e g ih =>
    rw [List.foldl_cons, List.length_cons, show M + (g.length + 1) = (M + 1) + g.length by omega]
    exact ih (M + 1) _ (h.relax x e)
theorem ranksF_most (N : Nat) (g : List (Nat × Nat)) (l : List Nat) : Most (l.length * g.length) (ranksF N g l) := by
  have key : ∀ (l : List Nat) (M : Nat) (r : List Nat), Most M r → Most (M + l.length * g.length) (l.foldl (relaxN g) r) := by
    intro l
    induction l with
    | nil => intro M r h; simpa using h
    | cons x l ih =>
      intro M r h
      rw [List.foldl_cons, List.length_cons, show M + (l.length + 1) * g.length = (M + g.length) + l.length * g.length by rw [Nat.add_mul, Nat.one_mul]; omega]
      exact ih _ _ (relaxN_most g x M r h)
  have := key l 0 _ (Most.start N)
  rw [Nat.zero_add] at this
  exact this

set_option maxRecDepth 100000 in
set_option maxHeartbeats 8000000 in
theorem digraphRanks_walk (haw : ∀ w, Calls Try.prog 12 #[] w fun e w' => e = .returned (.bool true) ∧ Below w.heap.size w w') (n : Int) (ad : Option Addr) (cap : Nat) (es : List (Int × Int)) (w : World) (hE : EdgesA w.heap.size w ad es) (hl : es.length ≤ 9223372036854775807) (hcap : es.length ≤ cap) :
    Calls Try.prog 9 #[.int .i64 n, .slice ad es.length cap] w fun e w' => e = .returned (.bool true) ∧ Below w.heap.size w w' := by
  have HAW := Lib.hid haw
  have HE := Lib.hid hE
  have hgr := (great_any n ad cap es w).mono (fun e w' h => (⟨h.1, h.2.symm⟩ : e = .returned (.bool (greatE n es)) ∧ w = w'))
  obtain ⟨gr, hgr2⟩ : ∃ gr, greatE n es = gr := ⟨_, rfl⟩
  rw [hgr2] at hgr
  have HGR := Lib.hid hgr
  clear haw hE hgr hgr2
  cases gr
  · have h1 := check_calm w.heap.size n ad cap es w HE.out hl
    by_cases hc : chkE n es = 0
    · rw [hc] at h1
      have H1 := Lib.hid h1
      have hr := myRanks n ad cap es
      have ho := myOrder n ad cap es
      obtain ⟨N, rfl, hN, hl2, hok⟩ := chk_ok hc
      have hg := gN_lt hok
      have HOK := Lib.hid hok
      cases hof : orderFrom N (gN es) [] with
      | none =>
        have e1 : ordE (N : Int) es = 21 := by unfold ordE; rw [if_pos hc, Int.toNat_natCast, hof]; rfl
        have e2 : rankL (N : Int) es = [] := by unfold rankL; rw [e1]; rfl
        rw [e1, e2] at hr
        rw [e1] at ho
        have HR := Lib.hid hr
        have HO := Lib.hid ho
        clear h1 hc hr ho hof e1 e2 hg hok
        go_enter Try.func9, Try.ntmps9
        go_wp2_with fail
        refine HGR.out.mono ?_
        rintro e w0 ⟨rfl, rfl⟩
        go_wp2_with fail
        refine H1.out.mono ?_
        rintro e w1 ⟨rfl, b1, _⟩
        have B1 := Lib.hid b1
        have H2 := Lib.hid (HR.out w1 ((HE.out.below b1).mono b1.size) hl hcap)
        clear b1
        go_wp2_with fail
        refine H2.out.mono ?_
        rintro e w2 ⟨v2, rfl, ⟨a2, c2, rfl, _, _⟩, b2⟩
        have b2' := B1.out.trans (b2.mono B1.out.size)
        have B2 := Lib.hid b2'
        have H3 := Lib.hid (HO.out w2 ((HE.out.below b2').mono b2'.size) hl hcap)
        clear b2 b2'
        go_wp2_with fail
        refine H3.out.mono ?_
        rintro e w3 ⟨v3, rfl, _, b3⟩
        have B3 := Lib.hid (B2.out.trans (b3.mono B2.out.size))
        clear b3
        simp only [intsOf, List.map_nil, List.length_nil]
        go_wp2_with fail
        refine (HAW.out _).mono ?_
        rintro e w9 ⟨rfl, b9⟩
        go_wp2
        go_ret
        exact ⟨rfl, B3.out.trans (b9.mono B3.out.size)⟩
      | some l =>
        have e1 : ordE (N : Int) es = 0 := by unfold ordE; rw [if_pos hc, Int.toNat_natCast, hof]; rfl
        have e3 : ordL (N : Int) es = l := by unfold ordL; rw [if_pos hc, Int.toNat_natCast, hof]; rfl
        have e2 : rankL (N : Int) es = ranksF N (gN es) l := by unfold rankL; rw [if_pos e1, Int.toNat_natCast, e3]
        have hmk := mostK_rank hg hof
        have hll := (orderFrom_length (by simp) (fun x hx => by simp at hx) hof).1
        have hrl := ranksF_length N (gN es) l
        obtain ⟨M, hM⟩ : ∃ M : Nat, Most M (ranksF N (gN es) l) ∧ M ≤ 400000 := ⟨_, ranksF_most N (gN es) l, by rw [hll, gN_length]; exact Nat.le_trans (Nat.mul_le_mul hN hl2) (by decide)⟩
        obtain ⟨r, hrr⟩ : ∃ r, ranksF N (gN es) l = r := ⟨_, rfl⟩
        rw [e1, e2, hrr] at hr
        rw [e1] at ho
        rw [hrr] at hmk hrl hM
        have HR := Lib.hid hr
        have HO := Lib.hid ho
        have HMK := Lib.hid hmk
        have HRL := Lib.hid hrl
        have HM := Lib.hid hM
        clear h1 hc hr ho hof e1 e2 e3 hg hok hmk hrr hll hrl hM
        go_enter Try.func9, Try.ntmps9
        go_wp2_with fail
        refine HGR.out.mono ?_
        rintro e w0 ⟨rfl, rfl⟩
        go_wp2_with fail
        refine H1.out.mono ?_
        rintro e w1 ⟨rfl, b1, _⟩
        have B1 := Lib.hid b1
        have H2 := Lib.hid (HR.out w1 ((HE.out.below b1).mono b1.size) hl hcap)
        clear b1
        go_wp2_with fail
        refine H2.out.mono ?_
        rintro e w2 ⟨v2, rfl, ⟨a2, c2, rfl, i2, _⟩, b2⟩
        have b2' := B1.out.trans (b2.mono B1.out.size)
        have B2 := Lib.hid b2'
        have I2 := Lib.hid i2
        have H3 := Lib.hid (HO.out w2 ((HE.out.below b2').mono b2'.size) hl hcap)
        clear b2 b2' i2
        go_wp2_with fail
        refine H3.out.mono ?_
        rintro e w3 ⟨v3, rfl, _, b3⟩
        have B3 := Lib.hid (B2.out.trans (b3.mono B2.out.size))
        have I3 := Lib.hid ((I2.out.below b3).mono b3.size)
        clear b3
        rw [intsOf_length, HRL.out]
        have q1 : (((N : Nat) : Int) != (N : Int)) = false := by simp
        go_wp2
        go_loopw [59] (fun i wr => ∃ k : Nat, k ≤ N ∧ i = .int .i64 k ∧ Hid (Below w3.heap.size w3 wr)) (fun i _ => N - (intOf i).toNat)
        case atStart => exact ⟨0, Nat.zero_le _, rfl, Lib.hid (Below.refl _ _)⟩
        case round =>
          obtain ⟨k, hk, rfl, hb⟩ := hrel
          by_cases hlt : k < N
          · go_wp2
            go_loopw [10, 64] (fun m i wx => ∃ q : Nat, q ≤ es.length ∧ i = .int .i64 q ∧ m = .int .i64 (mostK (gN es) r k q) ∧ Hid (Below w3.heap.size w3 wx)) (fun _ i _ => es.length - (intOf i).toNat)
            case atStart => exact ⟨0, Nat.zero_le _, rfl, rfl, hb⟩
            case round =>
              obtain ⟨q, hq, rfl, rfl, hbx⟩ := hrel
              by_cases hlq : q < es.length
              · obtain ⟨bl, off, rfl, hbb, hcc⟩ := HE.out.some_ (by omega)
                obtain ⟨d1, d2⟩ := hcc q hlq
                obtain ⟨u, v, hev, hu, hv, hge⟩ := HOK.out.at_ hlq
                rw [hev] at d1 d2
                have hb3 := B3.out.trans (hbx.out.mono B3.out.size)
                have p1 := (hb3.cell (p := ⟨bl, off + q * 2, none⟩) hbb).trans d1
                have p2 := (hb3.cell (p := ⟨bl, off + q * 2 + 1, none⟩) hbb).trans d2
                simp only [] at p1 p2
                have hstep := mostK_succ r k hge
                have hmb := mostK_bound (g := gN es) HM.out.1 k q
                have hM4 := HM.out.2
                have hul : u < (intsOf r).length := by rw [intsOf_length, HRL.out]; exact hu
                obtain ⟨br, offr, rfl, hbr, hcr⟩ := I3.out.some_ (by omega)
                have d3 := hcr u hul
                have e3 : (intsOf r)[u]?.getD 0 = ((r.getD u 0 : Nat) : Int) := by
                  rw [List.getD_eq_getElem?_getD]
                  simp [intsOf]
                  cases r[u]? <;> rfl
                rw [e3] at d3
                have p3 := (hbx.out.cell (p := ⟨br, offr + u, none⟩) hbr).trans d3
                have hbr2 : br < wr.heap.size := by have := hbx.out.size; omega
                have hbb2 : bl < wr.heap.size := by have := hbx.out.size; have := B3.out.size; omega
                have hrb := HM.out.1.getD u
                obtain ⟨z, hz⟩ : ∃ z : Int, mostK (gN es) r k q = z := ⟨_, rfl⟩
                obtain ⟨y, hy⟩ : ∃ y : Nat, r.getD u 0 = y := ⟨_, rfl⟩
                rw [hz, hy] at hstep
                rw [hz] at hmb ⊢
                rw [hy] at hrb p3
                have HST := Lib.hid hstep
                clear d1 d2 hcc hev hge hb3 hcr d3 e3 hstep hz hy
                by_cases hvk : v = k
                · subst hvk
                  go_wp2
                  refine ⟨⟨q + 1, by omega, by go_num, by rw [HST.out, if_pos rfl], Lib.hid (hbx.out.alloc hbx.out.size _)⟩, ?_⟩
                  simp only [intOf]
                  omega
                · have t1 : ((v : Int) == (k : Int)) = false := by rw [beq_eq_false_iff_ne]; omega
                  go_wp2
                  refine ⟨⟨q + 1, by omega, by go_num, by rw [HST.out, if_neg hvk], Lib.hid (hbx.out.alloc hbx.out.size _)⟩, ?_⟩
                  simp only [intOf]
                  omega
              · have hmk := HMK.out k
                rw [gN_length, show es.length = q by omega] at hmk
                obtain ⟨br, offr, rfl, hbr, hcr⟩ := I3.out.some_ (by rw [intsOf_length, HRL.out]; omega)
                have d3 := hcr k (by rw [intsOf_length, HRL.out]; exact hlt)
                have e3 : (intsOf r)[k]?.getD 0 = ((r.getD k 0 : Nat) : Int) := by
                  rw [List.getD_eq_getElem?_getD]
                  simp [intsOf]
                  cases r[k]? <;> rfl
                rw [e3] at d3
                have p3 := (hbx.out.cell (p := ⟨br, offr + k, none⟩) hbr).trans d3
                have hrb := HM.out.1.getD k
                have hM4 := HM.out.2
                obtain ⟨z, hz⟩ : ∃ z : Int, mostK (gN es) r k q = z := ⟨_, rfl⟩
                obtain ⟨y, hy⟩ : ∃ y : Nat, r.getD k 0 = y := ⟨_, rfl⟩
                rw [hy] at hrb p3 hmk
                rw [hz] at hmk ⊢
                have t1 : ((y : Int) != z + 1) = false := by rw [hmk]; simp
                clear hcr d3 e3 hz hy
                go_wp2
                refine ⟨⟨k + 1, by omega, by go_num, hbx⟩, ?_⟩
                simp only [intOf]
                omega
          · go_wp2_with fail
            refine (HAW.out _).mono ?_
            rintro e w9 ⟨rfl, b9⟩
            go_wp2
            go_ret
            exact ⟨rfl, (B3.out.trans (hb.out.mono B3.out.size)).trans (b9.mono (by have := B3.out.size; have := hb.out.size; omega))⟩
    · obtain ⟨c, hc2⟩ : ∃ c, chkE n es = c := ⟨_, rfl⟩
      rw [hc2] at h1 hc
      have q1 : (c != 0) = true := by rw [bne_iff_ne]; exact hc
      have H1 := Lib.hid h1
      clear h1 hc hc2
      go_enter Try.func9, Try.ntmps9
      go_wp2_with fail
      refine HGR.out.mono ?_
      rintro e w0 ⟨rfl, rfl⟩
      go_wp2_with fail
      refine H1.out.mono ?_
      rintro e w1 ⟨rfl, b1, _⟩
      go_wp2_with fail
      refine (HAW.out _).mono ?_
      rintro e w9 ⟨rfl, b9⟩
      go_wp2
      go_ret
      exact ⟨rfl, b1.trans (b9.mono b1.size)⟩
  · go_enter Try.func9, Try.ntmps9
    go_wp2_with fail
    refine HGR.out.mono ?_
    rintro e w0 ⟨rfl, rfl⟩
    go_wp2_with fail
    refine (HAW.out _).mono ?_
    rintro e w9 ⟨rfl, b9⟩
    go_wp2
    go_ret
    exact ⟨rfl, b9⟩

end Go.Proofs.Ytcggmonnajggcaa
