/-
  The statement PartialorderCovers: the walk.
-/
import Derived.Test.YtkiomcihomkgoaaPoCovMath
import Derived.Test.YtkiomcihomkgoaaPoDelete
import Derived.Test.YtkiomcihomkgoaaPoRefines
namespace Go.Proofs.Ytkiomcihomkgoaa
open Go.RowKit

/-- Clone of pairs that are known. -/
theorem cloneC_at {N : Nat} (v : Value) (L : List (Nat × Nat)) (w : World) (h : EdgesC w v L) (hl : L.length ≤ 2000) (hN : ∀ e, e ∈ L → e.1 < N ∧ e.2 < N) :
    Calls Try.prog 34 #[v] w fun e w' => ∃ u, e = .returned u ∧ OwnE w.heap.size L u w' ∧ Below w.heap.size w w' := by
  obtain ⟨a, c, rfl, hA, _, _⟩ := h
  have hok : OkE N (edgesOf L) := by
    rintro ⟨x, y⟩ he
    obtain ⟨p, q, rfl, rfl, h⟩ := mem_edgesOf.1 he
    have := hN _ h
    dsimp only at this ⊢
    omega
  have h := cloneE_any N _ a c (edgesOf L) w hok (by rw [edgesOf_length]; exact hl) hA
  rw [gN_edgesOf] at h
  exact h

/-- Delete of one pair of a copy of the pairs. -/
theorem delete_at (B i : Nat) (v : Value) (L : List (Nat × Nat)) (w : World) (hi : i < L.length) (hO : OwnE B L v w) (hB : B ≤ w.heap.size) :
    Calls Try.prog 33 #[v, .int .i64 (i : Int), .int .i64 ((i : Int) + 1)] w fun e w' => ∃ u, e = .returned u ∧ EdgesC w' u (L.take i ++ L.drop (i + 1)) ∧ Below B w w' := by
  have hO' : w.ownsRow B TE 2 v L.length (edV L) := hO
  have hv : v ≠ .slice none 0 0 := by
    rintro rfl
    rcases hO'.2 with ⟨_, e⟩ | ⟨g, cap, cur, e, _⟩
    · omega
    · cases e
  obtain ⟨g, cap, rfl⟩ := ownsRow_some hO' hv
  obtain ⟨k, hk⟩ : ∃ k, L.length = k + 1 := ⟨L.length - 1, by omega⟩
  have hg := (World.ownsRow.lt hO' g rfl).1
  rw [hk] at hO' ⊢
  refine (deleteE_any B g cap k i L w hk (by omega) hO').mono ?_
  rintro e w' ⟨rfl, ho, hgr⟩
  have hlen : (L.take i ++ L.drop (i + 1)).length = k := by rw [List.length_append, List.length_take, List.length_drop]; omega
  have ho2 : OwnE B (L.take i ++ L.drop (i + 1)) (.slice (some ⟨g, 0, none⟩) k cap) w' := by
    unfold OwnE
    rw [hlen]
    exact ho
  exact ⟨_, rfl, ho2.known, (Below.refl B w).grown hgr hB (fun t ht => by simp at ht; omega)⟩

set_option maxRecDepth 100000 in
set_option maxHeartbeats 4000000 in
theorem partialorderCovers_walk (n : Int) (a : Option Addr) (c : Nat) (es : List (Int × Int)) (w : World) (hE : EdgesA w.heap.size w a es) (hle : es.length ≤ 9223372036854775807) :
    Calls Try.prog 8 #[.int .i64 n, .slice a es.length c] w fun e w' => e = .returned (.bool true) ∧ Below w.heap.size w w' := by
  have HG := great4_any n a c es w
  cases hg : great4 n es with
  | true =>
    rw [hg] at HG
    have HG := Lib.hid HG
    have HA := Lib.hid (awake_any w)
    clear hE hg
    go_enter Try.func8, Try.ntmps8
    go_wp2_with fail
    refine HG.out.mono ?_
    rintro e w1 ⟨rfl, rfl⟩
    go_wp2_with fail
    refine HA.out.mono ?_
    rintro e w1 ⟨rfl, b1⟩
    go_wp2
    go_ret
    exact ⟨rfl, b1⟩
  | false =>
    rw [hg] at HG
    have HG := Lib.hid HG
    have HCV := myCovers n a c es w hE hle
    by_cases hp : poE n es = 0
    · obtain ⟨g1, g2, g3, g4, g5⟩ := cov_law hg hp
      obtain ⟨N, hnN, _, _, hok, _⟩ := po_ok hp
      rw [hp] at HCV
      have hCN : ∀ e, e ∈ covL n es → e.1 < N ∧ e.2 < N := by
        intro e he
        unfold covL at he
        rw [if_pos hp] at he
        have := prs_lt e he
        omega
      generalize covL n es = C at *
      have hC64 : C.length ≤ 2000 := by omega
      have HCV := Lib.hid HCV
      have HE := Lib.hid hE
      have HG5 := Lib.hid g5
      have hCl := edgesOf_length C
      clear hE g5 hnN hok
      go_enter Try.func8, Try.ntmps8
      go_wp2_with fail
      refine HG.out.mono ?_
      rintro e w1 ⟨rfl, rfl⟩
      go_wp2_with fail
      refine HCV.out.mono ?_
      rintro e w2 ⟨v2, rfl, e2, b2⟩
      have hgen := gen_at n v2 C w2 e2
      rw [g1] at hgen
      have HGN := Lib.hid hgen
      have E2 := Lib.hid e2
      have B2 := Lib.hid b2
      clear hgen e2 b2 HCV
      go_wp2_with fail
      refine HGN.out.mono ?_
      rintro e w3 ⟨v3, rfl, ⟨a3, c3, rfl, e3, l3, _⟩, b3⟩
      have B3 := Lib.hid (B2.out.trans (b3.mono B2.out.size))
      have hsm := same_any _ _ a3 a c3 c _ es w3 e3 ((HE.out.below B3.out).mono B3.out.size) l3 hle
      rw [g2, decide_eq_true rfl] at hsm
      rw [g2]
      have HSM := Lib.hid hsm
      have E3 := Lib.hid (E2.out.below b3)
      clear hsm e3 l3 b3 HGN
      go_wp2_with fail
      refine HSM.out.mono ?_
      rintro e w4 ⟨rfl, q, hq⟩
      have b4 : Below w3.heap.size w3 w4 := by rw [hq]; exact below_drewN' (Below.refl _ _)
      have B4 := Lib.hid (B3.out.trans (b4.mono B3.out.size))
      have E4 := Lib.hid (E3.out.below b4)
      have hwi := within_at' v2 _ a c es C w4 rfl ((HE.out.below B4.out).mono B4.out.size) hle E4.out
      rw [g3] at hwi
      have HWI := Lib.hid hwi
      clear hwi b4 hq HSM
      go_wp2_with fail
      refine HWI.out.mono ?_
      rintro e w5 ⟨rfl, b5⟩
      have B5 := Lib.hid (B4.out.trans (b5.mono B4.out.size))
      have E5 := Lib.hid (E4.out.below b5)
      clear b5 HWI E2 E3 E4 B2 B3 B4
      obtain ⟨ac, cc, hv2, _, _, _⟩ := E5.out
      rw [hCl] at hv2
      subst hv2
      go_wp2_with fail
      go_loopw [59] (fun x wr => ∃ k : Nat, k ≤ C.length ∧ x = .int .i64 k ∧ Hid (Below w5.heap.size w5 wr)) (fun x _ => C.length - (intOf x).toNat)
      case atStart => exact ⟨0, Nat.zero_le _, rfl, Lib.hid (Below.refl _ _)⟩
      case round =>
        obtain ⟨k, hk', rfl, HB⟩ := hrel
        by_cases hlt : k < C.length
        · have k1 : (k : Int) < (C.length : Int) := by omega
          obtain ⟨x, y, hxy⟩ : ∃ x y : Nat, C[k] = (x, y) := ⟨C[k].1, C[k].2, rfl⟩
          obtain ⟨r1, r2⟩ := HG5.out k x y (by rw [List.getElem?_eq_getElem hlt, hxy])
          have E5k := E5.out.below HB.out
          obtain ⟨b, off, rfl, hbk, p1, p2⟩ : ∃ b off, ac = some ⟨b, off, none⟩ ∧ b < wr.heap.size ∧ wr.cell? ⟨b, off + k * 2, none⟩ = some (.int .i64 (x : Int)) ∧ wr.cell? ⟨b, off + k * 2 + 1, none⟩ = some (.int .i64 (y : Int)) := by
            obtain ⟨ac', cc', e', hh, _, _⟩ := E5k
            injection e' with e1 _ _
            subst e1
            obtain ⟨b, off, e, hb, h1, h2⟩ := hh k (by rw [edgesOf_length]; exact hlt)
            have he : (edgesOf C)[k]?.getD (0, 0) = ((x : Int), (y : Int)) := by
              unfold edgesOf
              rw [List.getElem?_map, List.getElem?_eq_getElem hlt, hxy]
              rfl
            rw [he] at h1 h2
            exact ⟨b, off, e, hb, h1, h2⟩
          have hcl := cloneC_at _ C wr E5k hC64 hCN
          have HCL := Lib.hid hcl
          clear hcl hxy E5k
          go_wp2_with fail
          refine HCL.out.mono ?_
          rintro e w6 ⟨v6, rfl, o6, b6⟩
          have hdl := delete_at wr.heap.size k v6 C w6 hlt o6 b6.size
          have HDL := Lib.hid hdl
          have HB6 := Lib.hid b6
          clear hdl o6 b6 HCL
          go_wp2_with fail
          refine HDL.out.mono ?_
          rintro e w7 ⟨v7, rfl, e7, b7⟩
          have hgn := gen_at n v7 _ w7 e7
          rw [r1] at hgn
          have HGN7 := Lib.hid hgn
          have HB7 := Lib.hid (HB6.out.trans b7)
          clear hgn e7 b7 HDL HB6
          obtain ⟨GL, hGL⟩ : ∃ z, genL n (edgesOf (C.take k ++ C.drop (k + 1))) = z := ⟨_, rfl⟩
          rw [hGL] at HGN7 r2
          clear hGL
          go_wp2_with fail
          refine HGN7.out.mono ?_
          rintro e w8 ⟨v8, rfl, e8, b8⟩
          have hb8 := HB7.out.trans (b8.mono HB7.out.size)
          have t1 := (hb8.cell (p := ⟨b, off + k * 2, none⟩) hbk).trans p1
          have t2 := (hb8.cell (p := ⟨b, off + k * 2 + 1, none⟩) hbk).trans p2
          have hhs := has_at v8 GL (x : Int) (y : Int) w8.drew e8
          rw [r2] at hhs
          have HHS := Lib.hid hhs
          have HB8 := Lib.hid (HB.out.trans (hb8.mono HB.out.size))
          clear hhs e8 b8 hb8 p1 p2 HGN7 HB7
          go_wp2_with fail
          refine wp_region_held (S := fun W => W.cell? ⟨b, off + k * 2, none⟩ = some (.int .i64 (x : Int)) ∧ W.cell? ⟨b, off + k * 2 + 1, none⟩ = some (.int .i64 (y : Int))) (by kernel_rfl) ?_
          change wpAnyH _ _ _ _ _ _ _ _ w8.drew
          refine wpAnyH_read (i := 0) (v := .int .i64 0) rfl (by kernel_rfl) (by kernel_rfl) (by kernel_rfl) (fun _ _ _ h => h) (by rfl) (fun _ _ => rfl) ⟨t1, t2⟩ ?_
          simp only [Act.put, List.setIfInBounds_toArray, List.set_cons_zero, List.set_cons_succ]
          refine wpAnyH_read (i := 1) (v := .bool false) rfl (by kernel_rfl) (by kernel_rfl) (by kernel_rfl) (fun _ _ _ h => h) (by rfl) ?_ ⟨t1, t2⟩ ?_
          · rintro w' ⟨h1, h2⟩
            go_simp
          simp only [Act.put, List.setIfInBounds_toArray, List.set_cons_zero, List.set_cons_succ]
          refine wpAnyH_read (i := 2) (v := .bool false) rfl (by kernel_rfl) (by kernel_rfl) (by kernel_rfl) (fun _ _ _ h => h) (by rfl) (fun _ _ => rfl) ⟨t1, t2⟩ ?_
          simp only [Act.put, List.setIfInBounds_toArray, List.set_cons_zero, List.set_cons_succ]
          refine wpAnyH_read (i := 3) (v := v8) rfl (by kernel_rfl) (by kernel_rfl) (by kernel_rfl) (fun _ _ _ h => h) (by rfl) (fun _ _ => rfl) ⟨t1, t2⟩ ?_
          simp only [Act.put, List.setIfInBounds_toArray, List.set_cons_zero, List.set_cons_succ]
          refine wpAnyH_read (i := 4) (v := .slice (some ⟨b, off, none⟩) C.length cc) rfl (by kernel_rfl) (by kernel_rfl) (by kernel_rfl) (fun _ _ _ h => h) (by rfl) (fun _ _ => rfl) ⟨t1, t2⟩ ?_
          simp only [Act.put, List.setIfInBounds_toArray, List.set_cons_zero, List.set_cons_succ]
          refine wpAnyH_read (i := 5) (v := .int .i64 (k : Int)) rfl (by kernel_rfl) (by kernel_rfl) (by kernel_rfl) (fun _ _ _ h => h) (by rfl) (fun _ _ => rfl) ⟨t1, t2⟩ ?_
          simp only [Act.put, List.setIfInBounds_toArray, List.set_cons_zero, List.set_cons_succ]
          refine wpAnyH_read (i := 6) (v := .pointer (some ⟨b, off + k * 2, none⟩)) rfl (by kernel_rfl) (by kernel_rfl) (by kernel_rfl) (fun _ _ _ h => h) (by rfl) ?_ ⟨t1, t2⟩ ?_
          · rintro w' ⟨h1, h2⟩
            go_simp
          simp only [Act.put, List.setIfInBounds_toArray, List.set_cons_zero, List.set_cons_succ]
          refine wpAnyH_read (i := 7) (v := .pointer (some ⟨b, off + k * 2, none⟩)) rfl (by kernel_rfl) (by kernel_rfl) (by kernel_rfl) (fun _ _ _ h => h) (by rfl) ?_ ⟨t1, t2⟩ ?_
          · rintro w' ⟨h1, h2⟩
            go_simp
          simp only [Act.put, List.setIfInBounds_toArray, List.set_cons_zero, List.set_cons_succ]
          refine wpAnyH_read (i := 8) (v := .int .i64 (x : Int)) rfl (by kernel_rfl) (by kernel_rfl) (by kernel_rfl) (fun _ _ _ h => h) (by rfl) ?_ ⟨t1, t2⟩ ?_
          · rintro w' ⟨h1, h2⟩
            go_simp
          simp only [Act.put, List.setIfInBounds_toArray, List.set_cons_zero, List.set_cons_succ]
          refine wpAnyH_read (i := 9) (v := .slice (some ⟨b, off, none⟩) C.length cc) rfl (by kernel_rfl) (by kernel_rfl) (by kernel_rfl) (fun _ _ _ h => h) (by rfl) (fun _ _ => rfl) ⟨t1, t2⟩ ?_
          simp only [Act.put, List.setIfInBounds_toArray, List.set_cons_zero, List.set_cons_succ]
          refine wpAnyH_read (i := 10) (v := .int .i64 (k : Int)) rfl (by kernel_rfl) (by kernel_rfl) (by kernel_rfl) (fun _ _ _ h => h) (by rfl) (fun _ _ => rfl) ⟨t1, t2⟩ ?_
          simp only [Act.put, List.setIfInBounds_toArray, List.set_cons_zero, List.set_cons_succ]
          refine wpAnyH_read (i := 11) (v := .pointer (some ⟨b, off + k * 2, none⟩)) rfl (by kernel_rfl) (by kernel_rfl) (by kernel_rfl) (fun _ _ _ h => h) (by rfl) ?_ ⟨t1, t2⟩ ?_
          · rintro w' ⟨h1, h2⟩
            go_simp
          simp only [Act.put, List.setIfInBounds_toArray, List.set_cons_zero, List.set_cons_succ]
          refine wpAnyH_read (i := 12) (v := .pointer (some ⟨b, off + k * 2 + 1, none⟩)) rfl (by kernel_rfl) (by kernel_rfl) (by kernel_rfl) (fun _ _ _ h => h) (by rfl) ?_ ⟨t1, t2⟩ ?_
          · rintro w' ⟨h1, h2⟩
            go_simp
          simp only [Act.put, List.setIfInBounds_toArray, List.set_cons_zero, List.set_cons_succ]
          refine wpAnyH_read (i := 13) (v := .int .i64 (y : Int)) rfl (by kernel_rfl) (by kernel_rfl) (by kernel_rfl) (fun _ _ _ h => h) (by rfl) ?_ ⟨t1, t2⟩ ?_
          · rintro w' ⟨h1, h2⟩
            go_simp
          simp only [Act.put, List.setIfInBounds_toArray, List.set_cons_zero, List.set_cons_succ]
          refine wpAnyH_next (i := 14) rfl (by kernel_rfl) ?_
          go_wp2_with fail
          refine HHS.out.mono ?_
          rintro e w9 ⟨rfl, rfl⟩
          go_wp2
          refine ⟨⟨t1, t2⟩, ?_⟩
          refine wpAnyH_read (i := 15) (v := .bool false) rfl (by kernel_rfl) (by kernel_rfl) (by kernel_rfl) (fun _ _ _ h => h) (by rfl) (fun _ _ => rfl) ⟨t1, t2⟩ ?_
          simp only [Act.put, List.setIfInBounds_toArray, List.set_cons_zero, List.set_cons_succ]
          refine wpAnyH_done (by kernel_rfl) ?_ _
          go_wp2
          go_roundw
          case rel => exact ⟨k + 1, by omega, by go_num, Lib.hid HB8.out.drew⟩
          case measure => simp [intOf]; omega
        · obtain rfl : k = C.length := by omega
          have HA := Lib.hid (awake_any wr)
          go_wp2_with fail
          refine HA.out.mono ?_
          rintro e w9 ⟨rfl, b9⟩
          go_wp2
          go_ret
          exact ⟨rfl, (B5.out.trans (HB.out.mono B5.out.size)).trans (b9.mono (B5.out.trans (HB.out.mono B5.out.size)).size)⟩
    · have hpb : (poE n es != 0) = true := by simp [hp]
      have hc0 : covL n es = [] := by unfold covL; rw [if_neg hp]
      rw [hc0] at HCV
      have HCV := Lib.hid HCV
      have HE := Lib.hid hE
      clear hE hg hc0
      go_enter Try.func8, Try.ntmps8
      go_wp2_with fail
      refine HG.out.mono ?_
      rintro e w1 ⟨rfl, rfl⟩
      go_wp2_with fail
      refine HCV.out.mono ?_
      rintro e w2 ⟨v2, rfl, ⟨a2, c2, rfl, _⟩, b2⟩
      have HCK := Lib.hid (myCheck n a c es w2 ((HE.out.below b2).mono b2.size) hle)
      have B2 := Lib.hid b2
      clear b2
      simp only [edgesOf, List.map_nil, List.length_nil]
      go_wp2_with fail
      refine HCK.out.mono ?_
      rintro e w3 ⟨rfl, b3⟩
      have B3 := Lib.hid (B2.out.trans (b3.mono B2.out.size))
      have HA := Lib.hid (awake_any w3)
      clear b3
      go_wp2_with fail
      refine HA.out.mono ?_
      rintro e w4 ⟨rfl, b4⟩
      go_wp2
      go_ret
      exact ⟨rfl, B3.out.trans (b4.mono B3.out.size)⟩

end Go.Proofs.Ytkiomcihomkgoaa
