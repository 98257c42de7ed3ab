/-
  The statement PartialorderRefines: the walk.
-/
import Derived.Test.YtkiomcihomkgoaaPoClone
import Derived.Test.YtkiomcihomkgoaaPoLeast
import Derived.Test.YtkiomcihomkgoaaHeldTop
namespace Go.Proofs.Ytkiomcihomkgoaa
open Go.RowKit

/-- What a copy of the pairs and a row of one more pair are, whichever was made first. -/
def TwoR (w : World) (L : List (Nat × Nat)) (i j : Nat) (x y : Value) (W : World) : Prop := OwnE w.heap.size L x W ∧ (∃ G, y = .slice (some ⟨G, 0, none⟩) 1 1 ∧ ∀ (t : Nat) (u : Value), [Value.int .i64 (i : Int), Value.int .i64 (j : Int)][t]? = some u → W.cell? ((⟨G, 0, none⟩ : Addr).add t) = some u) ∧ Below w.heap.size w W
theorem two_first {N i j : Nat} {es : List (Int × Int)} {ad : Option Addr} {cap : Nat} {w : World} {S : World → Prop} (hok : OkE N es) (hl : es.length ≤ 2000) (hE : EdgesA w.heap.size w ad es) (hS : ∀ W, Below w.heap.size w W → S W) :
    Calls Try.prog 34 #[.slice ad es.length cap] w fun e w1 => ∃ x, e = .returned x ∧ S w1 ∧ S (w1.alloc (.cells #[.int .i64 (i : Int), .int .i64 (j : Int)] TE)) ∧ TwoR w (gN es) i j x (.slice (some ⟨w1.heap.size, 0, none⟩) 1 1) (w1.alloc (.cells #[.int .i64 (i : Int), .int .i64 (j : Int)] TE)) := by
  refine (cloneE_any N _ ad cap es w hok hl hE).mono ?_
  rintro e w1 ⟨v, rfl, ho, b1⟩
  have b2 := b1.alloc b1.size (.cells #[.int .i64 (i : Int), .int .i64 (j : Int)] TE)
  exact ⟨v, rfl, hS _ b1, hS _ b2, World.ownsRow.alloc ho _, ⟨_, rfl, newCell2 _ _ _ _⟩, b2⟩
theorem two_second {N i j : Nat} {es : List (Int × Int)} {ad : Option Addr} {cap : Nat} {w : World} {S : World → Prop} (hok : OkE N es) (hl : es.length ≤ 2000) (hE : EdgesA w.heap.size w ad es) (hS : ∀ W, Below w.heap.size w W → S W) :
    Calls Try.prog 34 #[.slice ad es.length cap] (w.alloc (.cells #[.int .i64 (i : Int), .int .i64 (j : Int)] TE)) fun e w1 => ∃ x, e = .returned x ∧ S w1 ∧ TwoR w (gN es) i j x (.slice (some ⟨w.heap.size, 0, none⟩) 1 1) w1 := by
  have b0 := (Below.refl w.heap.size w).alloc (Nat.le_refl _) (.cells #[.int .i64 (i : Int), .int .i64 (j : Int)] TE)
  refine (cloneE_any N _ ad cap es _ hok hl (hE.below b0)).mono ?_
  rintro e w1 ⟨v, rfl, ho, b1⟩
  have b2 := b0.trans (b1.mono (by simp))
  refine ⟨v, rfl, hS _ b2, ownsRow_base (by simp) ho, ⟨_, rfl, fun t u ht => ?_⟩, b2⟩
  have hc := newCell2 w (.int .i64 (i : Int)) (.int .i64 (j : Int)) TE t u ht
  have hlt : w.heap.size < (w.alloc (.cells #[.int .i64 (i : Int), .int .i64 (j : Int)] TE)).heap.size := by simp
  refine (b1.cell (p := (⟨w.heap.size, 0, none⟩ : Addr).add t) ?_).trans hc
  show ((⟨w.heap.size, 0, none⟩ : Addr).add t).block < _
  unfold Addr.add
  split <;> exact hlt

theorem has_at (v : Value) (l : List (Nat × Nat)) (x y : Int) (w : World) (h : EdgesC w v l) :
    Calls Try.prog 35 #[v, .int .i64 x, .int .i64 y] w fun e w' => e = .returned (.bool (hasE (edgesOf l) x y)) ∧ w' = w := by
  obtain ⟨a, c, rfl, hA, hl, _⟩ := h
  exact has_any _ a c _ x y w hA hl

set_option maxRecDepth 100000 in
set_option maxHeartbeats 4000000 in
theorem partialorderRefines_walk (n : Int) (a : Option Addr) (c : Nat) (es : List (Int × Int)) (w : World) (hE : EdgesA w.heap.size w a es) (hle : es.length ≤ 9223372036854775807) :
    Calls Try.prog 11 #[.int .i64 n, .slice a es.length c] w fun e w' => e = .returned (.bool true) ∧ Below w.heap.size w w' := by
  have HG := great4_any n a c es w
  cases hg : great4 n es with
  | true =>
    rw [hg] at HG
    have HG := Lib.hid HG
    have HA := Lib.hid (awake_any w)
    clear hE hg
    go_enter Try.func11, Try.ntmps11
    go_wp2_with fail
    refine HG.out.mono ?_
    rintro e w1 ⟨rfl, rfl⟩
    go_wp2_with fail
    refine HA.out.mono ?_
    rintro e w1 ⟨rfl, b1⟩
    go_wp2
    go_ret
    exact ⟨rfl, b1⟩
  | false =>
    rw [hg] at HG
    have HG := Lib.hid HG
    have HCK := myCheck n a c es w hE hle
    by_cases hp : poE n es = 0
    · obtain ⟨N, hn, hN, hk, hok, _⟩ := po_ok hp
      have hcon : conL n es = prs N (conP (relG (gN es))) := by unfold conL; rw [if_pos hp, hn, Int.toNat_natCast]
      rw [hp] at HCK
      have HCK := Lib.hid HCK
      have HE := Lib.hid hE
      have HREF : Hid (∀ i j : Nat, (i, j) ∈ conL n es → i < N ∧ j < N ∧ i ≠ j ∧ relG (gN es) i j = false ∧ relG (gN es) j i = false) := Lib.hid (by
        intro i j h
        rw [hcon] at h
        obtain ⟨h1, h2, h3⟩ := mem_prs.1 h
        unfold conP at h3
        simp at h3
        exact ⟨h1, h2, by omega, h3.1.2, h3.2⟩)
      have HGEN : Hid (∀ i j : Nat, i < N → j < N → i ≠ j → relG (gN es) j i = false → genE n (edgesOf (gN es ++ [(i, j)])) = 0 ∧ subE es (edgesOf (genL n (edgesOf (gN es ++ [(i, j)])))) = true ∧ hasE (edgesOf (genL n (edgesOf (gN es ++ [(i, j)])))) i j = true ∧ hasE (edgesOf (genL n (edgesOf (gN es ++ [(i, j)])))) j i = false) := Lib.hid (fun i j h1 h2 h3 h4 => refine_gen hg hp hn h1 h2 h3 h4)
      have HOK := Lib.hid hok
      clear hE hcon hok hn
      obtain ⟨i3, ki, kz0, kz1, kz2⟩ := info_parts infoE
      go_enter Try.func11, Try.ntmps11
      go_wp2_with fail
      refine HG.out.mono ?_
      rintro e w1 ⟨rfl, rfl⟩
      go_wp2_with fail
      refine HCK.out.mono ?_
      rintro e w2 ⟨rfl, b2⟩
      have HCON := Lib.hid (myConcurrent n a c es w2 ((HE.out.below b2).mono b2.size) hle)
      have B2 := Lib.hid b2
      clear b2
      go_wp2_with fail
      refine HCON.out.mono ?_
      rintro e w3 ⟨v3, rfl, ⟨a3, c3, rfl, e3, l3, _⟩, b3⟩
      have B3 := Lib.hid (B2.out.trans (b3.mono B2.out.size))
      have E3 := Lib.hid e3
      generalize conL n es = C at *
      have hCl := edgesOf_length C
      clear e3 b3
      go_wp2_with fail
      go_loopw [25] (fun x wr => ∃ k : Nat, k ≤ C.length ∧ x = .int .i64 k ∧ Hid (Below w3.heap.size w3 wr)) (fun x _ => C.length - (intOf x).toNat)
      case atStart => exact ⟨0, Nat.zero_le _, rfl, Lib.hid (Below.refl _ _)⟩
      case round =>
        obtain ⟨k, hk', rfl, HB⟩ := hrel
        by_cases hlt : k < C.length
        · obtain ⟨i, j, hij⟩ : ∃ i j : Nat, C[k] = (i, j) := ⟨C[k].1, C[k].2, rfl⟩
          have hmem : (i, j) ∈ C := by rw [← hij]; exact List.getElem_mem hlt
          obtain ⟨hi, hj, hne, hf1, hf2⟩ := HREF.out i j hmem
          have k1 : (k : Int) < (C.length : Int) := by omega
          obtain ⟨p1, p2⟩ : ∃ b off, a3 = some ⟨b, off, none⟩ ∧ wr.cell? ⟨b, off + k * 2, none⟩ = some (.int .i64 (i : Int)) ∧ wr.cell? ⟨b, off + k * 2 + 1, none⟩ = some (.int .i64 (j : Int)) := by
            obtain ⟨b, off, e, hb, h1, h2⟩ := E3.out k (by rw [edgesOf_length]; exact hlt)
            have he : (edgesOf C)[k]?.getD (0, 0) = ((i : Int), (j : Int)) := by
              unfold edgesOf
              rw [List.getElem?_map, List.getElem?_eq_getElem hlt, hij]
              rfl
            rw [he] at h1 h2
            exact ⟨b, off, e, (HB.out.cell (p := ⟨b, off + k * 2, none⟩) hb).trans h1, (HB.out.cell (p := ⟨b, off + k * 2 + 1, none⟩) hb).trans h2⟩
          obtain ⟨off, rfl, p1, p2⟩ := p2
          obtain ⟨g1, g2, g3, g4⟩ := HGEN.out i j hi hj hne hf2
          obtain ⟨h1, h2, h3, h4⟩ := HGEN.out j i hj hi (Ne.symm hne) hf1
          clear hij hmem
          go_wp2_with fail
          obtain ⟨w4, hw4⟩ : ∃ x, wr.alloc (.cells #[.int .i64 (i : Int), .int .i64 (j : Int)] TE) = x := ⟨_, rfl⟩
          rw [hw4]
          have b4 : Below wr.heap.size wr w4 := by rw [← hw4]; exact (Below.refl _ wr).alloc (Nat.le_refl _) _
          have t1 : w4.cell? ⟨wr.heap.size, 0, none⟩ = some (.int .i64 (i : Int)) := by rw [← hw4]; simp
          have t2 : w4.cell? ⟨wr.heap.size, 1, none⟩ = some (.int .i64 (j : Int)) := by rw [← hw4]; simp
          have hsz : wr.heap.size < w4.heap.size := by rw [← hw4]; simp
          have HB4 := Lib.hid (HB.out.trans (b4.mono HB.out.size))
          have HB0 := Lib.hid (B3.out.trans (HB4.out.mono B3.out.size))
          have E4 := (HE.out.below HB0.out).mono HB0.out.size
          have hSk : ∀ W, Below w4.heap.size w4.drew W → W.cell? ⟨wr.heap.size, 0, none⟩ = some (.int .i64 (i : Int)) ∧ W.cell? ⟨wr.heap.size, 1, none⟩ = some (.int .i64 (j : Int)) := fun W hW => ⟨(hW.cell (p := ⟨wr.heap.size, 0, none⟩) hsz).trans t1, (hW.cell (p := ⟨wr.heap.size, 1, none⟩) hsz).trans t2⟩
          have HSK := Lib.hid hSk
          have HE4 := Lib.hid E4
          clear hSk E4 hw4 b4 p1 p2
          refine wp_region_held (S := fun W => W.cell? ⟨wr.heap.size, 0, none⟩ = some (.int .i64 (i : Int)) ∧ W.cell? ⟨wr.heap.size, 1, none⟩ = some (.int .i64 (j : Int))) (by kernel_rfl) ?_
          change wpAnyH _ _ _ _ _ _ _ _ w4.drew
          refine wpAnyH_read (i := 0) (v := .int .i64 n) rfl (by kernel_rfl) (by kernel_rfl) (by kernel_rfl) (fun _ _ _ h => h) (by rfl) (fun _ _ => rfl) ⟨t1, t2⟩ ?_
          simp only [Act.put, List.setIfInBounds_toArray, List.set_cons_zero, List.set_cons_succ]
          refine wpAnyH_read (i := 1) (v := .slice a es.length c) rfl (by kernel_rfl) (by kernel_rfl) (by kernel_rfl) (fun _ _ _ h => h) (by rfl) (fun _ _ => rfl) ⟨t1, t2⟩ ?_
          simp only [Act.put, List.setIfInBounds_toArray, List.set_cons_zero, List.set_cons_succ]
          refine wpAnyH_read (i := 3) (v := .agg #[.int .i64 (i : Int), .int .i64 (j : Int)]) rfl (by kernel_rfl) (by kernel_rfl) (by kernel_rfl) (fun _ _ _ h => h) (by rfl) ?_ ⟨t1, t2⟩ ?_
          · rintro w' ⟨h1, h2⟩
            go_simp
          simp only [Act.put, List.setIfInBounds_toArray, List.set_cons_zero, List.set_cons_succ]
          refine wpAnyH_two (i := 2) (j := 4) (f := 34) (args := #[.slice a es.length c]) (ob := .cells #[.int .i64 (i : Int), .int .i64 (j : Int)] TE) (m := 1) (R := TwoR w4.drew (gN es) i j) rfl rfl (by kernel_rfl) (by kernel_rfl) (by kernel_rfl) (by rfl) (fun _ => by rfl) (by rfl) (fun _ => by rfl) ?ei ?ei' ?ej ?ej' (fun _ _ => rfl) (HSK.out _ ((Below.refl _ w4.drew).alloc (Nat.le_refl _) _)) (two_first HOK.out hk HE4.out HSK.out) (two_second HOK.out hk HE4.out HSK.out) ?_
          case ei => intro w'; go_simp
          case ei' =>
            intro y w'
            simp only [Act.put, List.setIfInBounds_toArray, List.set_cons_zero, List.set_cons_succ]
            go_simp
          case ej => go_simp
          case ej' =>
            intro y w' hw'
            simp only [Act.put, List.setIfInBounds_toArray, List.set_cons_zero, List.set_cons_succ]
            go_simp
          simp only [Act.put, List.setIfInBounds_toArray, List.set_cons_zero, List.set_cons_succ]
          rintro x y w5 ⟨s1, s2⟩ ⟨ho5, ⟨G, rfl, hc5⟩, b5⟩
          have hL : (gN es).length = es.length := gN_length es
          have hg5 := b5.size
          have HO5 := Lib.hid ho5
          have HC5 := Lib.hid hc5
          clear ho5 hc5
          refine wpAnyH_next (i := 5) rfl (by kernel_rfl) ?_
          go_wp2_with (at_builtin; refine wpList_append_own _ rfl _ _ 22 rfl w4.drew.heap.size TE i3 (.agg #[.int .i64 0, .int .i64 0]) 2 16 Try.underlying22 ki kz0 kz1 kz2 rfl (by decide) _ (gN es).length (edV (gN es)) rfl HO5.out ⟨G, 0, none⟩ 1 1 [.int .i64 (i : Int), .int .i64 (j : Int)] rfl rfl HC5.out (two_one _ _) ?qc4 ?qc5 hg5 ?_)
          case qc4 => unfold maxLen; omega
          case qc5 => omega
          intro v6 w6 hown6 hgrow6 hnil6
          have b6 := b5.grown hgrow6 hg5 (fun t ht => (World.ownsRow.lt HO5.out t ht).1)
          have o6 : OwnE w4.drew.heap.size (gN es ++ [(i, j)]) v6 w6 := by
            unfold OwnE
            rw [edV_snoc, List.length_append, hL]
            exact hown6
          have hgen6 := gen_at n v6 _ w6 o6.known
          rw [g1] at hgen6
          have HGEN6 := Lib.hid hgen6
          have B6 := Lib.hid b6
          have s6 := HSK.out _ b6
          clear hgen6 hown6 hgrow6 hnil6 o6 HO5 HC5 b5 hg5 b6
          obtain ⟨GA, hGA⟩ : ∃ x, genL n (edgesOf (gN es ++ [(i, j)])) = x := ⟨_, rfl⟩
          rw [hGA] at HGEN6 g2 g3 g4
          clear hGA
          go_wp2
          refine ⟨s6, ?_⟩
          refine wpAnyH_next (i := 6) rfl (by kernel_rfl) ?_
          go_wp2_with fail
          refine HGEN6.out.mono ?_
          rintro e w7 ⟨v7, rfl, e7, b7⟩
          have b7' := B6.out.trans (b7.mono B6.out.size)
          have s7 := HSK.out _ b7'
          have B7 := Lib.hid b7'
          have E7 := Lib.hid e7
          clear b7 b7' e7 HGEN6 B6 s6
          go_wp2
          refine ⟨s7, ?_⟩
          refine wpAnyH_read (i := 7) (v := .tuple #[v7, .int .i64 0]) rfl (by kernel_rfl) (by kernel_rfl) (by kernel_rfl) (fun _ _ _ h => h) (by rfl) (fun _ _ => rfl) s7 ?_
          simp only [Act.put, List.setIfInBounds_toArray, List.set_cons_zero, List.set_cons_succ]
          refine wpAnyH_read (i := 8) (v := v7) rfl (by kernel_rfl) (by kernel_rfl) (by kernel_rfl) (fun _ _ _ h => h) (by rfl) (fun _ _ => rfl) s7 ?_
          simp only [Act.put, List.setIfInBounds_toArray, List.set_cons_zero, List.set_cons_succ]
          refine wpAnyH_read (i := 9) (v := .int .i64 0) rfl (by kernel_rfl) (by kernel_rfl) (by kernel_rfl) (fun _ _ _ h => h) (by rfl) (fun _ _ => rfl) s7 ?_
          simp only [Act.put, List.setIfInBounds_toArray, List.set_cons_zero, List.set_cons_succ]
          refine wpAnyH_read (i := 10) (v := v7) rfl (by kernel_rfl) (by kernel_rfl) (by kernel_rfl) (fun _ _ _ h => h) (by rfl) (fun _ _ => rfl) s7 ?_
          simp only [Act.put, List.setIfInBounds_toArray, List.set_cons_zero, List.set_cons_succ]
          refine wpAnyH_read (i := 11) (v := .int .i64 0) rfl (by kernel_rfl) (by kernel_rfl) (by kernel_rfl) (fun _ _ _ h => h) (by rfl) (fun _ _ => rfl) s7 ?_
          simp only [Act.put, List.setIfInBounds_toArray, List.set_cons_zero, List.set_cons_succ]
          refine wpAnyH_done (by kernel_rfl) ?_ _
          have hsz7 : wr.heap.size < w7.heap.size := by have := B7.out.size; have h0 : w4.drew.heap.size = w4.heap.size := rfl; omega
          obtain ⟨t1, t2⟩ := s7
          have HC0 : Hid (Below w3.heap.size w3 w7) := Lib.hid (HB4.out.trans ((show Below w4.heap.size w4 w7 from ((Below.refl _ w4).drew).trans B7.out).mono HB4.out.size))
          have HC7 := Lib.hid (B3.out.trans (HC0.out.mono B3.out.size))
          have HE7 := Lib.hid ((HE.out.below HC7.out).mono HC7.out.size)
          have hSk7 : ∀ W, Below w7.heap.size w7.drew W → W.cell? ⟨wr.heap.size, 0, none⟩ = some (.int .i64 (i : Int)) ∧ W.cell? ⟨wr.heap.size, 1, none⟩ = some (.int .i64 (j : Int)) := fun W hW => ⟨(hW.cell (p := ⟨wr.heap.size, 0, none⟩) hsz7).trans t1, (hW.cell (p := ⟨wr.heap.size, 1, none⟩) hsz7).trans t2⟩
          have HSK7 := Lib.hid hSk7
          clear hSk7 HSK HE4 HB0 HB4 B7
          go_wp2_with fail
          refine wp_region_held (S := fun W => W.cell? ⟨wr.heap.size, 0, none⟩ = some (.int .i64 (i : Int)) ∧ W.cell? ⟨wr.heap.size, 1, none⟩ = some (.int .i64 (j : Int))) (by kernel_rfl) ?_
          change wpAnyH _ _ _ _ _ _ _ _ w7.drew
          refine wpAnyH_read (i := 0) (v := .int .i64 n) rfl (by kernel_rfl) (by kernel_rfl) (by kernel_rfl) (fun _ _ _ h => h) (by rfl) (fun _ _ => rfl) ⟨t1, t2⟩ ?_
          simp only [Act.put, List.setIfInBounds_toArray, List.set_cons_zero, List.set_cons_succ]
          refine wpAnyH_read (i := 1) (v := .slice a es.length c) rfl (by kernel_rfl) (by kernel_rfl) (by kernel_rfl) (fun _ _ _ h => h) (by rfl) (fun _ _ => rfl) ⟨t1, t2⟩ ?_
          simp only [Act.put, List.setIfInBounds_toArray, List.set_cons_zero, List.set_cons_succ]
          refine wpAnyH_read (i := 3) (v := .pointer (some ⟨wr.heap.size, 1, none⟩)) rfl (by kernel_rfl) (by kernel_rfl) (by kernel_rfl) (fun _ _ _ h => h) (by rfl) ?_ ⟨t1, t2⟩ ?_
          · rintro w' ⟨h1, h2⟩
            go_simp
          simp only [Act.put, List.setIfInBounds_toArray, List.set_cons_zero, List.set_cons_succ]
          refine wpAnyH_read (i := 4) (v := .int .i64 (j : Int)) rfl (by kernel_rfl) (by kernel_rfl) (by kernel_rfl) (fun _ _ _ h => h) (by rfl) ?_ ⟨t1, t2⟩ ?_
          · rintro w' ⟨h1, h2⟩
            go_simp
          simp only [Act.put, List.setIfInBounds_toArray, List.set_cons_zero, List.set_cons_succ]
          refine wpAnyH_read (i := 5) (v := .pointer (some ⟨wr.heap.size, 0, none⟩)) rfl (by kernel_rfl) (by kernel_rfl) (by kernel_rfl) (fun _ _ _ h => h) (by rfl) ?_ ⟨t1, t2⟩ ?_
          · rintro w' ⟨h1, h2⟩
            go_simp
          simp only [Act.put, List.setIfInBounds_toArray, List.set_cons_zero, List.set_cons_succ]
          refine wpAnyH_read (i := 6) (v := .int .i64 (i : Int)) rfl (by kernel_rfl) (by kernel_rfl) (by kernel_rfl) (fun _ _ _ h => h) (by rfl) ?_ ⟨t1, t2⟩ ?_
          · rintro w' ⟨h1, h2⟩
            go_simp
          simp only [Act.put, List.setIfInBounds_toArray, List.set_cons_zero, List.set_cons_succ]
          refine wpAnyH_read (i := 7) (v := .agg #[.int .i64 (j : Int), .int .i64 (i : Int)]) rfl (by kernel_rfl) (by kernel_rfl) (by kernel_rfl) (fun _ _ _ h => h) (by rfl) ?_ ⟨t1, t2⟩ ?_
          · rintro w' ⟨h1, h2⟩
            go_simp
          simp only [Act.put, List.setIfInBounds_toArray, List.set_cons_zero, List.set_cons_succ]
          refine wpAnyH_two (i := 2) (j := 8) (f := 34) (args := #[.slice a es.length c]) (ob := .cells #[.int .i64 (j : Int), .int .i64 (i : Int)] TE) (m := 1) (R := TwoR w7.drew (gN es) j i) rfl rfl (by kernel_rfl) (by kernel_rfl) (by kernel_rfl) (by rfl) (fun _ => by rfl) (by rfl) (fun _ => by rfl) ?ei ?ei' ?ej ?ej' (fun _ _ => rfl) (HSK7.out _ ((Below.refl _ w7.drew).alloc (Nat.le_refl _) _)) (two_first HOK.out hk HE7.out HSK7.out) (two_second HOK.out hk HE7.out HSK7.out) ?_
          case ei => intro w'; go_simp
          case ei' =>
            intro y w'
            simp only [Act.put, List.setIfInBounds_toArray, List.set_cons_zero, List.set_cons_succ]
            go_simp
          case ej => go_simp
          case ej' =>
            intro y w' hw'
            simp only [Act.put, List.setIfInBounds_toArray, List.set_cons_zero, List.set_cons_succ]
            go_simp
          simp only [Act.put, List.setIfInBounds_toArray, List.set_cons_zero, List.set_cons_succ]
          rintro x9 y9 w8 ⟨s1', s2'⟩ ⟨ho8, ⟨G8, rfl, hc8⟩, b8⟩
          have hg8 := b8.size
          have HO8 := Lib.hid ho8
          have HC8 := Lib.hid hc8
          clear ho8 hc8
          refine wpAnyH_next (i := 9) rfl (by kernel_rfl) ?_
          go_wp2_with (at_builtin; refine wpList_append_own _ rfl _ _ 22 rfl w7.drew.heap.size TE i3 (.agg #[.int .i64 0, .int .i64 0]) 2 16 Try.underlying22 ki kz0 kz1 kz2 rfl (by decide) _ (gN es).length (edV (gN es)) rfl HO8.out ⟨G8, 0, none⟩ 1 1 [.int .i64 (j : Int), .int .i64 (i : Int)] rfl rfl HC8.out (two_one _ _) ?qc4 ?qc5 hg8 ?_)
          case qc4 => unfold maxLen; omega
          case qc5 => omega
          intro v9 w9 hown9 hgrow9 hnil9
          have b9 := b8.grown hgrow9 hg8 (fun t ht => (World.ownsRow.lt HO8.out t ht).1)
          have o9 : OwnE w7.drew.heap.size (gN es ++ [(j, i)]) v9 w9 := by
            unfold OwnE
            rw [edV_snoc, List.length_append, hL]
            exact hown9
          have hgen9 := gen_at n v9 _ w9 o9.known
          rw [h1] at hgen9
          have HGEN9 := Lib.hid hgen9
          have B9 := Lib.hid b9
          have s9 := HSK7.out _ b9
          clear hgen9 hown9 hgrow9 hnil9 o9 HO8 HC8 b8 hg8 b9
          obtain ⟨GB, hGB⟩ : ∃ x, genL n (edgesOf (gN es ++ [(j, i)])) = x := ⟨_, rfl⟩
          rw [hGB] at HGEN9 h2 h3 h4
          clear hGB
          go_wp2
          refine ⟨s9, ?_⟩
          refine wpAnyH_next (i := 10) rfl (by kernel_rfl) ?_
          go_wp2_with fail
          refine HGEN9.out.mono ?_
          rintro e w10 ⟨v10, rfl, e10, b10⟩
          have b10' := B9.out.trans (b10.mono B9.out.size)
          have s10 := HSK7.out _ b10'
          have B10 := Lib.hid b10'
          have E10 := Lib.hid e10
          clear b10 b10' e10 HGEN9 B9 s9
          go_wp2
          refine ⟨s10, ?_⟩
          refine wpAnyH_read (i := 11) (v := .tuple #[v10, .int .i64 0]) rfl (by kernel_rfl) (by kernel_rfl) (by kernel_rfl) (fun _ _ _ h => h) (by rfl) (fun _ _ => rfl) s10 ?_
          simp only [Act.put, List.setIfInBounds_toArray, List.set_cons_zero, List.set_cons_succ]
          refine wpAnyH_read (i := 12) (v := v10) rfl (by kernel_rfl) (by kernel_rfl) (by kernel_rfl) (fun _ _ _ h => h) (by rfl) (fun _ _ => rfl) s10 ?_
          simp only [Act.put, List.setIfInBounds_toArray, List.set_cons_zero, List.set_cons_succ]
          refine wpAnyH_read (i := 13) (v := .int .i64 0) rfl (by kernel_rfl) (by kernel_rfl) (by kernel_rfl) (fun _ _ _ h => h) (by rfl) (fun _ _ => rfl) s10 ?_
          simp only [Act.put, List.setIfInBounds_toArray, List.set_cons_zero, List.set_cons_succ]
          refine wpAnyH_read (i := 14) (v := v10) rfl (by kernel_rfl) (by kernel_rfl) (by kernel_rfl) (fun _ _ _ h => h) (by rfl) (fun _ _ => rfl) s10 ?_
          simp only [Act.put, List.setIfInBounds_toArray, List.set_cons_zero, List.set_cons_succ]
          refine wpAnyH_read (i := 15) (v := .int .i64 0) rfl (by kernel_rfl) (by kernel_rfl) (by kernel_rfl) (fun _ _ _ h => h) (by rfl) (fun _ _ => rfl) s10 ?_
          simp only [Act.put, List.setIfInBounds_toArray, List.set_cons_zero, List.set_cons_succ]
          refine wpAnyH_done (by kernel_rfl) ?_ _
          have D10 : Hid (Below w7.heap.size w7 w10) := Lib.hid (((Below.refl _ w7).drew).trans B10.out)
          have HD0 : Hid (Below w3.heap.size w3 w10) := Lib.hid (HC0.out.trans (D10.out.mono HC0.out.size))
          have HD := Lib.hid (B3.out.trans (HD0.out.mono B3.out.size))
          have E7b := Lib.hid (E7.out.below D10.out)
          have hsz10 : wr.heap.size < w10.heap.size := by have := D10.out.size; omega
          have hwi := within_at _ v7 a c es GA w10 rfl ((HE.out.below HD.out).mono HD.out.size) hle E7b.out
          rw [g2] at hwi
          have HWI := Lib.hid hwi
          clear hwi t1 t2 HSK7 HE7 HC7 HC0 E7 D10 B10
          go_wp2_with fail
          refine HWI.out.mono ?_
          rintro e w11 ⟨rfl, b11⟩
          have e7c := E7b.out.below b11
          have e10c := E10.out.below b11
          have HF := Lib.hid (HD.out.trans (b11.mono HD.out.size))
          have HF0 := Lib.hid (HD0.out.trans (b11.mono HD0.out.size))
          have t1 := (b11.cell (p := ⟨wr.heap.size, 0, none⟩) hsz10).trans s10.1
          have t2 := (b11.cell (p := ⟨wr.heap.size, 1, none⟩) hsz10).trans s10.2
          have hsz11 : wr.heap.size < w11.heap.size := by have := b11.size; omega
          have hwi := within_at _ v10 a c es GB w11 rfl ((HE.out.below HF.out).mono HF.out.size) hle e10c
          rw [h2] at hwi
          have HWJ := Lib.hid hwi
          have E7d := Lib.hid e7c
          have E10d := Lib.hid e10c
          clear hwi b11 s10 E7b E10 HD HD0 HWI e7c e10c
          go_wp2_with fail
          refine HWJ.out.mono ?_
          rintro e w12 ⟨rfl, b12⟩
          have HK0 := Lib.hid (HF0.out.trans (b12.mono HF0.out.size))
          have u1 := (b12.cell (p := ⟨wr.heap.size, 0, none⟩) hsz11).trans t1
          have u2 := (b12.cell (p := ⟨wr.heap.size, 1, none⟩) hsz11).trans t2
          have hha := has_at v7 GA (i : Int) (j : Int) w12 (E7d.out.below b12)
          rw [g3] at hha
          have hhb := has_at v10 GB (i : Int) (j : Int) w12 (E10d.out.below b12)
          rw [h4] at hhb
          have HHA := Lib.hid hha
          have HHB := Lib.hid hhb
          clear hha hhb t1 t2 b12
          go_wp2_with fail
          refine HHA.out.mono ?_
          rintro e w13 ⟨rfl, rfl⟩
          go_wp2_with fail
          refine HHB.out.mono ?_
          rintro e w13 ⟨rfl, rfl⟩
          go_wp2
          go_roundw
          case rel => exact ⟨k + 1, by omega, by go_num, HK0⟩
          case measure => simp [intOf]; omega
        · obtain rfl : k = C.length := by omega
          have HA := Lib.hid (awake_any wr)
          go_wp2_with fail
          refine HA.out.mono ?_
          rintro e w9 ⟨rfl, b9⟩
          go_wp2
          go_ret
          exact ⟨rfl, (B3.out.trans (HB.out.mono B3.out.size)).trans (b9.mono (B3.out.trans (HB.out.mono B3.out.size)).size)⟩
    · have hpb : (poE n es != 0) = true := by simp [hp]
      have HCK := Lib.hid HCK
      clear hE hg hp
      go_enter Try.func11, Try.ntmps11
      go_wp2_with fail
      refine HG.out.mono ?_
      rintro e w1 ⟨rfl, rfl⟩
      go_wp2_with fail
      refine HCK.out.mono ?_
      rintro e w2 ⟨rfl, b2⟩
      have HA := Lib.hid (awake_any w2)
      go_wp2_with fail
      refine HA.out.mono ?_
      rintro e w3 ⟨rfl, b3⟩
      go_wp2
      go_ret
      exact ⟨rfl, b2.trans (b3.mono b2.size)⟩

end Go.Proofs.Ytkiomcihomkgoaa
