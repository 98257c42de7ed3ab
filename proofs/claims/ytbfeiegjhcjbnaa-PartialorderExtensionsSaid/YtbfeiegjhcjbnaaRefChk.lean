/-
  What the reference's Check of partialorder returns.
-/
import Derived.Test.YtbfeiegjhcjbnaaPoTab
import Derived.Test.YtbfeiegjhcjbnaaPoCovMath
namespace Go.Proofs.Ytbfeiegjhcjbnaa
open Go.RowKit

theorem prs_count (N : Nat) (f : Nat → Nat → Bool) : (prs N f).length = (List.range (N * N)).countP fun x => f (x / N) (x % N) := by
  unfold prs prsK
  rw [List.length_map, List.countP_eq_length_filter]
/-- A relation is transitive just when its closure has as many pairs. -/
theorem trs_count {N : Nat} {f : Nat → Nat → Bool} (hL : Low2 N f) : trsB N f = true ↔ (prs N (war f N)).length = (prs N f).length := by
  rw [trsB_iff hL]
  constructor
  · intro ht
    rw [war_same ht]
  · intro h
    have heq : war f N = f := by
      funext a b
      cases e : f a b with
      | true => exact war_sub f N a b e
      | false =>
        cases e2 : war f N a b with
        | false => rfl
        | true =>
          obtain ⟨ha, hb⟩ := hL.war N a b e2
          have hlt := countP_lt (p := fun x => f (x / N) (x % N)) (q := fun x => war f N (x / N) (x % N)) (y := a * N + b) (List.range (N * N)) (fun x hx => war_sub f N _ _ hx) (by simpa using flat_lt ha hb) (by rw [(divmod hb).1, (divmod hb).2]; exact e2) (by rw [(divmod hb).1, (divmod hb).2]; exact e)
          rw [prs_count, prs_count] at h
          omega
    have := war_trans hL
    rwa [heq] at this

set_option maxRecDepth 100000 in
set_option maxHeartbeats 8000000 in
theorem refCheck_any (n : Int) (ad : Option Addr) (cap : Nat) (es : List (Int × Int)) (w : World) (hE : EdgesA w.heap.size w ad es) (hl : es.length ≤ 9223372036854775807) :
    Calls Try.prog 15 #[.int .i64 n, .slice ad es.length cap] w fun e w' => e = .returned (.int .i64 (poE n es)) ∧ Below w.heap.size w w' := by
  by_cases hn : n < 0
  · have HC : Hid (poE n es = 2) := Lib.hid (by
      have h : chkE n es = 2 := by unfold chkE; rw [if_pos (.inl hn)]
      exact poE_of_chk h (by omega))
    clear hE
    go_enter Try.func15, Try.ntmps15
    go_wp2
    go_ret
    rw [HC.out]
    exact ⟨rfl, Below.refl _ _⟩
  · by_cases hn2 : 200 < n
    · have HC : Hid (poE n es = 2) := Lib.hid (by
        have h : chkE n es = 2 := by unfold chkE; rw [if_pos (.inr hn2)]
        exact poE_of_chk h (by omega))
      clear hE
      go_enter Try.func15, Try.ntmps15
      go_wp2
      go_ret
      rw [HC.out]
      exact ⟨rfl, Below.refl _ _⟩
    · by_cases hl2 : 2000 < es.length
      · have HC : Hid (poE n es = 4) := Lib.hid (by
          have h : chkE n es = 4 := by unfold chkE; rw [if_neg (by omega), if_pos hl2]
          exact poE_of_chk h (by omega))
        have hd2 : (2000 : Int) < (es.length : Int) := by omega
        clear hE
        go_enter Try.func15, Try.ntmps15
        go_wp2
        go_ret
        rw [HC.out]
        exact ⟨rfl, Below.refl _ _⟩
      · obtain ⟨N, rfl⟩ : ∃ N : Nat, n = (N : Int) := ⟨n.toNat, by omega⟩
        have hN : N ≤ 200 := by omega
        have hC : chkE (N : Int) es = chkL (N : Int) none es := by unfold chkE; rw [if_neg (by omega), if_neg hl2]
        have HE := Lib.hid hE
        have hd2 : ¬ (2000 : Int) < (es.length : Int) := by omega
        have hlo : ¬ (200 : Int) < (N : Int) := by omega
        have HBAD : Hid (∀ c : Int, c ≠ 0 → chkL (N : Int) none es = c → poE (N : Int) es = c) := Lib.hid (fun c h0 h => poE_of_chk (hC.trans h) h0)
        have HEND : Hid (chkL (N : Int) none es = 0 → OkE N es ∧ poE (N : Int) es = if loopK (relG (gN es)) N then 21 else if (prs N (war (relG (gN es)) N)).length = es.length then 0 else 10) := Lib.hid (fun h => by
          have hc := hC.trans h
          obtain ⟨N', e, _, _, hok⟩ := chk_ok hc
          obtain rfl : N = N' := by omega
          refine ⟨hok, ?_⟩
          have hself := prs_self (gN_lt hok) (chk_srt hc)
          have hlen : es.length = (prs N (relG (gN es))).length := by rw [hself, gN_length]
          unfold poE
          rw [if_pos hc, Int.toNat_natCast, hlen]
          have := trs_count (gN_low hok)
          by_cases ht : trsB N (relG (gN es)) = true
          · rw [if_pos ht, if_pos (this.1 ht)]
          · rw [if_neg ht, if_neg (fun e => ht (this.2 e))])
        have H0 : Hid (chkL (N : Int) none es = chkL (N : Int) (prevE es 0) (es.drop 0)) := Lib.hid rfl
        generalize poE (N : Int) es = R at *
        clear hE hC
        go_enter Try.func15, Try.ntmps15
        go_wp2
        go_loopw [5] (fun x wr => ∃ k : Nat, k ≤ es.length ∧ x = .int .i64 k ∧ Hid (chkL (N : Int) none es = chkL (N : Int) (prevE es k) (es.drop k)) ∧ Hid (Below w.heap.size w wr)) (fun x _ => es.length - (intOf x).toNat)
        case atStart => exact ⟨0, Nat.zero_le _, rfl, H0, Lib.hid (Below.refl _ _)⟩
        case round =>
          obtain ⟨k, hk', rfl, HI, HB⟩ := hrel
          by_cases hlt : k < es.length
          · have k1 : (k : Int) < (es.length : Int) := by omega
            obtain ⟨b, off, rfl, hb, hc⟩ := HE.out.some_ (by omega)
            obtain ⟨c1, c2⟩ := hc k hlt
            have p1 := (HB.out.cell (p := ⟨b, off + k * 2, none⟩) hb).trans c1
            have p2 := (HB.out.cell (p := ⟨b, off + k * 2 + 1, none⟩) hb).trans c2
            obtain ⟨⟨u, v⟩, hx⟩ : ∃ e, es[k]?.getD (0, 0) = e := ⟨_, rfl⟩
            rw [hx] at p1 p2
            simp only [] at p1 p2
            have HIN := inside_any (N : Int) u v wr
            by_cases hbad : badE (N : Int) (u, v)
            · rw [decide_eq_true hbad] at HIN
              have HIN := Lib.hid HIN
              obtain rfl : R = 2 := HBAD.out 2 (by omega) (chk_bad hlt hx hbad HI.out)
              clear hc c1 c2 hx hbad
              go_wp2_with fail
              refine HIN.out.mono ?_
              rintro e w1 ⟨rfl, b1⟩
              go_wp2
              go_ret
              exact ⟨rfl, HB.out.trans (b1.mono HB.out.size)⟩
            · rw [decide_eq_false hbad] at HIN
              have HIN := Lib.hid HIN
              by_cases h0 : k = 0
              · subst h0
                rw [Nat.zero_mul, Nat.add_zero] at p1 p2
                have HI' : Hid (chkL (N : Int) none es = chkL (N : Int) (prevE es (0 + 1)) (es.drop (0 + 1))) := Lib.hid (chk_next hlt hx hbad (fun h => absurd rfl h) HI.out)
                clear hc c1 c2 hx hbad
                go_wp2_with fail
                refine HIN.out.mono ?_
                rintro e w1 ⟨rfl, b1⟩
                have HB1 := Lib.hid (HB.out.trans (b1.mono HB.out.size))
                clear b1
                go_wp2_with fail
                go_quiet (fail)
                go_wp2
                go_roundw
                case rel => exact ⟨0 + 1, by omega, by go_num, HI', Lib.hid (below_drewN' HB1.out)⟩
                case measure => simp [intOf]; omega
              · obtain ⟨m, rfl⟩ : ∃ m, k = m + 1 := ⟨k - 1, by omega⟩
                have hwm : IntKind.i64.wrap (m : Int) = (m : Int) := by rw [IntKind.wrap_i64]; omega
                have m1 : ¬ es.length ≤ m := by omega
                have m2 : ¬ (m : Int) + 1 < 0 := by omega
                have m3 : (m : Int) < (es.length : Int) := by omega
                obtain ⟨d1, d2⟩ := hc m (by omega)
                have r1 := (HB.out.cell (p := ⟨b, off + m * 2, none⟩) hb).trans d1
                have r2 := (HB.out.cell (p := ⟨b, off + m * 2 + 1, none⟩) hb).trans d2
                obtain ⟨⟨u2, v2⟩, hp⟩ : ∃ e, es[m]?.getD (0, 0) = e := ⟨_, rfl⟩
                rw [hp] at r1 r2
                simp only [] at r1 r2
                have hlow : Hid (lowE (u2, v2) (u, v) → chkL (N : Int) none es = 9) := Lib.hid (fun h => chk_low hlt hx hbad (by omega) (by rw [Nat.add_sub_cancel]; exact hp) h HI.out)
                have hnext : Hid (¬ lowE (u2, v2) (u, v) → chkL (N : Int) none es = chkL (N : Int) (prevE es (m + 1 + 1)) (es.drop (m + 1 + 1))) := Lib.hid (fun h => chk_next hlt hx hbad (fun _ => by rw [Nat.add_sub_cancel, hp]; exact h) HI.out)
                clear hc c1 c2 d1 d2 hx hbad hp
                go_wp2_with fail
                refine HIN.out.mono ?_
                rintro e w1 ⟨rfl, b1⟩
                have HB1 := Lib.hid (HB.out.trans (b1.mono HB.out.size))
                have hbw : b < w1.heap.size := by have := HB1.out.size; omega
                have hbr : b < wr.heap.size := by have := HB.out.size; omega
                have q1 := (b1.cell (p := ⟨b, _, none⟩) hbr).trans p1
                have q2 := (b1.cell (p := ⟨b, _, none⟩) hbr).trans p2
                have q3 := (b1.cell (p := ⟨b, _, none⟩) hbr).trans r1
                have q4 := (b1.cell (p := ⟨b, _, none⟩) hbr).trans r2
                have HLE0 := less_any u2 v2 u v w1.drew
                clear b1 p1 p2 r1 r2
                obtain ⟨p1, p2, r1, r2⟩ := (⟨q3, q4, q1, q2⟩ : _ ∧ _ ∧ _ ∧ _)
                clear q1 q2 q3 q4
                go_wp2_with fail
                refine wp_region_held (S := fun W => W.cell? ⟨b, off + m * 2, none⟩ = some (.int .i64 u2) ∧ W.cell? ⟨b, off + m * 2 + 1, none⟩ = some (.int .i64 v2) ∧ W.cell? ⟨b, off + (m + 1) * 2, none⟩ = some (.int .i64 u) ∧ W.cell? ⟨b, off + (m + 1) * 2 + 1, none⟩ = some (.int .i64 v)) (by kernel_rfl) ?_
                change wpAnyH _ _ _ _ _ _ _ _ w1.drew
                refine wpAnyH_read (i := 0) (v := .int .i64 ((m + 1 : Nat) : Int)) rfl (by kernel_rfl) (by kernel_rfl) (by kernel_rfl) (fun _ _ _ h => h) (by rfl) (fun _ _ => rfl) ⟨p1, p2, r1, r2⟩ ?_
                simp only [Act.put, List.setIfInBounds_toArray, List.set_cons_zero, List.set_cons_succ]
                refine wpAnyH_read (i := 1) (v := .bool true) rfl (by kernel_rfl) (by kernel_rfl) (by kernel_rfl) (fun _ _ _ h => h) (by rfl) ?_ ⟨p1, p2, r1, r2⟩ ?_
                · rintro w' ⟨h1, h2, h3, h4⟩
                  go_simp
                simp only [Act.put, List.setIfInBounds_toArray, List.set_cons_zero, List.set_cons_succ]
                refine wpAnyH_read (i := 2) (v := .bool true) rfl (by kernel_rfl) (by kernel_rfl) (by kernel_rfl) (fun _ _ _ h => h) (by rfl) (fun _ _ => rfl) ⟨p1, p2, r1, r2⟩ ?_
                simp only [Act.put, List.setIfInBounds_toArray, List.set_cons_zero, List.set_cons_succ]
                refine wpAnyH_read (i := 3) (v := .slice (some ⟨b, off, none⟩) es.length cap) rfl (by kernel_rfl) (by kernel_rfl) (by kernel_rfl) (fun _ _ _ h => h) (by rfl) (fun _ _ => rfl) ⟨p1, p2, r1, r2⟩ ?_
                simp only [Act.put, List.setIfInBounds_toArray, List.set_cons_zero, List.set_cons_succ]
                refine wpAnyH_read (i := 4) (v := .int .i64 ((m + 1 : Nat) : Int)) rfl (by kernel_rfl) (by kernel_rfl) (by kernel_rfl) (fun _ _ _ h => h) (by rfl) (fun _ _ => rfl) ⟨p1, p2, r1, r2⟩ ?_
                simp only [Act.put, List.setIfInBounds_toArray, List.set_cons_zero, List.set_cons_succ]
                refine wpAnyH_read (i := 5) (v := .int .i64 (m : Int)) rfl (by kernel_rfl) (by kernel_rfl) (by kernel_rfl) (fun _ _ _ h => h) (by rfl) ?_ ⟨p1, p2, r1, r2⟩ ?_
                · rintro w' ⟨h1, h2, h3, h4⟩
                  go_simp
                simp only [Act.put, List.setIfInBounds_toArray, List.set_cons_zero, List.set_cons_succ]
                refine wpAnyH_read (i := 6) (v := .pointer (some ⟨b, off + m * 2, none⟩)) rfl (by kernel_rfl) (by kernel_rfl) (by kernel_rfl) (fun _ _ _ h => h) (by rfl) ?_ ⟨p1, p2, r1, r2⟩ ?_
                · rintro w' ⟨h1, h2, h3, h4⟩
                  go_simp
                simp only [Act.put, List.setIfInBounds_toArray, List.set_cons_zero, List.set_cons_succ]
                refine wpAnyH_read (i := 7) (v := .agg #[.int .i64 u2, .int .i64 v2]) rfl (by kernel_rfl) (by kernel_rfl) (by kernel_rfl) (fun _ _ _ h => h) (by rfl) ?_ ⟨p1, p2, r1, r2⟩ ?_
                · rintro w' ⟨h1, h2, h3, h4⟩
                  go_simp
                simp only [Act.put, List.setIfInBounds_toArray, List.set_cons_zero, List.set_cons_succ]
                refine wpAnyH_read (i := 8) (v := .slice (some ⟨b, off, none⟩) es.length cap) rfl (by kernel_rfl) (by kernel_rfl) (by kernel_rfl) (fun _ _ _ h => h) (by rfl) (fun _ _ => rfl) ⟨p1, p2, r1, r2⟩ ?_
                simp only [Act.put, List.setIfInBounds_toArray, List.set_cons_zero, List.set_cons_succ]
                refine wpAnyH_read (i := 9) (v := .int .i64 ((m + 1 : Nat) : Int)) rfl (by kernel_rfl) (by kernel_rfl) (by kernel_rfl) (fun _ _ _ h => h) (by rfl) (fun _ _ => rfl) ⟨p1, p2, r1, r2⟩ ?_
                simp only [Act.put, List.setIfInBounds_toArray, List.set_cons_zero, List.set_cons_succ]
                refine wpAnyH_read (i := 10) (v := .pointer (some ⟨b, off + (m + 1) * 2, none⟩)) rfl (by kernel_rfl) (by kernel_rfl) (by kernel_rfl) (fun _ _ _ h => h) (by rfl) ?_ ⟨p1, p2, r1, r2⟩ ?_
                · rintro w' ⟨h1, h2, h3, h4⟩
                  go_simp
                simp only [Act.put, List.setIfInBounds_toArray, List.set_cons_zero, List.set_cons_succ]
                refine wpAnyH_read (i := 11) (v := .agg #[.int .i64 u, .int .i64 v]) rfl (by kernel_rfl) (by kernel_rfl) (by kernel_rfl) (fun _ _ _ h => h) (by rfl) ?_ ⟨p1, p2, r1, r2⟩ ?_
                · rintro w' ⟨h1, h2, h3, h4⟩
                  go_simp
                simp only [Act.put, List.setIfInBounds_toArray, List.set_cons_zero, List.set_cons_succ]
                by_cases hlw : lowE (u2, v2) (u, v)
                · rw [decide_eq_true hlw] at HLE0
                  have HLE := Lib.hid HLE0
                  obtain rfl : R = 9 := HBAD.out 9 (by omega) (hlow.out hlw)
                  clear hlw HLE0
                  refine wpAnyH_next (i := 12) rfl (by kernel_rfl) ?_
                  go_wp2_with fail
                  refine HLE.out.mono ?_
                  rintro e w2 ⟨rfl, b2⟩
                  have s2 : w2.cell? ⟨b, off + m * 2, none⟩ = some (.int .i64 u2) ∧ w2.cell? ⟨b, off + m * 2 + 1, none⟩ = some (.int .i64 v2) ∧ w2.cell? ⟨b, off + (m + 1) * 2, none⟩ = some (.int .i64 u) ∧ w2.cell? ⟨b, off + (m + 1) * 2 + 1, none⟩ = some (.int .i64 v) := ⟨(b2.cell (p := ⟨b, _, none⟩) hbw).trans p1, (b2.cell (p := ⟨b, _, none⟩) hbw).trans p2, (b2.cell (p := ⟨b, _, none⟩) hbw).trans r1, (b2.cell (p := ⟨b, _, none⟩) hbw).trans r2⟩
                  have HB2 : Hid (Below w.heap.size w w2) := Lib.hid ((HB1.out.drew).trans (b2.mono HB1.out.size))
                  clear b2
                  go_wp2
                  refine ⟨s2, ?_⟩
                  refine wpAnyH_read (i := 13) (v := .bool true) rfl (by kernel_rfl) (by kernel_rfl) (by kernel_rfl) (fun _ _ _ h => h) (by rfl) (fun _ _ => rfl) s2 ?_
                  simp only [Act.put, List.setIfInBounds_toArray, List.set_cons_zero, List.set_cons_succ]
                  refine wpAnyH_read (i := 14) (v := .bool true) rfl (by kernel_rfl) (by kernel_rfl) (by kernel_rfl) (fun _ _ _ h => h) (by rfl) (fun _ _ => rfl) s2 ?_
                  simp only [Act.put, List.setIfInBounds_toArray, List.set_cons_zero, List.set_cons_succ]
                  refine wpAnyH_done (by kernel_rfl) ?_ _
                  go_wp2
                  go_ret
                  exact ⟨rfl, HB2.out⟩
                · rw [decide_eq_false hlw] at HLE0
                  have HLE := Lib.hid HLE0
                  have HI' := Lib.hid (hnext.out hlw)
                  clear hlw HLE0
                  refine wpAnyH_next (i := 12) rfl (by kernel_rfl) ?_
                  go_wp2_with fail
                  refine HLE.out.mono ?_
                  rintro e w2 ⟨rfl, b2⟩
                  have s2 : w2.cell? ⟨b, off + m * 2, none⟩ = some (.int .i64 u2) ∧ w2.cell? ⟨b, off + m * 2 + 1, none⟩ = some (.int .i64 v2) ∧ w2.cell? ⟨b, off + (m + 1) * 2, none⟩ = some (.int .i64 u) ∧ w2.cell? ⟨b, off + (m + 1) * 2 + 1, none⟩ = some (.int .i64 v) := ⟨(b2.cell (p := ⟨b, _, none⟩) hbw).trans p1, (b2.cell (p := ⟨b, _, none⟩) hbw).trans p2, (b2.cell (p := ⟨b, _, none⟩) hbw).trans r1, (b2.cell (p := ⟨b, _, none⟩) hbw).trans r2⟩
                  have HB2 : Hid (Below w.heap.size w w2) := Lib.hid ((HB1.out.drew).trans (b2.mono HB1.out.size))
                  clear b2
                  go_wp2
                  refine ⟨s2, ?_⟩
                  refine wpAnyH_read (i := 13) (v := .bool false) rfl (by kernel_rfl) (by kernel_rfl) (by kernel_rfl) (fun _ _ _ h => h) (by rfl) (fun _ _ => rfl) s2 ?_
                  simp only [Act.put, List.setIfInBounds_toArray, List.set_cons_zero, List.set_cons_succ]
                  refine wpAnyH_read (i := 14) (v := .bool false) rfl (by kernel_rfl) (by kernel_rfl) (by kernel_rfl) (fun _ _ _ h => h) (by rfl) (fun _ _ => rfl) s2 ?_
                  simp only [Act.put, List.setIfInBounds_toArray, List.set_cons_zero, List.set_cons_succ]
                  refine wpAnyH_done (by kernel_rfl) ?_ _
                  go_wp2
                  go_roundw
                  case rel => exact ⟨m + 1 + 1, by omega, by go_num, HI', HB2⟩
                  case measure => simp [intOf]; omega
          · obtain rfl : k = es.length := by omega
            obtain ⟨hok, hR⟩ := HEND.out (by have := HI.out; rwa [List.drop_of_length_le (by omega), chkL] at this)
            have HTB := Lib.hid (table_any _ N ad cap es wr ((HE.out.below HB.out).mono HB.out.size) (Nat.le_refl _) (by omega) hN hok)
            have HOK := Lib.hid hok
            clear hok
            go_wp2_with fail
            refine HTB.out.mono ?_
            rintro e w1 ⟨rfl, ht1, b1⟩
            have HRF := reflexive_any _ _ N _ w1 ht1 hN
            have HB1 := Lib.hid (HB.out.trans (b1.mono HB.out.size))
            have HT1 := Lib.hid ht1
            clear ht1 b1 HTB
            cases hlo2 : loopK (relG (gN es)) N with
            | true =>
              rw [hlo2] at HRF hR
              have HRF := Lib.hid HRF
              rw [if_pos rfl] at hR
              subst hR
              clear hlo2
              go_wp2_with fail
              refine HRF.out.mono ?_
              rintro e w3 ⟨rfl, rfl⟩
              go_wp2
              go_ret
              exact ⟨rfl, HB1.out⟩
            | false =>
              rw [hlo2] at HRF hR
              have HRF := Lib.hid HRF
              rw [if_neg (by simp)] at hR
              have HCL := Lib.hid (closed_any _ _ N (relG (gN es)) w1 HT1.out hN (gN_low HOK.out))
              have HR := Lib.hid hR
              clear hlo2 hR
              go_wp2_with fail
              refine HRF.out.mono ?_
              rintro e w3 ⟨rfl, rfl⟩
              go_wp2_with fail
              refine HCL.out.mono ?_
              rintro e w2 ⟨rfl, ht2, b2⟩
              have HPR := Lib.hid (pairs_any _ _ N _ w2 ht2 hN)
              have HB2 := Lib.hid (HB1.out.trans (b2.mono HB.out.size))
              clear ht2 b2 HCL
              go_wp2_with fail
              refine HPR.out.mono ?_
              rintro e w3 ⟨v3, rfl, ho3, b3⟩
              obtain ⟨a', c', e', _, _⟩ := own_sliceS ho3
              subst e'
              have HB3 := Lib.hid (HB2.out.trans (b3.mono HB2.out.size))
              clear ho3 b3
              by_cases h2 : (prs N (war (relG (gN es)) N)).length = es.length
              · have hR := HR.out
                rw [if_pos h2] at hR
                subst hR
                have h3 : (((prs N (war (relG (gN es)) N)).length : Int) != (es.length : Int)) = false := by rw [h2]; simp
                clear h2
                go_wp2
                go_ret
                exact ⟨rfl, HB3.out⟩
              · have hR := HR.out
                rw [if_neg h2] at hR
                subst hR
                have h3 : (((prs N (war (relG (gN es)) N)).length : Int) != (es.length : Int)) = true := by simp; omega
                clear h2
                go_wp2
                go_ret
                exact ⟨rfl, HB3.out⟩

end Go.Proofs.Ytbfeiegjhcjbnaa
