/-
  What the reference's Great and Same of timers return; the statements' sleep, added and key.
-/
import Derived.Test.YtcmcgcogahkamaaTmExp
namespace Go.Proofs.Ytcmcgcogahkamaa
open Go.RowKit Go.Shelf

theorem great_any (a : Option Addr) (n c : Nat) (w : World) (hn : n ≤ 9223372036854775807) :
    Calls Try.prog 11 #[.slice a n c] w fun e w' => e = .returned (.bool (decide (40 < n))) ∧ w = w' := by
  by_cases h : 40 < n
  · rw [decide_eq_true h]
    have h' : (40 : Int) < (n : Int) := by omega
    clear h
    go_enter Try.func11, Try.ntmps11
    go_wp2
    go_ret
    exact ⟨rfl, rfl⟩
  · rw [decide_eq_false h]
    have h' : ¬ (40 : Int) < (n : Int) := by omega
    clear h
    go_enter Try.func11, Try.ntmps11
    go_wp2
    go_ret
    exact ⟨rfl, rfl⟩

set_option maxRecDepth 100000 in
set_option maxHeartbeats 2000000 in
theorem same_any (φ ψ : Nat → Prop) (a b : Option Addr) (c d : Nat) (za zb : List Tm) (w : World) (ha : TmA φ w a za) (hb : TmA ψ w b zb) (hla : za.length ≤ 9223372036854775807) (hlb : zb.length ≤ 9223372036854775807) :
    Calls Try.prog 15 #[.slice a za.length c, .slice b zb.length d] w fun e w' => e = .returned (.bool (decide (za = zb))) ∧ ∃ q, w' = w.drewN q := by
  by_cases hl : za.length = zb.length
  · have hne : ((za.length : Int) != (zb.length : Int)) = false := by rw [hl]; simp
    have HL := Lib.hid hl
    have hsz : zb.length ≤ za.length := by omega
    by_cases h0 : za.length = 0
    · have e1 : za = [] := List.eq_nil_of_length_eq_zero h0
      have e2 : zb = [] := List.eq_nil_of_length_eq_zero (by omega)
      subst e1; subst e2
      clear hl hne ha hb
      go_enter Try.func15, Try.ntmps15
      go_wp2
      go_loopw [5] (fun i wr => i = .int .i64 0 ∧ wr = w) (fun _ _ => 0)
      case atStart => exact ⟨rfl, rfl⟩
      case round =>
        obtain ⟨rfl, rfl⟩ := hrel
        go_wp2
        go_ret
        exact ⟨rfl, 0, rfl⟩
    · obtain ⟨b1, o1, rfl, _, _, hc1⟩ := ha.some_ (by omega)
      obtain ⟨b2, o2, rfl, _, _, hc2⟩ := hb.some_ (by omega)
      have H1 := Lib.hid hc1
      have H2 := Lib.hid hc2
      clear hl ha hb hc1 hc2 h0
      go_enter Try.func15, Try.ntmps15
      go_wp2
      go_loopw [5] (fun i wr => ∃ k q : Nat, k ≤ za.length ∧ i = .int .i64 k ∧ wr = w.drewN q ∧ Hid (∀ j, j < k → gt za j = gt zb j)) (fun i _ => za.length - (intOf i).toNat)
      case atStart => exact ⟨0, 0, Nat.zero_le _, rfl, rfl, Lib.hid (by omega)⟩
      case round =>
        obtain ⟨k, q, hk, rfl, rfl, HK⟩ := hrel
        by_cases hlt : k < za.length
        · have hkb : k < zb.length := by have := HL.out; omega
          obtain ⟨x1, x2, x3⟩ := H1.out k hlt
          obtain ⟨y1, y2, y3⟩ := H2.out k hkb
          obtain ⟨⟨x, x', x''⟩, hx⟩ : ∃ x, gt za k = x := ⟨_, rfl⟩
          obtain ⟨⟨y, y', y''⟩, hy⟩ : ∃ y, gt zb k = y := ⟨_, rfl⟩
          rw [hx] at x1 x2 x3
          rw [hy] at y1 y2 y3
          simp only [] at x1 x2 x3 y1 y2 y3
          have hkI : (k : Int) < (za.length : Int) := by omega
          have hkJ : (k : Int) < (zb.length : Int) := by omega
          have hk0 : (0 : Int) ≤ (k : Int) := by omega
          have HX := Lib.hid hx
          have HY := Lib.hid hy
          have hneq := run_neT x x' x'' y y' y''
          rw [sameT_eq] at hneq
          clear hx hy
          by_cases hxy : (x, x', x'') = (y, y', y'')
          · have hb' : (!decide ((x, x', x'') = (y, y', y''))) = false := by simp [hxy]
            rw [hb'] at hneq
            have HXY := Lib.hid hxy
            clear hxy hb'
            go_wp2
            go_quiet (fail)
            go_wp2
            go_roundw
            case rel =>
              refine ⟨k + 1, _, by omega, by go_num, rfl, Lib.hid ?_⟩
              intro j hj
              by_cases hjk : j = k
              · rw [hjk, HX.out, HY.out]; exact HXY.out
              · exact HK.out j (by omega)
            case measure => simp [intOf]; omega
          · have hb' : (!decide ((x, x', x'') = (y, y', y''))) = true := by simp [hxy]
            rw [hb'] at hneq
            have hd : decide (za = zb) = false := by
              rw [decide_eq_false_iff_not]
              rintro rfl
              exact hxy (HX.out.symm.trans HY.out)
            have HDD := Lib.hid hd
            clear hxy hd hb'
            go_wp2
            go_quiet (fail)
            go_wp2
            go_ret
            rw [HDD.out]
            exact ⟨rfl, _, World.drewN_drewN _ _ _⟩
        · have hd : decide (za = zb) = true := by
            rw [decide_eq_true_eq]
            exact tms_ext HL.out (fun j hj => HK.out j (by omega))
          have HDD := Lib.hid hd
          clear hd
          go_wp2
          go_ret
          rw [HDD.out]
          exact ⟨rfl, _, rfl⟩
  · have hne : ((za.length : Int) != (zb.length : Int)) = true := by rw [bne_iff_ne]; omega
    have hd : decide (za = zb) = false := by
      rw [decide_eq_false_iff_not]
      rintro rfl
      exact hl rfl
    rw [hd]
    clear hl ha hb hd
    go_enter Try.func15, Try.ntmps15
    go_wp2
    go_ret
    exact ⟨rfl, 0, rfl⟩

/-- Same, of values. -/
theorem same_at (u v : Value) (x y : List Tm) (w : World) (hu : KtC w u x) (hv : KtC w v y) : Calls Try.prog 15 #[u, v] w fun e w' => e = .returned (.bool (decide (x = y))) ∧ Below w.heap.size w w' := by
  obtain ⟨a, c, rfl, h1, h2, h3⟩ := hu
  obtain ⟨b, d, rfl, k1, k2, k3⟩ := hv
  refine (same_any _ _ a b c d x y w h3 k3 (by omega) (by omega)).mono ?_
  rintro e w' ⟨rfl, q, rfl⟩
  exact ⟨rfl, rfl, rfl, rfl, Nat.le_refl _, fun _ _ => rfl⟩

theorem sleep_any (k t : Int) (w : World) : Calls Try.prog 36 #[.int .i64 k, .int .i64 t] w fun e w' => e = .returned (.agg #[.int .i64 t, .int .i64 1, .int .i64 k]) ∧ Below w.heap.size w w' := by
  go_enter Try.func36, Try.ntmps36
  go_wp2
  refine bodyPost_ret (v := .agg #[.int .i64 t, .int .i64 1, .int .i64 k]) ?_ rfl ⟨rfl, ?_⟩
  · simp [results, Try.results36, go_sem]
  · exact (Below.refl _ w).alloc (Nat.le_refl _) _
theorem key_any (a b c : Int) (w : World) : Calls Try.prog 29 #[.agg #[.int .i64 a, .int .i64 b, .int .i64 c]] w fun e w' => e = .returned (.agg #[.int .i64 0, .int .i64 b, .int .i64 c]) ∧ Below w.heap.size w w' := by
  go_enter Try.func29, Try.ntmps29
  go_wp2
  refine bodyPost_ret (v := .agg #[.int .i64 0, .int .i64 b, .int .i64 c]) ?_ rfl ⟨rfl, ?_⟩
  · simp [results, Try.results29, go_sem]
  · exact ((Below.refl _ w).alloc (Nat.le_refl _) _).alloc (by simp) _

end Go.Proofs.Ytcmcgcogahkamaa
