/-
  The statement PartialorderLong: the walk.
-/
import Derived.Test.YtkiomcihomkgoaaPoGenLaw
import Derived.Test.YtkiomcihomkgoaaPoLeast
namespace Go.Proofs.Ytkiomcihomkgoaa
open Go.RowKit

def chainK (k : Nat) : List (Nat × Nat) := (List.range k).map fun i => (i, i + 1)
theorem chainK_succ (k : Nat) : chainK (k + 1) = chainK k ++ [(k, k + 1)] := by unfold chainK; rw [List.range_succ, List.map_append]; rfl
theorem chainK_len (k : Nat) : (chainK k).length = k := by simp [chainK]

/-- The functions of a slice value that is known. -/
theorem rgen_at (n : Int) (v : Value) (l : List (Nat × Nat)) (w : World) (h : EdgesC w v l) : Calls Try.prog 23 #[.int .i64 n, v] w (RetEC (genL n (edgesOf l)) (genE n (edgesOf l)) w) := by
  obtain ⟨a, c, rfl, hA, hl, _⟩ := h
  refine (refGenerate_any n a c _ w hA hl).mono ?_
  rintro e w1 ⟨v, rfl, hr, b1⟩
  exact ⟨v, rfl, hr.known, b1⟩
theorem rcov_at (n : Int) (v : Value) (l : List (Nat × Nat)) (w : World) (h : EdgesC w v l) : Calls Try.prog 25 #[.int .i64 n, v] w (RetEC (covL n (edgesOf l)) (poE n (edgesOf l)) w) := by
  obtain ⟨a, c, rfl, hA, hl, _⟩ := h
  refine (refCovers_any n a c _ w hA hl).mono ?_
  rintro e w1 ⟨v, rfl, hr, b1⟩
  exact ⟨v, rfl, hr.known, b1⟩
theorem least_at (n : Int) (v : Value) (l : List (Nat × Nat)) (w : World) (h : EdgesC w v l) : Calls Try.prog 26 #[.int .i64 n, v] w (RetIC (leastL n (edgesOf l)) (poE n (edgesOf l)) w) := by
  obtain ⟨a, c, rfl, hA, hl, _⟩ := h
  exact least_any n a c _ w hA hl
theorem rleast_at (n : Int) (v : Value) (l : List (Nat × Nat)) (w : World) (h : EdgesC w v l) : Calls Try.prog 27 #[.int .i64 n, v] w (RetIC (leastL n (edgesOf l)) (poE n (edgesOf l)) w) := by
  obtain ⟨a, c, rfl, hA, hl, _⟩ := h
  exact refLeast_any n a c _ w hA hl
theorem rcheck_at (n : Int) (v : Value) (l : List (Nat × Nat)) (w : World) (h : EdgesC w v l) : Calls Try.prog 16 #[.int .i64 n, v] w fun e w' => e = .returned (.int .i64 (poE n (edgesOf l))) ∧ Below w.heap.size w w' := by
  obtain ⟨a, c, rfl, hA, hl, _⟩ := h
  exact refCheck_any n a c _ w hA hl

set_option maxRecDepth 100000 in
set_option maxHeartbeats 8000000 in
theorem partialorderLong_walk (x y z : Nat) (w : World) (hx : x < 256) (hy : y < 256) (hz : z < 256) :
    Calls Try.prog 6 #[.int .u8 (x : Int), .int .u8 (y : Int), .int .u8 (z : Int)] w fun e w' => e = .returned (.bool true) ∧ Below w.heap.size w w' := by
  obtain ⟨i3, ki, kz0, kz1, kz2⟩ := info_parts infoE
  obtain ⟨N, hN⟩ : ∃ N, x % 71 = N := ⟨_, rfl⟩
  have hN71 : N < 71 := by omega
  have hm : (x : Int).tmod 71 = (N : Int) := by
    rw [Int.tmod_eq_emod_of_nonneg (by omega)]
    omega
  go_enter Try.func6, Try.ntmps6
  go_wp2_with fail
  go_loopw [8, 9] (fun v q wr => ∃ k : Nat, k ≤ N ∧ q = .int .i64 k ∧ Hid (OwnE w.heap.size (chainK k) v wr) ∧ Hid (Below w.heap.size w wr)) (fun _ q _ => N - (intOf q).toNat)
  case atStart => exact ⟨0, Nat.zero_le _, rfl, Lib.hid (OwnE.nil _ _), Lib.hid (Below.refl _ _)⟩
  case round =>
    obtain ⟨k, hk, rfl, HO, HB⟩ := hrel
    by_cases hlt : k + 1 < N
    · have k1 : (k : Int) + 1 < (N : Int) := by omega
      have hsz := HB.out.size
      have HOWN : Hid (wr.ownsRow w.heap.size TE 2 u8 (chainK k).length (edV (chainK k))) := Lib.hid HO.out
      have hlk := chainK_len k
      go_wp2_with (at_builtin; refine wpList_append_own _ rfl _ _ 22 rfl w.heap.size TE i3 (.agg #[.int .i64 0, .int .i64 0]) 2 16 Try.underlying22 ki kz0 kz1 kz2 rfl (by decide) _ _ _ rfl (HOWN.out.alloc _) ⟨wr.heap.size, 0, none⟩ 1 1 [.int .i64 (k : Int), .int .i64 ((k : Int) + 1)] rfl rfl (newCell2 _ _ _ _) (two_one _ _) ?qc4 ?qc5 ?qc6 ?_)
      case qc4 => unfold maxLen; omega
      case qc5 => omega
      case qc6 => first | (simp; omega) | omega
      intro v' w6 hown' hgrow hnil
      have HO6 : Hid (OwnE w.heap.size (chainK (k + 1)) v' w6) := Lib.hid (by
        unfold OwnE
        rw [chainK_succ, edV_snoc, List.length_append, hlk]
        exact hown')
      have HB6 : Hid (Below w.heap.size w w6) := Lib.hid ((HB.out.alloc hsz _).grown hgrow (by simp; omega) (fun i hi => (World.ownsRow.lt HOWN.out i hi).1))
      clear hown' hgrow hnil
      go_wp2
      go_roundw
      case rel => exact ⟨k + 1, by omega, by go_num, HO6, HB6⟩
      case measure => simp [intOf]; omega
    · have k1 : ¬ (k : Int) + 1 < (N : Int) := by omega
      have hsz := HB.out.size
      have HOWN : Hid (wr.ownsRow w.heap.size TE 2 u8 (chainK k).length (edV (chainK k))) := Lib.hid HO.out
      have hlk := chainK_len k
      go_wp2_with (at_builtin; refine wpList_append_own _ rfl _ _ 22 rfl w.heap.size TE i3 (.agg #[.int .i64 0, .int .i64 0]) 2 16 Try.underlying22 ki kz0 kz1 kz2 rfl (by decide) _ _ _ rfl (HOWN.out.alloc _) ⟨wr.heap.size, 0, none⟩ 1 1 [.int .i64 (y : Int), .int .i64 (z : Int)] rfl rfl (newCell2 _ _ _ _) (two_one _ _) ?qc4 ?qc5 ?qc6 ?_)
      case qc4 => unfold maxLen; omega
      case qc5 => omega
      case qc6 => first | (simp; omega) | omega
      intro v' w6 hown' hgrow hnil
      have HO6 : Hid (OwnE w.heap.size (chainK k ++ [(y, z)]) v' w6) := Lib.hid (by
        unfold OwnE
        rw [edV_snoc, List.length_append, hlk]
        exact hown')
      have HB6 : Hid (Below w.heap.size w w6) := Lib.hid ((HB.out.alloc hsz _).grown hgrow (by simp; omega) (fun i hi => (World.ownsRow.lt HOWN.out i hi).1))
      clear hown' hgrow hnil
      have E6 := Lib.hid HO6.out.known
      generalize chainK k ++ [(y, z)] = L at *
      have K6 := Lib.hid (gen_at (N : Int) v' L w6 E6.out)
      go_wp2_with fail
      refine K6.out.mono ?_
      rintro e w7 ⟨v7, rfl, e7, b7⟩
      have A7 := Lib.hid e7
      have B7 := Lib.hid (HB6.out.trans (b7.mono HB6.out.size))
      have K7 := Lib.hid (rgen_at (N : Int) v' L w7 (E6.out.below b7))
      clear e7 b7
      go_wp2_with fail
      refine K7.out.mono ?_
      rintro e w8 ⟨v8, rfl, e8, b8⟩
      generalize genL (N : Int) (edgesOf L) = G at *
      generalize genE (N : Int) (edgesOf L) = x1 at *
      have A8 := Lib.hid (A7.out.below b8)
      have C8 := Lib.hid e8
      have B8 := Lib.hid (B7.out.trans (b8.mono B7.out.size))
      have K8 := Lib.hid (least_at (N : Int) v8 G w8 C8.out)
      clear e8 b8
      go_wp2_with fail
      refine K8.out.mono ?_
      rintro e w9 ⟨v9, rfl, e9, b9⟩
      have A9 := Lib.hid (A8.out.below b9)
      have C9 := Lib.hid (C8.out.below b9)
      have D9 := Lib.hid e9
      have B9 := Lib.hid (B8.out.trans (b9.mono B8.out.size))
      have K9 := Lib.hid (rleast_at (N : Int) v8 G w9 C9.out)
      clear e9 b9
      go_wp2_with fail
      refine K9.out.mono ?_
      rintro e w10 ⟨v10, rfl, e10, b10⟩
      have A10 := Lib.hid (A9.out.below b10)
      have C10 := Lib.hid (C9.out.below b10)
      have D10 := Lib.hid (D9.out.below b10)
      have F10 := Lib.hid e10
      have B10 := Lib.hid (B9.out.trans (b10.mono B9.out.size))
      have K10 := Lib.hid (cov_at (N : Int) v8 G w10 C10.out)
      clear e10 b10
      go_wp2_with fail
      refine K10.out.mono ?_
      rintro e w11 ⟨v11, rfl, e11, b11⟩
      have A11 := Lib.hid (A10.out.below b11)
      have C11 := Lib.hid (C10.out.below b11)
      have D11 := Lib.hid (D10.out.below b11)
      have F11 := Lib.hid (F10.out.below b11)
      have G11 := Lib.hid e11
      have B11 := Lib.hid (B10.out.trans (b11.mono B10.out.size))
      have K11 := Lib.hid (rcov_at (N : Int) v8 G w11 C11.out)
      clear e11 b11
      go_wp2_with fail
      refine K11.out.mono ?_
      rintro e w12 ⟨v12, rfl, e12, b12⟩
      have C12 := Lib.hid (C11.out.below b12)
      have D12 := Lib.hid (D11.out.below b12)
      have F12 := Lib.hid (F11.out.below b12)
      have G12 := Lib.hid (G11.out.below b12)
      have H12 := Lib.hid e12
      have B12 := Lib.hid (B11.out.trans (b12.mono B11.out.size))
      have K12 := Lib.hid (same_yes v7 v8 G w12 (A11.out.below b12) C12.out)
      clear e12 b12
      go_wp2_with fail
      refine K12.out.mono ?_
      rintro e w13 ⟨rfl, b13⟩
      have C13 := Lib.hid (C12.out.below b13)
      have G13 := Lib.hid (G12.out.below b13)
      have H13 := Lib.hid (H12.out.below b13)
      have B13 := Lib.hid (B12.out.trans (b13.mono B12.out.size))
      have K13 := Lib.hid (sameInts_yes v9 v10 _ w13 (D12.out.below b13) (F12.out.below b13))
      clear b13
      go_wp2_with fail
      refine K13.out.mono ?_
      rintro e w14 ⟨rfl, b14⟩
      have C14 := Lib.hid (C13.out.below b14)
      have B14 := Lib.hid (B13.out.trans (b14.mono B13.out.size))
      have K14 := Lib.hid (same_yes v11 v12 _ w14 (G13.out.below b14) (H13.out.below b14))
      clear b14
      go_wp2_with fail
      refine K14.out.mono ?_
      rintro e w15 ⟨rfl, b15⟩
      have C15 := Lib.hid (C14.out.below b15)
      have B15 := Lib.hid (B14.out.trans (b15.mono B14.out.size))
      have K15 := Lib.hid (check_at (N : Int) v8 G w15 C15.out)
      clear b15
      go_wp2_with fail
      refine K15.out.mono ?_
      rintro e w16 ⟨rfl, b16⟩
      have B16 := Lib.hid (B15.out.trans (b16.mono B15.out.size))
      have K16 := Lib.hid (rcheck_at (N : Int) v8 G w16 (C15.out.below b16))
      clear b16
      go_wp2_with fail
      refine K16.out.mono ?_
      rintro e w17 ⟨rfl, b17⟩
      have B17 := Lib.hid (B16.out.trans (b17.mono B16.out.size))
      have K17 := Lib.hid (awake_any w17)
      clear b17
      go_wp2_with fail
      refine K17.out.mono ?_
      rintro e w18 ⟨rfl, b18⟩
      go_wp2
      go_ret
      exact ⟨rfl, B17.out.trans (b18.mono B17.out.size)⟩

theorem wf_u8n {a : Int} (h : (Lit.int .u8 a).wf = true) : ∃ c : Nat, a = (c : Int) ∧ c < 256 := by
  simp [Lit.wf] at h
  have e1 : IntKind.u8.min = 0 := by decide
  have e2 : IntKind.u8.max = 255 := by decide
  exact ⟨a.toNat, by omega, by omega⟩

end Go.Proofs.Ytkiomcihomkgoaa
