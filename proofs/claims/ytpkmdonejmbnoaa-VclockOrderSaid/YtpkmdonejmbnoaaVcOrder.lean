/-
  The statement VclockOrder: the walk.
-/
import Derived.Test.YtpkmdonejmbnoaaVcOrd
namespace Go.Proofs.Ytpkmdonejmbnoaa
open Go.RowKit

set_option maxRecDepth 100000 in
set_option maxHeartbeats 16000000 in
theorem vclockOrder_walk (u v t : Value) (xs ys zs : List Int) (w : World) (hu : KlC w u xs) (hv : KlC w v ys) (ht : KlC w t zs) :
    Calls Try.prog 5 #[u, v, t] w fun e w' => e = .returned (.bool true) ∧ Below w.heap.size w w' := by
  have U := Lib.hid hu
  have V := Lib.hid hv
  have T := Lib.hid ht
  clear hu hv ht
  obtain ⟨a, c, rfl, _, _⟩ := U.out
  obtain ⟨a2, c2, rfl, _, _⟩ := V.out
  obtain ⟨a3, c3, rfl, _, _⟩ := T.out
  obtain ⟨w1, hw1⟩ : ∃ W, w.alloc (.cells #[.slice a xs.length c, .slice a2 ys.length c2, .slice a3 zs.length c3] TC) = W := ⟨_, rfl⟩
  have b1 : Below w.heap.size w w1 := by rw [← hw1]; exact (Below.refl _ _).alloc (Nat.le_refl _) _
  have Lr1 := klL3 w _ _ _ xs ys zs U.out V.out T.out
  rw [hw1] at Lr1
  have L1 := Lib.hid Lr1
  clear Lr1
  have HW1 := Lib.hid hw1
  have U1 := Lib.hid (U.out.below b1)
  have V1 := Lib.hid (V.out.below b1)
  have T1 := Lib.hid (T.out.below b1)
  have B1 := Lib.hid b1
  clear b1 hw1
  have HG := greatK_any _ _ w1 L1.out
  cases hg : [xs, ys, zs].any bigK with
  | true =>
    rw [hg] at HG
    clear hg
    have HG := Lib.hid HG
    go_enter Try.func5, Try.ntmps5
    go_wp2_with fail
    rw [HW1.out]
    refine HG.out.mono ?_
    rintro e w9 ⟨rfl, rfl⟩
    have c2 := awake_any w1
    have C2 := Lib.hid c2
    clear c2
    go_wp2_with fail
    refine C2.out.mono ?_
    rintro e w2 ⟨rfl, b⟩
    have B2 := Lib.hid (B1.out.trans (b.mono B1.out.size))
    clear b C2
    go_wp2
    go_ret
    exact ⟨rfl, B2.out⟩
  | false =>
    rw [hg] at HG
    clear hg
    cases hv : [xs, ys, zs].any (badK (elK [xs, ys, zs] 0).length) with
    | true =>
      have HG := Lib.hid HG
      go_enter Try.func5, Try.ntmps5
      go_wp2_with fail
      rw [HW1.out]
      refine HG.out.mono ?_
      rintro e w9 ⟨rfl, rfl⟩
      obtain ⟨w2, hw2⟩ : ∃ W, w1.alloc (.cells #[.slice a xs.length c, .slice a2 ys.length c2, .slice a3 zs.length c3] TC) = W := ⟨_, rfl⟩
      have b2 : Below w1.heap.size w1 w2 := by rw [← hw2]; exact (Below.refl _ _).alloc (Nat.le_refl _) _
      have Lr2 := klL3 w1 _ _ _ xs ys zs U1.out V1.out T1.out
      rw [hw2] at Lr2
      have L2 := Lib.hid Lr2
      clear Lr2
      have HW2 := Lib.hid hw2
      have U2 := Lib.hid (U1.out.below b2)
      have V2 := Lib.hid (V1.out.below b2)
      have T2 := Lib.hid (T1.out.below b2)
      have B2 := Lib.hid (B1.out.trans (b2.mono B1.out.size))
      clear b2 hw2
      have c3 := validK_any _ _ w2 L2.out (by simp)
      rw [hv] at c3
      have C3 := Lib.hid c3
      clear c3
      go_wp2_with fail
      rw [HW2.out]
      refine C3.out.mono ?_
      rintro e w3 ⟨rfl, b⟩
      have U3 := Lib.hid (U2.out.below b)
      have V3 := Lib.hid (V2.out.below b)
      have T3 := Lib.hid (T2.out.below b)
      have L3 := Lib.hid (L2.out.below b)
      have B3 := Lib.hid (B2.out.trans (b.mono B2.out.size))
      clear b C3
      have c4 := awake_any w3
      have C4 := Lib.hid c4
      clear c4
      go_wp2_with fail
      refine C4.out.mono ?_
      rintro e w4 ⟨rfl, b⟩
      have B4 := Lib.hid (B3.out.trans (b.mono B3.out.size))
      clear b C4
      go_wp2
      go_ret
      exact ⟨rfl, B4.out⟩
    | false =>
      obtain ⟨hp, hq⟩ := valid3 hv
      have PXY := Lib.hid hp
      have PYZ := Lib.hid hq
      clear hp hq
      have HG := Lib.hid HG
      go_enter Try.func5, Try.ntmps5
      go_wp2_with fail
      rw [HW1.out]
      refine HG.out.mono ?_
      rintro e w9 ⟨rfl, rfl⟩
      obtain ⟨w2, hw2⟩ : ∃ W, w1.alloc (.cells #[.slice a xs.length c, .slice a2 ys.length c2, .slice a3 zs.length c3] TC) = W := ⟨_, rfl⟩
      have b2 : Below w1.heap.size w1 w2 := by rw [← hw2]; exact (Below.refl _ _).alloc (Nat.le_refl _) _
      have Lr2 := klL3 w1 _ _ _ xs ys zs U1.out V1.out T1.out
      rw [hw2] at Lr2
      have L2 := Lib.hid Lr2
      clear Lr2
      have HW2 := Lib.hid hw2
      have U2 := Lib.hid (U1.out.below b2)
      have V2 := Lib.hid (V1.out.below b2)
      have T2 := Lib.hid (T1.out.below b2)
      have B2 := Lib.hid (B1.out.trans (b2.mono B1.out.size))
      clear b2 hw2
      have c3 := validK_any _ _ w2 L2.out (by simp)
      rw [hv] at c3
      have C3 := Lib.hid c3
      clear c3
      go_wp2_with fail
      rw [HW2.out]
      refine C3.out.mono ?_
      rintro e w3 ⟨rfl, b⟩
      have U3 := Lib.hid (U2.out.below b)
      have V3 := Lib.hid (V2.out.below b)
      have T3 := Lib.hid (T2.out.below b)
      have L3 := Lib.hid (L2.out.below b)
      have B3 := Lib.hid (B2.out.trans (b.mono B2.out.size))
      clear b C3
      clear hv
      rcases cmpK_cases PXY.out with ⟨e1, e2, e3⟩ | ⟨e1, e2, _, e3⟩ | ⟨e1, e2, _, e3⟩ | ⟨e1, e2, e3, _, _⟩
      · have E1 := Lib.hid e1
        have E2 := Lib.hid e2
        have ESELF := Lib.hid (cmpK_self (PXY.out.trans PXY.out.symm))
        have EEQ : Hid (decide (xs = ys) = true) := Lib.hid (decide_eq_true e3)
        clear e1 e2 e3
        obtain ⟨m, hm⟩ : ∃ m, cmpK ys zs = m := ⟨_, rfl⟩
        have EM := Lib.hid hm
        clear hm
        obtain ⟨w4, hw4⟩ : ∃ W, w3.alloc (.cells #[.int .i64 0, .int .i64 2, .int .i64 1, .int .i64 3] TZ) = W := ⟨_, rfl⟩
        have b4 : Below w3.heap.size w3 w4 := by rw [← hw4]; exact (Below.refl _ _).alloc (Nat.le_refl _) _
        have HW4 := Lib.hid hw4
        have U4 := Lib.hid (U3.out.below b4)
        have V4 := Lib.hid (V3.out.below b4)
        have T4 := Lib.hid (T3.out.below b4)
        have B4 := Lib.hid (B3.out.trans (b4.mono B3.out.size))
        clear b4 hw4
        have q4 : w4.cell? ⟨w3.heap.size, 0, none⟩ = some (.int .i64 0) := by rw [← HW4.out]; simp
        have c5 := vCompare_at _ _ xs ys w4 U4.out V4.out
        rw [E1.out] at c5
        have C5 := Lib.hid c5
        clear c5
        go_wp2_with fail
        rw [HW4.out]
        refine C5.out.mono ?_
        rintro e w5 ⟨rfl, rfl⟩
        clear C5
        have c6 := vCompare_at _ _ ys zs w4 V4.out T4.out
        rw [EM.out] at c6
        have C6 := Lib.hid c6
        clear c6
        go_wp2_with fail
        refine C6.out.mono ?_
        rintro e w6 ⟨rfl, rfl⟩
        clear C6
        have D1 : Hid (∀ q, Calls Try.prog 29 #[.slice a2 ys.length c2, .slice a xs.length c] (w4.drewN q) fun e w' => e = .returned (.int .i64 0) ∧ w' = w4.drewN q) := Lib.hid (fun q => by
          have h := vCompare_at _ _ ys xs (w4.drewN q) (KlC.drewN q V4.out) (KlC.drewN q U4.out)
          rw [E2.out] at h
          exact h.mono (fun _ _ k => ⟨k.1, k.2.symm⟩))
        have D2 : Hid (∀ q, Calls Try.prog 29 #[.slice a xs.length c, .slice a xs.length c] (w4.drewN q) fun e w' => e = .returned (.int .i64 0) ∧ w' = w4.drewN q) := Lib.hid (fun q => by
          have h := vCompare_at _ _ xs xs (w4.drewN q) (KlC.drewN q U4.out) (KlC.drewN q U4.out)
          rw [ESELF.out] at h
          exact h.mono (fun _ _ k => ⟨k.1, k.2.symm⟩))
        have D3 : Hid (∀ q, Calls Try.prog 32 #[.slice a xs.length c, .slice a2 ys.length c2] (w4.drewN q) fun e w' => e = .returned (.bool true) ∧ ∃ r, w' = w4.drewN r) := Lib.hid (fun q => by
          have h := eqZ_at _ _ xs ys (w4.drewN q) (KlC.drewN q U4.out) (KlC.drewN q V4.out)
          rw [EEQ.out] at h
          exact h.mono (fun _ _ k => ⟨k.1, by obtain ⟨r, hr⟩ := k.2; exact ⟨q + r, by rw [hr, World.drewN_drewN]⟩⟩))
        go_wp2_with fail
        go_quiet ((first | (go_at_call 29; first | (with_reducible exact Calls.quiet_of_same (D1.out _)) | (with_reducible exact Calls.quiet_of_same (D2.out _))) | (go_at_call 32; exact D3.out _)))
        have BD : Hid (∀ q, Below w.heap.size w (w4.drewN q)) := Lib.hid (fun q => below_drewZ B4.out)
        have AW : Hid (∀ q, Calls Try.prog 11 #[] (w4.drewN q) fun e w' => e = .returned (.bool true) ∧ Below (w4.drewN q).heap.size (w4.drewN q) w') := Lib.hid (fun q => awake_any _)
        go_wp2_with fail
        refine (AW.out _).mono ?_
        rintro e wz ⟨rfl, bz⟩
        go_wp2
        go_ret
        exact ⟨rfl, (BD.out _).trans (bz.mono (BD.out _).size)⟩
      · have E1 := Lib.hid e1
        have E2 := Lib.hid e2
        have ESELF := Lib.hid (cmpK_self (PXY.out.trans PXY.out.symm))
        have EEQ : Hid (decide (xs = ys) = false) := Lib.hid (decide_eq_false e3)
        clear e1 e2 e3
        obtain ⟨m, hm⟩ : ∃ m, cmpK ys zs = m := ⟨_, rfl⟩
        have EM := Lib.hid hm
        clear hm
        obtain ⟨w4, hw4⟩ : ∃ W, w3.alloc (.cells #[.int .i64 0, .int .i64 2, .int .i64 1, .int .i64 3] TZ) = W := ⟨_, rfl⟩
        have b4 : Below w3.heap.size w3 w4 := by rw [← hw4]; exact (Below.refl _ _).alloc (Nat.le_refl _) _
        have HW4 := Lib.hid hw4
        have U4 := Lib.hid (U3.out.below b4)
        have V4 := Lib.hid (V3.out.below b4)
        have T4 := Lib.hid (T3.out.below b4)
        have B4 := Lib.hid (B3.out.trans (b4.mono B3.out.size))
        clear b4 hw4
        have q4 : w4.cell? ⟨w3.heap.size, 1, none⟩ = some (.int .i64 2) := by rw [← HW4.out]; simp
        have c5 := vCompare_at _ _ xs ys w4 U4.out V4.out
        rw [E1.out] at c5
        have C5 := Lib.hid c5
        clear c5
        go_wp2_with fail
        rw [HW4.out]
        refine C5.out.mono ?_
        rintro e w5 ⟨rfl, rfl⟩
        clear C5
        have c6 := vCompare_at _ _ ys zs w4 V4.out T4.out
        rw [EM.out] at c6
        have C6 := Lib.hid c6
        clear c6
        go_wp2_with fail
        refine C6.out.mono ?_
        rintro e w6 ⟨rfl, rfl⟩
        clear C6
        have D1 : Hid (∀ q, Calls Try.prog 29 #[.slice a2 ys.length c2, .slice a xs.length c] (w4.drewN q) fun e w' => e = .returned (.int .i64 2) ∧ w' = w4.drewN q) := Lib.hid (fun q => by
          have h := vCompare_at _ _ ys xs (w4.drewN q) (KlC.drewN q V4.out) (KlC.drewN q U4.out)
          rw [E2.out] at h
          exact h.mono (fun _ _ k => ⟨k.1, k.2.symm⟩))
        have D2 : Hid (∀ q, Calls Try.prog 29 #[.slice a xs.length c, .slice a xs.length c] (w4.drewN q) fun e w' => e = .returned (.int .i64 0) ∧ w' = w4.drewN q) := Lib.hid (fun q => by
          have h := vCompare_at _ _ xs xs (w4.drewN q) (KlC.drewN q U4.out) (KlC.drewN q U4.out)
          rw [ESELF.out] at h
          exact h.mono (fun _ _ k => ⟨k.1, k.2.symm⟩))
        have D3 : Hid (∀ q, Calls Try.prog 32 #[.slice a xs.length c, .slice a2 ys.length c2] (w4.drewN q) fun e w' => e = .returned (.bool false) ∧ ∃ r, w' = w4.drewN r) := Lib.hid (fun q => by
          have h := eqZ_at _ _ xs ys (w4.drewN q) (KlC.drewN q U4.out) (KlC.drewN q V4.out)
          rw [EEQ.out] at h
          exact h.mono (fun _ _ k => ⟨k.1, by obtain ⟨r, hr⟩ := k.2; exact ⟨q + r, by rw [hr, World.drewN_drewN]⟩⟩))
        go_wp2_with fail
        go_quiet ((first | (go_at_call 29; first | (with_reducible exact Calls.quiet_of_same (D1.out _)) | (with_reducible exact Calls.quiet_of_same (D2.out _))) | (go_at_call 32; exact D3.out _)))
        have BD : Hid (∀ q, Below w.heap.size w (w4.drewN q)) := Lib.hid (fun q => below_drewZ B4.out)
        have AW : Hid (∀ q, Calls Try.prog 11 #[] (w4.drewN q) fun e w' => e = .returned (.bool true) ∧ Below (w4.drewN q).heap.size (w4.drewN q) w') := Lib.hid (fun q => awake_any _)
        have D4 : Hid (m = 1 ∨ m = 0 → ∀ q, Calls Try.prog 29 #[.slice a xs.length c, .slice a3 zs.length c3] (w4.drewN q) fun e w' => e = .returned (.int .i64 1) ∧ w' = w4.drewN q) := Lib.hid (fun hm q => by
          have h := vCompare_at _ _ xs zs (w4.drewN q) (KlC.drewN q U4.out) (KlC.drewN q T4.out)
          rw [cmpK_trans PXY.out PYZ.out E1.out (by rw [EM.out]; exact hm)] at h
          exact h.mono (fun _ _ k => ⟨k.1, k.2.symm⟩))
        by_cases m1 : m = 1
        · subst m1
          have D5 := Lib.hid (D4.out (.inl rfl))
          go_wp2_with fail
          refine (D5.out _).mono ?_
          rintro e wy ⟨rfl, rfl⟩
          go_wp2_with fail
          refine (AW.out _).mono ?_
          rintro e wz ⟨rfl, bz⟩
          go_wp2
          go_ret
          exact ⟨rfl, (BD.out _).trans (bz.mono (BD.out _).size)⟩
        · have m1b : (m != 1) = true := by simpa using m1
          by_cases m0 : m = 0
          · subst m0
            have D5 := Lib.hid (D4.out (.inr rfl))
            go_wp2_with fail
            refine (D5.out _).mono ?_
            rintro e wy ⟨rfl, rfl⟩
            go_wp2_with fail
            refine (AW.out _).mono ?_
            rintro e wz ⟨rfl, bz⟩
            go_wp2
            go_ret
            exact ⟨rfl, (BD.out _).trans (bz.mono (BD.out _).size)⟩
          · have m0b : (m != 0) = true := by simpa using m0
            clear m0 m1
            go_wp2_with fail
            refine (AW.out _).mono ?_
            rintro e wz ⟨rfl, bz⟩
            go_wp2
            go_ret
            exact ⟨rfl, (BD.out _).trans (bz.mono (BD.out _).size)⟩
      · have E1 := Lib.hid e1
        have E2 := Lib.hid e2
        have ESELF := Lib.hid (cmpK_self (PXY.out.trans PXY.out.symm))
        have EEQ : Hid (decide (xs = ys) = false) := Lib.hid (decide_eq_false e3)
        clear e1 e2 e3
        obtain ⟨m, hm⟩ : ∃ m, cmpK ys zs = m := ⟨_, rfl⟩
        have EM := Lib.hid hm
        clear hm
        obtain ⟨w4, hw4⟩ : ∃ W, w3.alloc (.cells #[.int .i64 0, .int .i64 2, .int .i64 1, .int .i64 3] TZ) = W := ⟨_, rfl⟩
        have b4 : Below w3.heap.size w3 w4 := by rw [← hw4]; exact (Below.refl _ _).alloc (Nat.le_refl _) _
        have HW4 := Lib.hid hw4
        have U4 := Lib.hid (U3.out.below b4)
        have V4 := Lib.hid (V3.out.below b4)
        have T4 := Lib.hid (T3.out.below b4)
        have B4 := Lib.hid (B3.out.trans (b4.mono B3.out.size))
        clear b4 hw4
        have q4 : w4.cell? ⟨w3.heap.size, 2, none⟩ = some (.int .i64 1) := by rw [← HW4.out]; simp
        have c5 := vCompare_at _ _ xs ys w4 U4.out V4.out
        rw [E1.out] at c5
        have C5 := Lib.hid c5
        clear c5
        go_wp2_with fail
        rw [HW4.out]
        refine C5.out.mono ?_
        rintro e w5 ⟨rfl, rfl⟩
        clear C5
        have c6 := vCompare_at _ _ ys zs w4 V4.out T4.out
        rw [EM.out] at c6
        have C6 := Lib.hid c6
        clear c6
        go_wp2_with fail
        refine C6.out.mono ?_
        rintro e w6 ⟨rfl, rfl⟩
        clear C6
        have D1 : Hid (∀ q, Calls Try.prog 29 #[.slice a2 ys.length c2, .slice a xs.length c] (w4.drewN q) fun e w' => e = .returned (.int .i64 1) ∧ w' = w4.drewN q) := Lib.hid (fun q => by
          have h := vCompare_at _ _ ys xs (w4.drewN q) (KlC.drewN q V4.out) (KlC.drewN q U4.out)
          rw [E2.out] at h
          exact h.mono (fun _ _ k => ⟨k.1, k.2.symm⟩))
        have D2 : Hid (∀ q, Calls Try.prog 29 #[.slice a xs.length c, .slice a xs.length c] (w4.drewN q) fun e w' => e = .returned (.int .i64 0) ∧ w' = w4.drewN q) := Lib.hid (fun q => by
          have h := vCompare_at _ _ xs xs (w4.drewN q) (KlC.drewN q U4.out) (KlC.drewN q U4.out)
          rw [ESELF.out] at h
          exact h.mono (fun _ _ k => ⟨k.1, k.2.symm⟩))
        have D3 : Hid (∀ q, Calls Try.prog 32 #[.slice a xs.length c, .slice a2 ys.length c2] (w4.drewN q) fun e w' => e = .returned (.bool false) ∧ ∃ r, w' = w4.drewN r) := Lib.hid (fun q => by
          have h := eqZ_at _ _ xs ys (w4.drewN q) (KlC.drewN q U4.out) (KlC.drewN q V4.out)
          rw [EEQ.out] at h
          exact h.mono (fun _ _ k => ⟨k.1, by obtain ⟨r, hr⟩ := k.2; exact ⟨q + r, by rw [hr, World.drewN_drewN]⟩⟩))
        go_wp2_with fail
        go_quiet ((first | (go_at_call 29; first | (with_reducible exact Calls.quiet_of_same (D1.out _)) | (with_reducible exact Calls.quiet_of_same (D2.out _))) | (go_at_call 32; exact D3.out _)))
        have BD : Hid (∀ q, Below w.heap.size w (w4.drewN q)) := Lib.hid (fun q => below_drewZ B4.out)
        have AW : Hid (∀ q, Calls Try.prog 11 #[] (w4.drewN q) fun e w' => e = .returned (.bool true) ∧ Below (w4.drewN q).heap.size (w4.drewN q) w') := Lib.hid (fun q => awake_any _)
        go_wp2_with fail
        refine (AW.out _).mono ?_
        rintro e wz ⟨rfl, bz⟩
        go_wp2
        go_ret
        exact ⟨rfl, (BD.out _).trans (bz.mono (BD.out _).size)⟩
      · have E1 := Lib.hid e1
        have E2 := Lib.hid e2
        have ESELF := Lib.hid (cmpK_self (PXY.out.trans PXY.out.symm))
        have EEQ : Hid (decide (xs = ys) = false) := Lib.hid (decide_eq_false e3)
        clear e1 e2 e3
        obtain ⟨m, hm⟩ : ∃ m, cmpK ys zs = m := ⟨_, rfl⟩
        have EM := Lib.hid hm
        clear hm
        obtain ⟨w4, hw4⟩ : ∃ W, w3.alloc (.cells #[.int .i64 0, .int .i64 2, .int .i64 1, .int .i64 3] TZ) = W := ⟨_, rfl⟩
        have b4 : Below w3.heap.size w3 w4 := by rw [← hw4]; exact (Below.refl _ _).alloc (Nat.le_refl _) _
        have HW4 := Lib.hid hw4
        have U4 := Lib.hid (U3.out.below b4)
        have V4 := Lib.hid (V3.out.below b4)
        have T4 := Lib.hid (T3.out.below b4)
        have B4 := Lib.hid (B3.out.trans (b4.mono B3.out.size))
        clear b4 hw4
        have q4 : w4.cell? ⟨w3.heap.size, 3, none⟩ = some (.int .i64 3) := by rw [← HW4.out]; simp
        have c5 := vCompare_at _ _ xs ys w4 U4.out V4.out
        rw [E1.out] at c5
        have C5 := Lib.hid c5
        clear c5
        go_wp2_with fail
        rw [HW4.out]
        refine C5.out.mono ?_
        rintro e w5 ⟨rfl, rfl⟩
        clear C5
        have c6 := vCompare_at _ _ ys zs w4 V4.out T4.out
        rw [EM.out] at c6
        have C6 := Lib.hid c6
        clear c6
        go_wp2_with fail
        refine C6.out.mono ?_
        rintro e w6 ⟨rfl, rfl⟩
        clear C6
        have D1 : Hid (∀ q, Calls Try.prog 29 #[.slice a2 ys.length c2, .slice a xs.length c] (w4.drewN q) fun e w' => e = .returned (.int .i64 3) ∧ w' = w4.drewN q) := Lib.hid (fun q => by
          have h := vCompare_at _ _ ys xs (w4.drewN q) (KlC.drewN q V4.out) (KlC.drewN q U4.out)
          rw [E2.out] at h
          exact h.mono (fun _ _ k => ⟨k.1, k.2.symm⟩))
        have D2 : Hid (∀ q, Calls Try.prog 29 #[.slice a xs.length c, .slice a xs.length c] (w4.drewN q) fun e w' => e = .returned (.int .i64 0) ∧ w' = w4.drewN q) := Lib.hid (fun q => by
          have h := vCompare_at _ _ xs xs (w4.drewN q) (KlC.drewN q U4.out) (KlC.drewN q U4.out)
          rw [ESELF.out] at h
          exact h.mono (fun _ _ k => ⟨k.1, k.2.symm⟩))
        have D3 : Hid (∀ q, Calls Try.prog 32 #[.slice a xs.length c, .slice a2 ys.length c2] (w4.drewN q) fun e w' => e = .returned (.bool false) ∧ ∃ r, w' = w4.drewN r) := Lib.hid (fun q => by
          have h := eqZ_at _ _ xs ys (w4.drewN q) (KlC.drewN q U4.out) (KlC.drewN q V4.out)
          rw [EEQ.out] at h
          exact h.mono (fun _ _ k => ⟨k.1, by obtain ⟨r, hr⟩ := k.2; exact ⟨q + r, by rw [hr, World.drewN_drewN]⟩⟩))
        go_wp2_with fail
        go_quiet ((first | (go_at_call 29; first | (with_reducible exact Calls.quiet_of_same (D1.out _)) | (with_reducible exact Calls.quiet_of_same (D2.out _))) | (go_at_call 32; exact D3.out _)))
        have BD : Hid (∀ q, Below w.heap.size w (w4.drewN q)) := Lib.hid (fun q => below_drewZ B4.out)
        have AW : Hid (∀ q, Calls Try.prog 11 #[] (w4.drewN q) fun e w' => e = .returned (.bool true) ∧ Below (w4.drewN q).heap.size (w4.drewN q) w') := Lib.hid (fun q => awake_any _)
        go_wp2_with fail
        refine (AW.out _).mono ?_
        rintro e wz ⟨rfl, bz⟩
        go_wp2
        go_ret
        exact ⟨rfl, (BD.out _).trans (bz.mono (BD.out _).size)⟩

end Go.Proofs.Ytpkmdonejmbnoaa
