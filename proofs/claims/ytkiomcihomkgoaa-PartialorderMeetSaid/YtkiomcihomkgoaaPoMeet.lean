/-
  The statement PartialorderMeet: the walk.
-/
import Derived.Shelf.Slices.Turned
import Derived.Test.YtkiomcihomkgoaaPoLinMath
import Derived.Test.YtkiomcihomkgoaaPoRefines
namespace Go.Proofs.Ytkiomcihomkgoaa
open Go.RowKit Go.Shelf
def Try.idxI_ren : Go.Shelf.Ren := ⟨fun | 108 => 39 | n => n, fun | 28 => 23 | 3 => 3 | 0 => 0 | 4 => 4 | n => n, fun | n => n⟩
theorem Try.idxI : Go.Proofs.Lays.n108 Try.prog Try.idxI_ren := {
  mixed := by kernel_rfl
  f108 := Try.func39.trans (congrArg some (by kernel_rfl))
  t0 := Try.underlying0
  a0 := Try.isAgg0
  z0 := Try.sizeOf0
  v0 := Try.zeroValue0
  t3 := Try.underlying3
  a3 := Try.isAgg3
  z3 := Try.sizeOf3
  v3 := Try.zeroValue3
  t4 := Try.underlying4
  a4 := Try.isAgg4
  z4 := Try.sizeOf4
  v4 := Try.zeroValue4
  t28 := Try.underlying23
  a28 := Try.isAgg23
  z28 := Try.sizeOf23
  v28 := Try.zeroValue23 }
theorem index_any (v : Value) (x : List Nat) (a : Nat) (w : World) (h : IntsC w v x) :
    Calls Try.prog 39 #[v, .int .i64 (a : Int)] w fun e w' => e = .returned (.int .i64 (posI x a)) ∧ w = w' := by
  obtain ⟨ad, c, rfl, hI, hl⟩ := h
  by_cases h0 : (intsOf x).length = 0
  · have e : intsOf x = [] := List.eq_nil_of_length_eq_zero h0
    unfold posI
    rw [e]
    refine (Any.slices_Index_int_empty Try.idxI ad c (a : Int) w).mono ?_
    rintro e w' ⟨rfl, rfl⟩
    exact ⟨rfl, rfl⟩
  · obtain ⟨b, off, rfl, _, hc⟩ := hI.some_ (by omega)
    have h := Any.slices_Index_int Try.idxI b off (intsOf x).length c (intsOf x) (a : Int) w (Nat.le_refl _) hl (fun j hj => by rw [List.getD_eq_getElem?_getD]; exact hc j hj)
    rw [List.take_length] at h
    refine h.mono ?_
    rintro e w' ⟨rfl, rfl⟩
    exact ⟨rfl, rfl⟩
def cntB (ll : List (List Nat)) (i j k : Nat) : Nat := (ll.take k).countP fun x => decide (posI x i < posI x j)
theorem cntB_le (ll : List (List Nat)) (i j k : Nat) : cntB ll i j k ≤ ll.length := by
  unfold cntB
  have h1 : (ll.take k).countP (fun x => decide (posI x i < posI x j)) ≤ (ll.take k).length := List.countP_le_length
  rw [List.length_take] at h1
  omega
theorem cntB_yes {ll : List (List Nat)} {i j k : Nat} (hk : k < ll.length) (h : posI ll[k] i < posI ll[k] j) : cntB ll i j (k + 1) = cntB ll i j k + 1 := by
  unfold cntB
  rw [List.take_succ_eq_append_getElem hk, List.countP_append]
  simp [h]
theorem cntB_no {ll : List (List Nat)} {i j k : Nat} (hk : k < ll.length) (h : ¬ posI ll[k] i < posI ll[k] j) : cntB ll i j (k + 1) = cntB ll i j k := by
  unfold cntB
  rw [List.take_succ_eq_append_getElem hk, List.countP_append]
  simp [h]
theorem lists_at {ll : List (List Nat)} {w : World} {a : Option Addr} (hL : ListsA w.heap.size w a (listsOf ll)) {k : Nat} (hk : k < ll.length) : ∃ b off u, a = some ⟨b, off, none⟩ ∧ w.cell? ⟨b, off + k, none⟩ = some u ∧ IntsC w u ll[k] := by
  obtain ⟨b, off, a', c', e, _, hc, hI, hl⟩ := hL k (by rw [listsOf_length]; exact hk)
  have hel : elL (listsOf ll) k = intsOf ll[k] := by simp [elL, listsOf, hk]
  rw [hel] at hc hI hl
  exact ⟨b, off, _, e, hc, a', c', rfl, hI, hl⟩

set_option maxRecDepth 100000 in
set_option maxHeartbeats 4000000 in
theorem partialorderMeet_walk (n : Int) (a : Option Addr) (c : Nat) (es : List (Int × Int)) (w : World) (hE : EdgesA w.heap.size w a es) (hle : es.length ≤ 9223372036854775807) :
    Calls Try.prog 10 #[.int .i64 n, .slice a es.length c] w fun e w' => e = .returned (.bool true) ∧ Below w.heap.size w w' := by
  have HG := great4_any n a c es w
  cases hg : great4 n es with
  | true =>
    rw [hg] at HG
    have HG := Lib.hid HG
    have HA := Lib.hid (awake_any w)
    clear hE hg
    go_enter Try.func10, Try.ntmps10
    go_wp2_with fail
    refine HG.out.mono ?_
    rintro e w1 ⟨rfl, rfl⟩
    go_wp2_with fail
    refine HA.out.mono ?_
    rintro e w1 ⟨rfl, b1⟩
    go_wp2
    go_ret
    exact ⟨rfl, b1⟩
  | false =>
    rw [hg] at HG
    have HG := Lib.hid HG
    by_cases h6 : n ≤ 6
    · have h6' : ¬ (6 : Int) < n := by omega
      by_cases hp : poE n es = 0
      · obtain ⟨m1, m2, m3⟩ := meet_law hp h6
        have HX := myExtensions n 720 a c es w hE hle
        rw [m1] at HX
        obtain ⟨N, rfl, hN, hk, hok, _⟩ := po_ok hp
        have HX := Lib.hid HX
        have HM3 := Lib.hid m3
        have HE := Lib.hid hE
        generalize exsL (N : Int) es 720 = M at *
        have hMl := listsOf_length M
        clear hE m3 hok hp hg m1 h6
        go_enter Try.func10, Try.ntmps10
        go_wp2_with fail
        refine HG.out.mono ?_
        rintro e w1 ⟨rfl, rfl⟩
        go_wp2_with fail
        refine HX.out.mono ?_
        rintro e w2 ⟨v2, rfl, l2, b2⟩
        have HC := Lib.hid (myConcurrent (N : Int) a c es w2 ((HE.out.below b2).mono b2.size) hle)
        have B2 := Lib.hid b2
        have L2 := Lib.hid l2
        clear b2 l2
        go_wp2_with fail
        refine HC.out.mono ?_
        rintro e w3 ⟨v3, rfl, e3, b3⟩
        have B3 := Lib.hid (B2.out.trans (b3.mono B2.out.size))
        have L3 := Lib.hid (L2.out.below b3)
        have E3 := Lib.hid e3
        have HHA : Hid (∀ i j : Nat, Calls Try.prog 35 #[.slice a es.length c, .int .i64 (i : Int), .int .i64 (j : Int)] w3 fun e w' => e = .returned (.bool (hasE es i j)) ∧ w' = w3) := Lib.hid (fun i j => has_any _ a c es i j w3 ((HE.out.below B3.out).mono B3.out.size) hle)
        have HHC : Hid (∀ i j : Nat, Calls Try.prog 35 #[v3, .int .i64 (i : Int), .int .i64 (j : Int)] w3 fun e w' => e = .returned (.bool (hasE (edgesOf (conL (N : Int) es)) i j)) ∧ w' = w3) := Lib.hid (fun i j => has_at v3 _ i j w3 e3)
        clear b3 e3 HC HX B2 L2
        obtain ⟨am, cm, hvm, hLm, _⟩ := L3.out
        rw [hMl] at hvm
        subst hvm
        have HLM := Lib.hid hLm
        clear hLm
        go_wp2_with fail
        go_loopw [34] (fun x wr => ∃ i : Nat, i ≤ N ∧ x = .int .i64 i ∧ w3 = wr) (fun x _ => N - (intOf x).toNat)
        case atStart => exact ⟨0, Nat.zero_le _, rfl, rfl⟩
        case round =>
          obtain ⟨i, hi, rfl, rfl⟩ := hrel
          by_cases hit : i < N
          · have i1 : (i : Int) < (N : Int) := by omega
            go_wp2_with fail
            go_loopw [38] (fun x wr => ∃ j : Nat, j ≤ N ∧ x = .int .i64 j ∧ w3 = wr) (fun x _ => N - (intOf x).toNat)
            case atStart => exact ⟨0, Nat.zero_le _, rfl, rfl⟩
            case round =>
              obtain ⟨j, hj, rfl, rfl⟩ := hrel
              by_cases hjt : j < N
              · have j1 : (j : Int) < (N : Int) := by omega
                go_wp2_with fail
                go_loopw [10, 43] (fun f x wr => ∃ k : Nat, k ≤ M.length ∧ x = .int .i64 k ∧ f = .int .i64 (cntB M i j k : Nat) ∧ w3 = wr) (fun _ x _ => M.length - (intOf x).toNat)
                case atStart => exact ⟨0, Nat.zero_le _, rfl, rfl, rfl⟩
                case round =>
                  obtain ⟨k, hk', rfl, rfl, rfl⟩ := hrel
                  by_cases hkt : k < M.length
                  · obtain ⟨b, off, u, rfl, hcell, hIx⟩ := lists_at HLM.out hkt
                    have k1 : (k : Int) < (M.length : Int) := by omega
                    have HI := Lib.hid (index_any u M[k] i w3 hIx)
                    have HJ := Lib.hid (index_any u M[k] j w3 hIx)
                    have hY : Hid (posI M[k] i < posI M[k] j → cntB M i j (k + 1) = cntB M i j k + 1) := Lib.hid (cntB_yes hkt)
                    have hNo : Hid (¬ posI M[k] i < posI M[k] j → cntB M i j (k + 1) = cntB M i j k) := Lib.hid (cntB_no hkt)
                    have hcl := cntB_le M i j k
                    generalize posI M[k] i = pi at *
                    generalize posI M[k] j = pj at *
                    clear hIx
                    go_wp2_with fail
                    refine HI.out.mono ?_
                    rintro e w4 ⟨rfl, rfl⟩
                    go_wp2_with fail
                    refine HJ.out.mono ?_
                    rintro e w4 ⟨rfl, rfl⟩
                    by_cases hlt : pi < pj
                    · go_wp2
                      go_roundw
                      case rel => exact ⟨k + 1, by omega, by go_num, by rw [hY.out hlt]; go_num, trivial⟩
                      case measure => simp [intOf]; omega
                    · go_wp2
                      go_roundw
                      case rel => exact ⟨k + 1, by omega, by go_num, by rw [hNo.out hlt], trivial⟩
                      case measure => simp [intOf]; omega
                  · obtain rfl : k = M.length := by omega
                    have hcb : cntB M i j M.length = M.countP fun x => decide (posI x i < posI x j) := by unfold cntB; rw [List.take_length]
                    obtain ⟨A, B⟩ := HM3.out i j i1 j1
                    rw [← hcb] at A B
                    have hql := cntB_le M i j M.length
                    have h1 := HHA.out i j
                    have h2 := HHC.out i j
                    clear hcb
                    generalize cntB M i j M.length = q at *
                    generalize hasE es i j = z1 at *
                    generalize hasE (edgesOf (conL (N : Int) es)) i j = z2 at *
                    rcases Nat.lt_trichotomy i j with hij | rfl | hij
                    · have n1 : ((i : Int) != (j : Int)) = true := by simp; omega
                      have n2 : (i : Int) < (j : Int) := by omega
                      have A := A (by omega)
                      have B := B hij
                      by_cases hq1 : q = M.length
                      · subst hq1
                        obtain rfl : z1 = true := A.1 rfl
                        obtain rfl : z2 = false := by
                          cases z2 with
                          | false => rfl
                          | true => have := (B.2 rfl).2; omega
                        have H1 := Lib.hid h1
                        have H2 := Lib.hid h2
                        clear A B h1 h2
                        by_cases h0 : (0 : Int) < (M.length : Int)
                        · skip
                          go_wp2_with fail
                          refine H1.out.mono ?_
                          rintro e w4 ⟨rfl, rfl⟩
                          go_wp2_with fail
                          refine H2.out.mono ?_
                          rintro e w4 ⟨rfl, rfl⟩
                          go_wp2
                          go_roundw
                          case rel => exact ⟨j + 1, by omega, by go_num, trivial⟩
                          case measure => simp [intOf]; omega
                        · skip
                          go_wp2_with fail
                          refine H1.out.mono ?_
                          rintro e w4 ⟨rfl, rfl⟩
                          go_wp2_with fail
                          refine H2.out.mono ?_
                          rintro e w4 ⟨rfl, rfl⟩
                          go_wp2
                          go_roundw
                          case rel => exact ⟨j + 1, by omega, by go_num, trivial⟩
                          case measure => simp [intOf]; omega
                      · obtain rfl : z1 = false := by
                          cases z1 with
                          | false => rfl
                          | true => exact absurd (A.2 rfl) hq1
                        have q1 : ((q : Int) == (M.length : Int)) = false := by simp; omega
                        have q2 : (q : Int) < (M.length : Int) := by omega
                        by_cases h0 : (0 : Int) < (q : Int)
                        · obtain rfl : z2 = true := B.1 ⟨by omega, by omega⟩
                          have H1 := Lib.hid h1
                          have H2 := Lib.hid h2
                          clear A B h1 h2
                          go_wp2_with fail
                          refine H1.out.mono ?_
                          rintro e w4 ⟨rfl, rfl⟩
                          go_wp2_with fail
                          refine H2.out.mono ?_
                          rintro e w4 ⟨rfl, rfl⟩
                          go_wp2
                          go_roundw
                          case rel => exact ⟨j + 1, by omega, by go_num, trivial⟩
                          case measure => simp [intOf]; omega
                        · obtain rfl : z2 = false := by
                            cases z2 with
                            | false => rfl
                            | true => have := (B.2 rfl).1; omega
                          have H1 := Lib.hid h1
                          have H2 := Lib.hid h2
                          clear A B h1 h2
                          go_wp2_with fail
                          refine H1.out.mono ?_
                          rintro e w4 ⟨rfl, rfl⟩
                          go_wp2_with fail
                          refine H2.out.mono ?_
                          rintro e w4 ⟨rfl, rfl⟩
                          go_wp2
                          go_roundw
                          case rel => exact ⟨j + 1, by omega, by go_num, trivial⟩
                          case measure => simp [intOf]; omega
                    · have n2 : ¬ (i : Int) < (i : Int) := by omega
                      clear A B h1 h2
                      go_wp2
                      go_roundw
                      case rel => exact ⟨i + 1, by omega, by go_num, trivial⟩
                      case measure => simp [intOf]; omega
                    · have n1 : ((i : Int) != (j : Int)) = true := by simp; omega
                      have n2 : ¬ (i : Int) < (j : Int) := by omega
                      have A := A (by omega)
                      by_cases hq1 : q = M.length
                      · subst hq1
                        obtain rfl : z1 = true := A.1 rfl
                        have H1 := Lib.hid h1
                        clear A B h1 h2
                        go_wp2_with fail
                        refine H1.out.mono ?_
                        rintro e w4 ⟨rfl, rfl⟩
                        go_wp2
                        go_roundw
                        case rel => exact ⟨j + 1, by omega, by go_num, trivial⟩
                        case measure => simp [intOf]; omega
                      · obtain rfl : z1 = false := by
                          cases z1 with
                          | false => rfl
                          | true => exact absurd (A.2 rfl) hq1
                        have q1 : ((q : Int) == (M.length : Int)) = false := by simp; omega
                        have H1 := Lib.hid h1
                        clear A B h1 h2
                        go_wp2_with fail
                        refine H1.out.mono ?_
                        rintro e w4 ⟨rfl, rfl⟩
                        go_wp2
                        go_roundw
                        case rel => exact ⟨j + 1, by omega, by go_num, trivial⟩
                        case measure => simp [intOf]; omega
              · obtain rfl : j = N := by omega
                go_wp2
                go_roundw
                case rel => exact ⟨i + 1, by omega, by go_num, trivial⟩
                case measure => simp [intOf]; omega
          · obtain rfl : i = N := by omega
            have HA := Lib.hid (awake_any w3)
            go_wp2_with fail
            refine HA.out.mono ?_
            rintro e w4 ⟨rfl, b4⟩
            go_wp2
            go_ret
            exact ⟨rfl, B3.out.trans (b4.mono B3.out.size)⟩
      · have hx : exsE n es 720 = poE n es := by unfold exsE; rw [if_neg hp]
        have HX := myExtensions n 720 a c es w hE hle
        have hpb : (poE n es != 0) = true := by simp [hp]
        rw [hx] at HX
        have HX := Lib.hid HX
        clear hE hg hx h6
        go_enter Try.func10, Try.ntmps10
        go_wp2_with fail
        refine HG.out.mono ?_
        rintro e w1 ⟨rfl, rfl⟩
        go_wp2_with fail
        refine HX.out.mono ?_
        rintro e w2 ⟨v2, rfl, _, b2⟩
        have HA := Lib.hid (awake_any w2)
        go_wp2_with fail
        refine HA.out.mono ?_
        rintro e w3 ⟨rfl, b3⟩
        go_wp2
        go_ret
        exact ⟨rfl, b2.trans (b3.mono b2.size)⟩
    · have h6' : (6 : Int) < n := by omega
      have HA := Lib.hid (awake_any w)
      clear hE hg
      go_enter Try.func10, Try.ntmps10
      go_wp2_with fail
      refine HG.out.mono ?_
      rintro e w1 ⟨rfl, rfl⟩
      go_wp2_with fail
      refine HA.out.mono ?_
      rintro e w1 ⟨rfl, b1⟩
      go_wp2
      go_ret
      exact ⟨rfl, b1⟩

end Go.Proofs.Ytkiomcihomkgoaa
