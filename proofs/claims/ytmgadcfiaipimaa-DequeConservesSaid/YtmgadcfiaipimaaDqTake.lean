/-
  What Push, Pop, Steal and Half return.
-/
import Derived.Test.YtmgadcfiaipimaaDqCut
namespace Go.Proofs.Ytmgadcfiaipimaa
open Go.RowKit

set_option maxRecDepth 100000 in
set_option maxHeartbeats 2000000 in
/-- Pop. -/
theorem pop_any (v : Value) (l : List Int) (w : World) (hK : KZ w v l) :
    Calls Try.prog 14 #[v] w (RetX (popQ l) (popX l) (takeE l) w) := by
  have HC := checkSome_any v l w hK
  by_cases h : takeE l = 0
  · obtain ⟨hd, hne⟩ := takeE_iff.1 h
    have hlen := dqE_len hd
    have hpos := List.length_pos_iff.2 hne
    have hr1 : popQ l = l.take (l.length - 1) := if_pos h
    have hr2 : popX l = gz l (l.length - 1) := if_pos h
    have hcut := cut_any v l (l.length - 1) w hK (by omega) (by omega)
    rw [h] at HC ⊢
    rw [hr1, hr2]
    obtain ⟨ad, cap, rfl, hc1, hc2, hA⟩ := hK
    have q1 : IntKind.i64.wrap ((l.length : Int) - 1) = ((l.length - 1 : Nat) : Int) := by rw [IntWalk.i64_in _ (by omega)]; omega
    have HC := Lib.hid HC
    have HCUT := Lib.hid hcut
    have HD1 : Hid ((l.drop (l.length - 1)).length = 1) := Lib.hid (by rw [List.length_drop]; omega)
    have HG : Hid (gz (l.drop (l.length - 1)) 0 = gz l (l.length - 1)) := Lib.hid (by rw [gz_drop, Nat.add_zero])
    clear hA hr1 hr2 hcut h hd hne
    go_enter Try.func14, Try.ntmps14
    go_wp2_with fail
    refine HC.out.mono ?_
    rintro e w1 ⟨rfl, rfl⟩
    go_wp2_with fail
    refine HCUT.out.mono ?_
    rintro e w2 ⟨u1, u2, rfl, k1, k2, b2⟩
    obtain ⟨a2, c2, rfl, hc3, hc4, hA2⟩ := k2.kz
    rw [HD1.out]
    obtain ⟨b0, off, rfl, _, hc⟩ := hA2 0 (by rw [HD1.out]; omega)
    change w2.cell? ⟨b0, off + 0, none⟩ = some (.int .i64 (gz (l.drop (l.length - 1)) 0)) at hc
    rw [HG.out, Nat.add_zero] at hc
    obtain ⟨x, hx⟩ : ∃ x, gz l (l.length - 1) = x := ⟨_, rfl⟩
    rw [hx] at hc
    have HX := Lib.hid hx
    have K1 := Lib.hid k1
    have B2 := Lib.hid b2
    clear hx k1 b2 hA2
    go_wp2
    go_quiet (fail)
    go_wp2
    go_ret3
    exact ⟨_, by rw [HX.out]; rfl, K1.out, below_drewZ B2.out⟩
  · have hr1 : popQ l = [] := if_neg h
    have hr2 : popX l = 0 := if_neg h
    rw [hr1, hr2]
    obtain ⟨z, hz⟩ : ∃ z, takeE l = z := ⟨_, rfl⟩
    rw [hz] at HC h ⊢
    have h0' : (z != 0) = true := by simpa using h
    have HC := Lib.hid HC
    clear hK hr1 hr2 hz h
    go_enter Try.func14, Try.ntmps14
    go_wp2_with fail
    refine HC.out.mono ?_
    rintro e w1 ⟨rfl, rfl⟩
    go_wp2
    go_ret3
    exact ⟨_, rfl, FzC.nil _ _ _ _ (by decide), Below.refl _ _⟩

set_option maxRecDepth 100000 in
set_option maxHeartbeats 2000000 in
/-- Steal. -/
theorem steal_any (v : Value) (l : List Int) (w : World) (hK : KZ w v l) :
    Calls Try.prog 16 #[v] w (RetX (stealQ l) (stealX l) (takeE l) w) := by
  have HC := checkSome_any v l w hK
  by_cases h : takeE l = 0
  · obtain ⟨hd, hne⟩ := takeE_iff.1 h
    have hlen := dqE_len hd
    have hpos := List.length_pos_iff.2 hne
    have hr1 : stealQ l = l.drop 1 := if_pos h
    have hr2 : stealX l = gz l 0 := if_pos h
    have hcut := cut_any v l 1 w hK (by omega) (by omega)
    rw [h] at HC ⊢
    rw [hr1, hr2]
    obtain ⟨ad, cap, rfl, hc1, hc2, hA⟩ := hK
    have HC := Lib.hid HC
    have HCUT := Lib.hid hcut
    have HD1 : Hid ((l.take 1).length = 1) := Lib.hid (by rw [List.length_take]; omega)
    have HG : Hid (gz (l.take 1) 0 = gz l 0) := Lib.hid (gz_take (by decide))
    clear hA hr1 hr2 hcut h hd hne
    go_enter Try.func16, Try.ntmps16
    go_wp2_with fail
    refine HC.out.mono ?_
    rintro e w1 ⟨rfl, rfl⟩
    go_wp2_with fail
    refine HCUT.out.mono ?_
    rintro e w2 ⟨u1, u2, rfl, k2, k1, b2⟩
    obtain ⟨a2, c2, rfl, hc3, hc4, hA2⟩ := k2.kz
    rw [HD1.out]
    obtain ⟨b0, off, rfl, _, hc⟩ := hA2 0 (by rw [HD1.out]; omega)
    change w2.cell? ⟨b0, off + 0, none⟩ = some (.int .i64 (gz (l.take 1) 0)) at hc
    rw [HG.out, Nat.add_zero] at hc
    obtain ⟨x, hx⟩ : ∃ x, gz l 0 = x := ⟨_, rfl⟩
    rw [hx] at hc
    have HX := Lib.hid hx
    have K1 := Lib.hid k1
    have B2 := Lib.hid b2
    clear hx k1 b2 hA2
    go_wp2
    go_quiet (fail)
    go_wp2
    go_ret3
    exact ⟨_, by rw [HX.out]; rfl, K1.out, below_drewZ B2.out⟩
  · have hr1 : stealQ l = [] := if_neg h
    have hr2 : stealX l = 0 := if_neg h
    rw [hr1, hr2]
    obtain ⟨z, hz⟩ : ∃ z, takeE l = z := ⟨_, rfl⟩
    rw [hz] at HC h ⊢
    have h0' : (z != 0) = true := by simpa using h
    have HC := Lib.hid HC
    clear hK hr1 hr2 hz h
    go_enter Try.func16, Try.ntmps16
    go_wp2_with fail
    refine HC.out.mono ?_
    rintro e w1 ⟨rfl, rfl⟩
    go_wp2
    go_ret3
    exact ⟨_, rfl, FzC.nil _ _ _ _ (by decide), Below.refl _ _⟩

set_option maxRecDepth 100000 in
set_option maxHeartbeats 2000000 in
/-- Half. -/
theorem half_any (v : Value) (l : List Int) (w : World) (hK : KZ w v l) :
    Calls Try.prog 18 #[v] w (RetD (halfR l) (halfU l) w) := by
  have HC := check_any v l w hK
  by_cases h : dqE l = 0
  · have hlen := dqE_len h
    have hr1 : halfR l = l.drop ((l.length + 1) / 2) := if_pos h
    have hr2 : halfU l = l.take ((l.length + 1) / 2) := if_pos h
    have hcut := cut_any v l ((l.length + 1) / 2) w hK (by omega) (by omega)
    rw [h] at HC
    rw [hr1, hr2]
    obtain ⟨ad, cap, rfl, hc1, hc2, hA⟩ := hK
    obtain ⟨m, hm⟩ : ∃ m, (l.length + 1) / 2 = m := ⟨_, rfl⟩
    have q1 : IntKind.i64.wrap ((l.length : Int) + 1) = (l.length : Int) + 1 := IntWalk.i64_in _ (by omega)
    have q2 : ((l.length : Int) + 1).tdiv 2 = (m : Int) := by rw [Int.tdiv_eq_ediv_of_nonneg (by omega)]; omega
    have q3 : IntKind.i64.wrap (m : Int) = (m : Int) := IntWalk.i64_in _ (by omega)
    rw [hm] at hcut ⊢
    have HC := Lib.hid HC
    have HCUT := Lib.hid hcut
    clear hA hr1 hr2 hcut h hm
    go_enter Try.func18, Try.ntmps18
    go_wp2_with fail
    refine HC.out.mono ?_
    rintro e w1 ⟨rfl, rfl⟩
    go_wp2_with fail
    refine HCUT.out.mono ?_
    rintro e w2 ⟨u1, u2, rfl, k2, k1, b2⟩
    have K1 := Lib.hid k1
    have K2 := Lib.hid k2
    have B2 := Lib.hid b2
    clear k1 k2 b2
    go_wp2
    go_ret2
    exact ⟨_, _, rfl, K1.out, K2.out, B2.out⟩
  · have hr1 : halfR l = [] := if_neg h
    have hr2 : halfU l = [] := if_neg h
    rw [hr1, hr2]
    obtain ⟨z, hz⟩ : ∃ z, dqE l = z := ⟨_, rfl⟩
    rw [hz] at HC h
    have h0' : (z != 0) = true := by simpa using h
    have HC := Lib.hid HC
    clear hK hr1 hr2 hz h
    go_enter Try.func18, Try.ntmps18
    go_wp2_with fail
    refine HC.out.mono ?_
    rintro e w1 ⟨rfl, rfl⟩
    go_wp2
    go_ret2
    exact ⟨_, _, rfl, FzC.nil _ _ _ _ (by decide), FzC.nil _ _ _ _ (by decide), Below.refl _ _⟩

set_option maxRecDepth 100000 in
set_option maxHeartbeats 2000000 in
/-- Push. -/
theorem push_any (v : Value) (l : List Int) (x : Int) (w : World) (hK : KZ w v l) :
    Calls Try.prog 12 #[v, .int .i64 x] w (RetZ (pushQ l x) (pushE l x) w) := by
  have HC := check_any v l w hK
  by_cases h : dqE l = 0
  · have hlen := dqE_len h
    have HN := checkNew_any v l x w hK.lc (by omega)
    rw [h] at HC
    by_cases hn : dnE l x = 0
    · have hE : pushE l x = 0 := pushE_iff.2 ⟨h, hn⟩
      have hQ : pushQ l x = l ++ [x] := if_pos hE
      rw [hE, hQ]
      rw [hn] at HN
      have HCL := Lib.hid (zClone_any v l w hK (by omega))
      have HC := Lib.hid HC
      have HN := Lib.hid HN
      clear hK hE hQ h hn
      go_enter Try.func12, Try.ntmps12
      go_wp2_with fail
      refine HC.out.mono ?_
      rintro e w1 ⟨rfl, rfl⟩
      go_wp2_with fail
      refine HN.out.mono ?_
      rintro e w1 ⟨rfl, rfl⟩
      go_wp2_with fail
      refine HCL.out.mono ?_
      rintro e w1 ⟨v1, rfl, o1, b1⟩
      have hb2 : Below w1.heap.size w1 (w1.alloc (.cells #[.int .i64 x] TZ)) := (Below.refl _ _).alloc (Nat.le_refl _) _
      obtain ⟨v3, W3, hr, ho, hg, hb3⟩ := append_oneZ (w1.alloc (.cells #[.int .i64 x] TZ)) w.heap.size v1 l x w1.heap.size (o1.below hb2) (World.alloc_heap_new w1 _) (by omega) (Nat.le_trans b1.size hb2.size)
      have HO := Lib.hid ho
      have HB := Lib.hid ((b1.trans (hb2.mono b1.size)).trans hb3)
      clear o1 b1 hb2 ho hg hb3
      go_wp2_with (at_builtin; refine append_by_run _ rfl _ _ 22 rfl _ _ rfl rfl _ _ hr ?_)
      go_ret2
      exact ⟨_, rfl, HO.out.fz, HB.out⟩
    · have hE : pushE l x = dnE l x := if_pos h
      have hQ : pushQ l x = [] := if_neg (by rw [hE]; exact hn)
      rw [hE, hQ]
      obtain ⟨z, hz⟩ : ∃ z, dnE l x = z := ⟨_, rfl⟩
      rw [hz] at HN hn ⊢
      have h0' : (z != 0) = true := by simpa using hn
      have HC := Lib.hid HC
      have HN := Lib.hid HN
      clear hK hE hQ h hn hz
      go_enter Try.func12, Try.ntmps12
      go_wp2_with fail
      refine HC.out.mono ?_
      rintro e w1 ⟨rfl, rfl⟩
      go_wp2_with fail
      refine HN.out.mono ?_
      rintro e w1 ⟨rfl, rfl⟩
      go_wp2
      go_ret2
      exact ⟨_, rfl, FzC.nil _ _ _ _ (by decide), Below.refl _ _⟩
  · have hE : pushE l x = dqE l := if_neg h
    have hQ : pushQ l x = [] := if_neg (by rw [hE]; exact h)
    rw [hE, hQ]
    obtain ⟨z, hz⟩ : ∃ z, dqE l = z := ⟨_, rfl⟩
    rw [hz] at HC h ⊢
    have h0' : (z != 0) = true := by simpa using h
    have HC := Lib.hid HC
    clear hK hE hQ hz h
    go_enter Try.func12, Try.ntmps12
    go_wp2_with fail
    refine HC.out.mono ?_
    rintro e w1 ⟨rfl, rfl⟩
    go_wp2
    go_ret2
    exact ⟨_, rfl, FzC.nil _ _ _ _ (by decide), Below.refl _ _⟩

end Go.Proofs.Ytmgadcfiaipimaa
