/-
  What the reference's names and Names return.
-/
import Derived.Test.YtfgaihajopfmfaaGreatDoorExRIns
import Derived.Test.YtfgaihajopfmfaaGreatDoorExLit
namespace Go.Proofs.YtfgaihajopfmfaaGreatDoor
set_option linter.unusedSimpArgs false
set_option linter.unusedVariables false
open Go.RowKit Go.Shelf

theorem insF_len (l : List (List UInt8)) (s : List UInt8) : (insF l s).length ≤ l.length + 1 := by
  unfold insF
  split
  · omega
  · have := congrArg List.length (List.takeWhile_append_dropWhile (p := fun x => !decide (s < x)) (l := l))
    rw [List.length_append] at this
    rw [List.length_append, List.length_cons]
    omega
mutual
theorem nmG_len : ∀ (e : Ex) (l : List (List UInt8)), (nmG e l).length ≤ l.length + szE e
  | .mk k o s v es, l => by
    simp only [nmG, szE]
    by_cases hk : k = 2
    · rw [if_pos hk]
      have := insF_len l s.data.toList
      omega
    · rw [if_neg hk]
      have := nmGL_len es l
      omega
theorem nmGL_len : ∀ (es : List Ex) (l : List (List UInt8)), (nmGL es l).length ≤ l.length + szL es
  | [], l => by simp [nmGL, szL]
  | a :: r, l => by
    simp only [nmGL, szL]
    have := nmG_len a l
    have := nmGL_len r (nmG a l)
    omega
end
set_option maxRecDepth 100000 in
set_option maxHeartbeats 4000000 in
theorem rnames_any (e : Ex) : ∀ (sl u : Value) (ls : List (List UInt8)) (w : World), KX w e sl → KS w u ls → ls.length + szE e ≤ 5000 →
    Calls Tryz.prog 48 #[exV e sl, u] w fun x w' => ∃ u', x = .returned u' ∧ KS w' u' (nmG e ls) ∧ Below w.heap.size w w' := by
  induction e using Ex.ind with
  | h k o s v es ih =>
  intro sl u ls w hK hS hn
  obtain ⟨a, c, sf, rfl, h1, h2, hc⟩ := KA.inv hK
  have HIH := Lib.hid ih
  have HK := Lib.hid hK
  simp only [Ex.es] at h1
  have h1 : es.length ≤ c := h1
  have hb0 : Below w.heap.size w (w.alloc (.cells #[.int .i64 k, .int .i64 o, .string s, .int .i64 v, .slice a es.length c] TX)) := (Below.refl _ w).alloc (Nat.le_refl _) _
  have HB0 := Lib.hid hb0
  have HS0 := Lib.hid (hS.carry hb0)
  obtain ⟨x0, x1, x2, x3, x4⟩ := boxX w k o s v (.slice a es.length c) es
  simp only [Ex.k, Ex.o, Ex.s, Ex.v, Ex.es] at *
  simp only [exV, Ex.k, Ex.o, Ex.s, Ex.v]
  have hsz : szE (.mk k o s v es) = szL es + 1 := by simp only [szE]; omega
  rw [hsz] at hn
  obtain ⟨au, cu, rfl, _, _, _⟩ := id hS
  clear hc ih hK hb0 hS hsz
  by_cases hk : k = 2
  · obtain ⟨q1, q2⟩ := ieq hk
    have HI := Lib.hid (rinsert_any ls (.slice au ls.length cu) s (w.alloc (.cells #[.int .i64 k, .int .i64 o, .string s, .int .i64 v, .slice a es.length c] TX)) (by omega) HS0.out)
    have HR : Hid (nmG (.mk k o s v es) ls = insF ls s.data.toList) := Lib.hid (by simp only [nmG]; rw [if_pos hk])
    clear hk
    go_enter Tryz.func48, Tryz.ntmps48
    go_wp2_with fail
    refine HI.out.mono ?_
    rintro x w4 ⟨u', rfl, k4, b4⟩
    have HK4 := Lib.hid k4
    have HB4 := Lib.hid (HB0.out.trans (b4.mono HB0.out.size))
    clear k4 b4
    go_wp2
    go_ret
    exact ⟨_, rfl, by rw [HR.out]; exact HK4.out, HB4.out⟩
  · obtain ⟨q1, q2⟩ := ine hk
    have HR : Hid (nmG (.mk k o s v es) ls = nmGL es ls) := Lib.hid (by simp only [nmG]; rw [if_neg hk])
    clear hk
    go_enter Tryz.func48, Tryz.ntmps48
    go_wp2
    go_loopw [5, 1] (fun x y wr => ∃ (j : Nat) (u : Value) (cs : List (List UInt8)), u = y ∧ j ≤ es.length ∧ x = .int .i64 j ∧ Hid (KS wr u cs) ∧ Hid (nmGL es ls = nmGL (es.drop j) cs ∧ cs.length + szL (es.drop j) ≤ 4999) ∧ Hid (Below w.heap.size w wr) ∧ Hid (KX wr (.mk k o s v es) (.slice a es.length c)) ∧ wr.cell? ⟨w.heap.size, 4, none⟩ = some (.slice a es.length c)) (fun x _ _ => es.length - (intOf x).toNat)
    case atStart => exact ⟨0, _, ls, rfl, Nat.zero_le _, rfl, HS0, Lib.hid ⟨by simp, by simp; omega⟩, HB0, Lib.hid (HK.out.carry HB0.out), x4⟩
    case round =>
      obtain ⟨j, u, cs, rfl, hj, rfl, HSr, HI, HB, HKr, hx⟩ := hrel
      by_cases hlt : j < es.length
      · have k1 : (j : Int) < (es.length : Int) := by omega
        obtain ⟨sr, hcr⟩ := KA.at_ (show KA anyB wr es _ from HKr.out)
        obtain ⟨hKj, b, off, rfl, _, hbl, y0, y1, y2, y3, y4⟩ := hcr j hlt
        have hz := drop_consX es j hlt
        have hI1 := HI.out.1
        have hI2 := HI.out.2
        rw [hz] at hI1 hI2
        simp only [nmGL, szL] at hI1 hI2
        have HIN := Lib.hid (HIH.out (ga es j) (ga_mem hlt) (sr j) u cs wr hKj HSr.out (by omega))
        have HI2 : Hid (nmGL es ls = nmGL (es.drop (j + 1)) (nmG (ga es j) cs) ∧ (nmG (ga es j) cs).length + szL (es.drop (j + 1)) ≤ 4999) := Lib.hid ⟨hI1, by have := nmG_len (ga es j) cs; omega⟩
        have HX := Lib.hid hx
        simp only [exV] at HIN
        clear hKj hcr hz hI1 hI2
        go_wp2_with fail
        refine HIN.out.mono ?_
        rintro x w4 ⟨u', rfl, k4, b4⟩
        have hx4 := (b4.cell (p := ⟨w.heap.size, 4, none⟩) (World.block_lt_of_cell? _ _ hx)).trans hx
        have HB4 := Lib.hid (HB.out.trans (b4.mono HB.out.size))
        have HK4 := Lib.hid (HKr.out.carry b4)
        have HS4 := Lib.hid k4
        clear b4 k4
        go_wp2
        go_roundw
        case rel => exact ⟨j + 1, u', _, rfl, by omega, by go_num, HS4, HI2, HB4, HK4, hx4⟩
        case measure => simp [intOf]; omega
      · have k1 : ¬ (j : Int) < (es.length : Int) := by omega
        have HE : Hid (KS wr u (nmG (.mk k o s v es) ls)) := Lib.hid (by
          rw [HR.out, HI.out.1, List.drop_eq_nil_of_le (by omega)]
          exact HSr.out)
        go_wp2
        go_ret
        exact ⟨_, rfl, HE.out, HB.out⟩
set_option maxRecDepth 100000 in
set_option maxHeartbeats 4000000 in
theorem rNames_any (e : Ex) (a : Option Addr) (n c : Nat) (w : World) (hK : KX w e (.slice a n c)) (hf : fitE e) :
    Calls Tryz.prog 17 #[exV e (.slice a n c)] w fun x w' => ∃ v, x = .returned v ∧ KS w' v (nmF e) ∧ Below w.heap.size w w' := by
  obtain ⟨w1, hw1⟩ : ∃ X, w.alloc (.cells #[.int .i64 e.k, .int .i64 e.o, .string e.s, .int .i64 e.v, .slice a n c] TX) = X := ⟨_, rfl⟩
  have hb1 : Below w.heap.size w w1 := by rw [← hw1]; exact below_allocW w _
  have hx1 : AtX w1 w.heap.size 0 e (.slice a n c) := by rw [← hw1]; exact boxX w e.k e.o e.s e.v _ e.es
  have HCK := Lib.hid (rCheck_any e (.slice a n c) w1 (hK.carry hb1) hf)
  have HW := Lib.hid hw1
  have HX1 := Lib.hid hx1
  have HB1 := Lib.hid hb1
  have HK := Lib.hid hK
  simp only [exV] at HCK ⊢
  clear hw1 hx1 hb1 hK
  have he (W : World) : Hid (KS (W.alloc (.cells #[] TS)) (.slice (some ⟨W.heap.size, 0, none⟩) 0 0) []) := Lib.hid ⟨_, 0, rfl, Nat.le_refl _, by omega, fun j hj => by simp at hj⟩
  by_cases h : ckE e = 0
  · obtain ⟨q1, q2⟩ := ieq h
    have HN : Hid (nmF e = nmG e []) := Lib.hid (by rw [names_eq, if_pos h])
    have HS : Hid (szE e ≤ 100) := Lib.hid (ckE_ok.1 h).1
    rw [h] at HCK
    clear h
    go_enter Tryz.func17, Tryz.ntmps17
    go_wp2_with fail
    rw [HW.out]
    refine HCK.out.mono ?_
    rintro x w2 ⟨rfl, b2⟩
    have HX2 := Lib.hid (AtX.later HX1.out b2)
    have HB2 := Lib.hid (HB1.out.trans (b2.mono HB1.out.size))
    obtain ⟨r0, r1, r2, r3, r4⟩ := HX2.out
    simp only [Nat.zero_add] at r1 r2 r3 r4
    have hb3 : Below w2.heap.size w2 (w2.alloc (.cells #[] TS)) := below_allocW w2 _
    have HIN := Lib.hid (rnames_any e (.slice a n c) (.slice (some ⟨w2.heap.size, 0, none⟩) 0 0) [] (w2.alloc (.cells #[] TS)) ((HK.out.carry HB2.out).carry hb3) (he w2).out (by have := HS.out; simp; omega))
    have HB3 := Lib.hid (HB2.out.trans (hb3.mono HB2.out.size))
    simp only [exV] at HIN
    clear b2 hb3
    go_wp2_with fail
    refine HIN.out.mono ?_
    rintro x w4 ⟨v, rfl, k4, b4⟩
    have HK4 := Lib.hid k4
    have HB4 := Lib.hid (HB3.out.trans (b4.mono HB3.out.size))
    clear k4 b4
    go_wp2
    go_ret
    exact ⟨_, rfl, by rw [HN.out]; exact HK4.out, HB4.out⟩
  · obtain ⟨q1, q2⟩ := ine h
    have HN : Hid (nmF e = []) := Lib.hid (by rw [names_eq, if_neg h])
    clear h
    go_enter Tryz.func17, Tryz.ntmps17
    go_wp2_with fail
    rw [HW.out]
    refine HCK.out.mono ?_
    rintro x w2 ⟨rfl, b2⟩
    have HB2 := Lib.hid (HB1.out.trans (b2.mono HB1.out.size))
    have HB3 := Lib.hid (HB2.out.trans ((below_allocW w2 (.cells #[] TS)).mono HB2.out.size))
    clear b2
    go_wp2
    go_ret
    exact ⟨_, rfl, by rw [HN.out]; exact (he w2).out, HB3.out⟩

end Go.Proofs.YtfgaihajopfmfaaGreatDoor
