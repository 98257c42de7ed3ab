/-
  What the program's isSame and Equal return.
-/
import Derived.Test.YtfgaihajopfmfaaGreatDoorExDevA
import Derived.Test.YtfgaihajopfmfaaGreatDoorExDevB
namespace Go.Proofs.YtfgaihajopfmfaaGreatDoor
set_option linter.unusedSimpArgs false
set_option linter.unusedVariables false
open Go.RowKit

abbrev fnS : Value := .func (.func 49) #[] #[]
/-- What is asked of isSame by those who hand it on. -/
def SameC (e : Ex) : Prop := ∀ (f : Ex) (a : Option Addr) (n c : Nat) (a' : Option Addr) (n' c' : Nat) (w : World), KX w e (.slice a n c) → KX w f (.slice a' n' c') →
    Calls Tryz.prog 49 #[exV e (.slice a n c), exV f (.slice a' n' c')] w fun x w' => x = .returned (.bool (eqE e f)) ∧ Below w.heap.size w w'
theorem eqL_nolen {es fs : List Ex} (h : ¬ es.length = fs.length) : eqL es fs = false := by
  cases hh : eqL es fs with
  | false => rfl
  | true => exact absurd (eqL_len _ _ hh) h
set_option maxRecDepth 100000 in
set_option maxHeartbeats 8000000 in
theorem eqFunc_any (es fs : List Ex) (ih : ∀ a ∈ es, SameC a) (a : Option Addr) (n c : Nat) (a' : Option Addr) (n' c' : Nat) (w : World) (hK : KA anyB w es (.slice a n c)) (hM : KA anyB w fs (.slice a' n' c')) :
    Calls Tryz.prog 99 #[.slice a n c, .slice a' n' c', fnS] w fun x w' => x = .returned (.bool (eqL es fs)) ∧ Below w.heap.size w w' := by
  obtain ⟨_, _, _, e1, h1, h2, _⟩ := KA.inv hK
  injection e1 with e1 e2 e3
  subst e1 e2 e3
  obtain ⟨_, _, _, e1, h1', h2', _⟩ := KA.inv hM
  injection e1 with e1 e2 e3
  subst e1 e2 e3
  have HEN := enters_of (P := Tryz.prog) Tryz.func49 (by kernel_rfl) rfl
  by_cases c5 : es.length = fs.length
  · obtain ⟨qa, qb⟩ := eq_len c5
    have HL := Lib.hid c5
    have HIH := Lib.hid ih
    have HK := Lib.hid hK
    have HM := Lib.hid hM
    clear c5 ih hK hM
    go_enter Tryz.func99, Tryz.ntmps99
    go_wp2
    go_loopw [17] (fun x wr => ∃ j : Nat, j ≤ es.length ∧ x = .int .i64 j ∧ Hid (eqL es fs = eqL (es.drop j) (fs.drop j)) ∧ Hid (Below w.heap.size w wr)) (fun x _ => es.length - (intOf x).toNat)
    case atStart => exact ⟨0, Nat.zero_le _, rfl, Lib.hid rfl, Lib.hid (Below.refl _ w)⟩
    case round =>
      obtain ⟨j, hj, rfl, HI, HB⟩ := hrel
      by_cases hlt : j < es.length
      · have k1 : (j : Int) < (es.length : Int) := by omega
        have hlt2 : j < fs.length := by rw [← HL.out]; exact hlt
        have k2 : (j : Int) < (fs.length : Int) := by omega
        obtain ⟨sr, hcr⟩ := KA.at_ (HK.out.carry HB.out)
        obtain ⟨hKj, b, off, rfl, _, hbl, y0, y1, y2, y3, y4⟩ := hcr j hlt
        obtain ⟨sr', hcr'⟩ := KA.at_ (HM.out.carry HB.out)
        obtain ⟨hKj', b', off', rfl, _, hbl', z0, z1, z2, z3, z4⟩ := hcr' j hlt2
        obtain ⟨a2, c2, _, hsr, _, _, _⟩ := KA.inv hKj
        obtain ⟨n2, hn2⟩ : ∃ n, (ga es j).es.length = n := ⟨_, rfl⟩
        rw [hn2] at hsr
        rw [hsr] at hKj y4
        obtain ⟨a3, c3, _, hsr', _, _, _⟩ := KA.inv hKj'
        obtain ⟨n3, hn3⟩ : ∃ n, (ga fs j).es.length = n := ⟨_, rfl⟩
        rw [hn3] at hsr'
        rw [hsr'] at hKj' z4
        obtain ⟨W2, hW2⟩ : ∃ W, (wr.alloc (.cells #[.int .i64 (ga es j).k, .int .i64 (ga es j).o, .string (ga es j).s, .int .i64 (ga es j).v, .slice a2 n2 c2] TX (0, 0))).alloc (.cells #[.int .i64 (ga fs j).k, .int .i64 (ga fs j).o, .string (ga fs j).s, .int .i64 (ga fs j).v, .slice a3 n3 c3] TX (0, 0)) = W := ⟨_, rfl⟩
        have hb2 : Below wr.heap.size wr W2 := by rw [← hW2]; exact (twoBlocks wr _ _).2.2
        have HIN := Lib.hid (HIH.out (ga es j) (ga_mem hlt) (ga fs j) a2 n2 c2 a3 n3 c3 W2 (hKj.carry hb2) (hKj'.carry hb2))
        have HI2 := Lib.hid (HI.out.trans (eqL_step es fs j hlt hlt2))
        obtain ⟨q, hq⟩ : ∃ q, eqE (ga es j) (ga fs j) = q := ⟨_, rfl⟩
        rw [hq] at HI2 HIN
        have HW2 := Lib.hid hW2
        have HB2 := Lib.hid (HB.out.trans (hb2.mono HB.out.size))
        simp only [exV] at HIN
        clear hKj hcr hKj' hcr' hq hsr hsr' hn2 hn3 hb2 hW2
        go_wp2_with fail
        rw [HW2.out]
        refine HIN.out.mono ?_
        rintro x w4 ⟨rfl, b4⟩
        have HB4 := Lib.hid (HB2.out.trans (b4.mono HB2.out.size))
        clear b4
        cases q with
        | true =>
          have HI3 : Hid (eqL es fs = eqL (es.drop (j + 1)) (fs.drop (j + 1))) := Lib.hid (by rw [HI2.out]; rfl)
          go_wp2
          go_roundw
          case rel => exact ⟨j + 1, by omega, by go_num, HI3, HB4⟩
          case measure => simp [intOf]; omega
        | false =>
          have HI3 : Hid (eqL es fs = false) := Lib.hid (by rw [HI2.out]; rfl)
          go_wp2
          go_ret
          exact ⟨by rw [HI3.out]; rfl, HB4.out⟩
      · have k1 : ¬ (j : Int) < (es.length : Int) := by omega
        have HI3 : Hid (eqL es fs = true) := Lib.hid (by rw [HI.out, List.drop_eq_nil_of_le (by omega), List.drop_eq_nil_of_le (by rw [← HL.out]; omega)]; simp [eqL])
        go_wp2
        go_ret
        exact ⟨by rw [HI3.out]; rfl, HB.out⟩
  · obtain ⟨qa, qb⟩ := neq_len c5
    have HE := Lib.hid (eqL_nolen c5)
    clear c5 ih hK hM
    go_enter Tryz.func99, Tryz.ntmps99
    go_wp2
    go_ret
    exact ⟨by rw [HE.out]; rfl, Below.refl _ w⟩
set_option maxRecDepth 100000 in
set_option maxHeartbeats 8000000 in
theorem isSame_any (e : Ex) : SameC e := by
  induction e using Ex.ind with
  | h k o s v es ih =>
  intro f a n c a' n' c' w hK hM
  obtain ⟨k', o', s', v', fs⟩ := f
  obtain ⟨W, hW⟩ : ∃ W, (w.alloc (.cells #[.int .i64 k, .int .i64 o, .string s, .int .i64 v, .slice a n c] TX (0, 0))).alloc (.cells #[.int .i64 k', .int .i64 o', .string s', .int .i64 v', .slice a' n' c'] TX (0, 0)) = W := ⟨_, rfl⟩
  have hb : Below w.heap.size w W := by rw [← hW]; exact (twoBlocks w _ _).2.2
  have HIN := Lib.hid (eqFunc_any es fs ih a n c a' n' c' W (KA.carry hK hb) (KA.carry hM hb))
  have HW := Lib.hid hW
  have HB := Lib.hid hb
  have HB' : Hid (Below w.heap.size w ((w.alloc (.cells #[.int .i64 k, .int .i64 o, .string s, .int .i64 v, .slice a n c] TX (0, 0))).alloc (.cells #[.int .i64 k', .int .i64 o', .string s', .int .i64 v', .slice a' n' c'] TX (0, 0)))) := Lib.hid (twoBlocks w _ _).2.2
  simp only [exV, Ex.k, Ex.o, Ex.s, Ex.v] at *
  clear ih hK hM hb hW
  by_cases c1 : k = k'
  · obtain ⟨q1, q2⟩ := ieq c1
    by_cases c2 : o = o'
    · obtain ⟨q3, q4⟩ := ieq c2
      by_cases c3 : s = s'
      · obtain ⟨q5, q6, q7⟩ := str_yes c3
        by_cases c4 : v = v'
        · obtain ⟨q8, q9⟩ := ieq c4
          have HE := Lib.hid (eqE_mk (es := es) (fs := fs) c1 c2 c3 c4)
          clear c1 c2 c3 c4
          go_enter Tryz.func49, Tryz.ntmps49
          go_wp2_with fail
          rw [HW.out]
          refine HIN.out.mono ?_
          rintro x w4 ⟨rfl, b4⟩
          have HB4 := Lib.hid (HB.out.trans (b4.mono HB.out.size))
          clear b4
          go_wp2
          go_ret
          exact ⟨by rw [HE.out]; rfl, HB4.out⟩
        · obtain ⟨q8, q9⟩ := ine c4
          have HE : Hid (eqE (.mk k o s v es) (.mk k' o' s' v' fs) = false) := Lib.hid (eqE_no (fun h => c4 h.2.2.2.1))
          clear c1 c2 c3 c4
          go_enter Tryz.func49, Tryz.ntmps49
          go_wp2
          go_ret
          exact ⟨by rw [HE.out]; rfl, HB'.out⟩
      · obtain ⟨q5, q6, q7⟩ := str_no c3
        have HE : Hid (eqE (.mk k o s v es) (.mk k' o' s' v' fs) = false) := Lib.hid (eqE_no (fun h => c3 h.2.2.1))
        clear c1 c2 c3
        go_enter Tryz.func49, Tryz.ntmps49
        go_wp2
        go_ret
        exact ⟨by rw [HE.out]; rfl, HB'.out⟩
    · obtain ⟨q3, q4⟩ := ine c2
      have HE : Hid (eqE (.mk k o s v es) (.mk k' o' s' v' fs) = false) := Lib.hid (eqE_no (fun h => c2 h.2.1))
      clear c1 c2
      go_enter Tryz.func49, Tryz.ntmps49
      go_wp2
      go_ret
      exact ⟨by rw [HE.out]; rfl, HB'.out⟩
  · obtain ⟨q1, q2⟩ := ine c1
    have HE : Hid (eqE (.mk k o s v es) (.mk k' o' s' v' fs) = false) := Lib.hid (eqE_no (fun h => c1 h.1))
    clear c1
    go_enter Tryz.func49, Tryz.ntmps49
    go_wp2
    go_ret
    exact ⟨by rw [HE.out]; rfl, HB'.out⟩
set_option maxRecDepth 100000 in
set_option maxHeartbeats 8000000 in
/-- Equal. -/
theorem Equal_any (e f : Ex) (a : Option Addr) (n c : Nat) (a' : Option Addr) (n' c' : Nat) (w : World) (hK : KX w e (.slice a n c)) (hM : KX w f (.slice a' n' c')) (he : fitE e) (hf : fitE f) :
    Calls Tryz.prog 18 #[exV e (.slice a n c), exV f (.slice a' n' c')] w fun x w' => x = .returned (.bool (equE e f)) ∧ Below w.heap.size w w' := by
  obtain ⟨W, hW⟩ : ∃ W, (w.alloc (.cells #[.int .i64 e.k, .int .i64 e.o, .string e.s, .int .i64 e.v, .slice a n c] TX (0, 0))).alloc (.cells #[.int .i64 f.k, .int .i64 f.o, .string f.s, .int .i64 f.v, .slice a' n' c'] TX (0, 0)) = W := ⟨_, rfl⟩
  obtain ⟨t0, t1, hb⟩ := twoBlocks w (.cells #[.int .i64 e.k, .int .i64 e.o, .string e.s, .int .i64 e.v, .slice a n c] TX (0, 0)) (.cells #[.int .i64 f.k, .int .i64 f.o, .string f.s, .int .i64 f.v, .slice a' n' c'] TX (0, 0))
  rw [hW] at t0 t1 hb
  have HX : Hid (AtX W w.heap.size 0 e (.slice a n c)) := Lib.hid (by refine ⟨?_, ?_, ?_, ?_, ?_⟩ <;> simp [World.cell?, t0])
  have HY : Hid (AtX W (w.heap.size + 1) 0 f (.slice a' n' c')) := Lib.hid (by refine ⟨?_, ?_, ?_, ?_, ?_⟩ <;> simp [World.cell?, t1])
  have HCE := Lib.hid (check_any e _ W (hK.carry hb) he)
  have HCF := Lib.hid (fun V (hV : Below W.heap.size W V) => check_any f _ V ((hM.carry hb).carry hV) hf)
  have HIS := Lib.hid (fun V (hV : Below W.heap.size W V) => isSame_any e f a n c a' n' c' V ((KA.carry hK hb).carry hV) ((KA.carry hM hb).carry hV))
  have HW := Lib.hid hW
  have HB := Lib.hid hb
  simp only [exV] at HCE HCF HIS ⊢
  clear hK hM he hf hb hW t0 t1
  go_enter Tryz.func18, Tryz.ntmps18
  go_wp2_with fail
  rw [HW.out]
  refine HCE.out.mono ?_
  rintro x w4 ⟨rfl, b4⟩
  have HV4 := Lib.hid b4
  have HB4 := Lib.hid (HB.out.trans (b4.mono HB.out.size))
  obtain ⟨x0, x1, x2, x3, x4⟩ := HX.out.keep (b4.block _ HX.out.lt)
  obtain ⟨y0, y1, y2, y3, y4⟩ := HY.out.keep (b4.block _ HY.out.lt)
  simp only [Nat.zero_add] at x1 x2 x3 x4 y1 y2 y3 y4
  clear b4
  by_cases h : ckE e = 0
  · obtain ⟨q1, q2⟩ := ieq h
    have HH := Lib.hid h
    have HC := Lib.hid (HCF.out w4 HV4.out)
    rw [h] at q1 q2 ⊢
    clear h
    go_wp2_with fail
    refine HC.out.mono ?_
    rintro x w5 ⟨rfl, b5⟩
    have HV5 := Lib.hid (HV4.out.trans (b5.mono HV4.out.size))
    have HB5 := Lib.hid (HB4.out.trans (b5.mono HB4.out.size))
    obtain ⟨x0, x1, x2, x3, x4⟩ := HX.out.keep (HV5.out.block _ HX.out.lt)
    obtain ⟨y0, y1, y2, y3, y4⟩ := HY.out.keep (HV5.out.block _ HY.out.lt)
    simp only [Nat.zero_add] at x1 x2 x3 x4 y1 y2 y3 y4
    clear b5
    by_cases g : ckE f = 0
    · obtain ⟨p1, p2⟩ := ieq g
      have HE : Hid (equE e f = eqE e f) := Lib.hid (by unfold equE; rw [HH.out, g]; simp)
      have HI := Lib.hid (HIS.out w5 HV5.out)
      rw [g] at p1 p2 ⊢
      clear g
      go_wp2_with fail
      refine HI.out.mono ?_
      rintro x w6 ⟨rfl, b6⟩
      have HB6 := Lib.hid (HB5.out.trans (b6.mono HB5.out.size))
      clear b6
      go_wp2
      go_ret
      exact ⟨by rw [HE.out]; rfl, HB6.out⟩
    · obtain ⟨p1, p2⟩ := ine g
      have HE : Hid (equE e f = false) := Lib.hid (by unfold equE; simp [g])
      clear g
      go_wp2
      go_ret
      exact ⟨by rw [HE.out]; rfl, HB5.out⟩
  · obtain ⟨q1, q2⟩ := ine h
    have HE : Hid (equE e f = false) := Lib.hid (by unfold equE; simp [h])
    clear h
    go_wp2
    go_ret
    exact ⟨by rw [HE.out]; rfl, HB4.out⟩

end Go.Proofs.YtfgaihajopfmfaaGreatDoor
