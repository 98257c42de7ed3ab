/-
  Whether a string is a name: the reference's IsName, the program's isName. What the reference's size, Size and depth return. What the reference's part returns. What the reference's depth and Size return. What the reference's parts and Check return. What the reference's same returns. What the reference's Equal, long, Great and Zero return.
-/
import Derived.Test.YtdgphhdkeikbaaaDoorExBase
/-! ### ExName: Whether a string is a name: the reference's IsName, the program's isName. -/
namespace Go.Proofs.YtdgphhdkeikbaaaDoor
set_option linter.unusedSimpArgs false
set_option linter.unusedVariables false
open Go.RowKit

theorem byte_ltX (c : UInt8) : (c.toNat : Int) < 256 := by have := c.toNat_lt; omega
theorem lowI (c : UInt8) : isLow c = (decide ((97 : Int) ≤ (c.toNat : Int)) && decide ((c.toNat : Int) ≤ 122)) := by
  unfold isLow
  congr 1 <;> (rw [decide_eq_decide]; rw [UInt8.le_iff_toNat_le]; simp; omega)
theorem digI (c : UInt8) : (decide (48 ≤ c) && decide (c ≤ 57)) = (decide ((48 : Int) ≤ (c.toNat : Int)) && decide ((c.toNat : Int) ≤ 57)) := by
  congr 1 <;> (rw [decide_eq_decide]; rw [UInt8.le_iff_toNat_le]; simp; omega)
theorem undI (c : UInt8) : (c == 95) = ((c.toNat : Int) == 95) := by
  rw [Bool.eq_iff_iff]
  simp only [beq_iff_eq]
  constructor
  · rintro rfl; rfl
  · intro h
    apply UInt8.toNat_inj.1
    simp
    omega
/-- The bytes behind a place are such as a name may have. -/
def nmR (s : ByteArray) (j : Nat) : Bool := (s.data.toList.drop j).all isNmC
theorem nmR_step {s : ByteArray} {j : Nat} (h : j < s.size) : nmR s j = (isNmC s[j] && nmR s (j + 1)) := by
  unfold nmR
  rw [show s.data.toList.drop j = s[j] :: s.data.toList.drop (j + 1) by rw [List.drop_eq_getElem_cons (by simpa using h)]; rfl]
  rfl
theorem nmR_end {s : ByteArray} {j : Nat} (h : s.size ≤ j) : nmR s j = true := by
  unfold nmR
  rw [List.drop_eq_nil_of_le (by simpa using h)]
  rfl
theorem nmB_eq (s : ByteArray) (h1 : 1 ≤ s.size) (h2 : s.size ≤ 30) : nmB s = (isLow (s[0]'(by omega)) && nmR s 1) := by
  obtain ⟨⟨l⟩⟩ := s
  cases l with
  | nil => simp [ByteArray.size] at h1
  | cons c r =>
    have : r.length + 1 ≤ 30 := by simpa [ByteArray.size] using h2
    simp [nmB, nmR, this]
    rfl
theorem nmB_long (s : ByteArray) (h : 30 < s.size) : nmB s = false := by
  obtain ⟨⟨l⟩⟩ := s
  cases l with
  | nil => simp [ByteArray.size] at h
  | cons c r =>
    have h : 30 < r.length + 1 := by simpa [ByteArray.size] using h
    have : ¬ r.length + 1 ≤ 30 := by omega
    simp only [nmB]
    simp [this]
theorem nmB_nil : nmB .empty = false := rfl
theorem low_nm {c : UInt8} (h : isLow c = true) : isNmC c = true := by simp [isNmC, h]
/-! ### The walks -/

theorem isLow_of {c : UInt8} (h1 : (97 : Int) ≤ (c.toNat : Int)) (h2 : (c.toNat : Int) ≤ 122) : isLow c = true := by rw [lowI]; simp [h1, h2]
theorem isLow_hi {c : UInt8} (h2 : ¬ (c.toNat : Int) ≤ 122) : isLow c = false := by rw [lowI]; simp [h2]
theorem isLow_lo {c : UInt8} (h1 : ¬ (97 : Int) ≤ (c.toNat : Int)) : isLow c = false := by rw [lowI]; simp [h1]
theorem nmC_eq (c : UInt8) : isNmC c = (isLow c || (decide ((48 : Int) ≤ (c.toNat : Int)) && decide ((c.toNat : Int) ≤ 57)) || ((c.toNat : Int) == 95)) := by unfold isNmC; rw [digI, undI]
theorem nmB_first {s : ByteArray} (h1 : 1 ≤ s.size) (h2 : s.size ≤ 30) (h : isLow (s[0]'(by omega)) = false) : nmB s = false := by rw [nmB_eq s h1 h2, h]; rfl
theorem nm_no {s : ByteArray} {j : Nat} (h1 : 1 ≤ s.size) (h2 : s.size ≤ 30) (hj : j < s.size) (hI : j ≠ 0 → nmB s = nmR s j) (hc : isNmC s[j] = false) : nmB s = false := by
  by_cases h0 : j = 0
  · subst h0
    refine nmB_first h1 h2 ?_
    cases h : isLow s[0] with
    | false => rfl
    | true => rw [low_nm h] at hc; cases hc
  · rw [hI h0, nmR_step hj, hc]; rfl
theorem nm_yes {s : ByteArray} {j : Nat} (h1 : 1 ≤ s.size) (h2 : s.size ≤ 30) (hj : j < s.size) (hI : j ≠ 0 → nmB s = nmR s j) (hc : isNmC s[j] = true) (h0 : j = 0 → isLow s[j] = true) : j + 1 ≠ 0 → nmB s = nmR s (j + 1) := by
  intro _
  by_cases h : j = 0
  · subst h
    rw [nmB_eq s h1 h2, h0 rfl]; rfl
  · rw [hI h, nmR_step hj, hc]; rfl
theorem emp_size {s : ByteArray} (h : s.size = 0) : s = .empty := by
  obtain ⟨⟨l⟩⟩ := s
  cases l with
  | nil => rfl
  | cons c r => simp [ByteArray.size] at h
set_option maxRecDepth 100000 in
set_option maxHeartbeats 8000000 in
theorem rIsName_same (s : ByteArray) (w : World) (hs : s.size ≤ 9223372036854775807) :
    Calls Tryd.prog 95 #[.string s] w fun x w' => x = .returned (.bool (nmB s)) ∧ w' = w := by
  by_cases h0 : s.size = 0
  · have := emp_size h0
    subst this
    rw [nmB_nil]
    go_enter Tryd.func95, Tryd.ntmps95
    go_wp2
    go_ret
    exact ⟨rfl, rfl⟩
  have hse : s.toList.isEmpty = false := (emp_no (fun e => h0 (by subst e; rfl))).1
  by_cases h30 : 30 < s.size
  · have h31 : (30 : Int) < (s.size : Int) := by omega
    rw [nmB_long s h30]
    go_enter Tryd.func95, Tryd.ntmps95
    go_wp2
    go_ret
    exact ⟨rfl, rfl⟩
  have h31 : ¬ (30 : Int) < (s.size : Int) := by omega
  have H1 : Hid (1 ≤ s.size) := Lib.hid (by omega)
  have H2 : Hid (s.size ≤ 30) := Lib.hid (by omega)
  clear h0 h30
  go_enter Tryd.func95, Tryd.ntmps95
  go_wp2
  go_loopw [3] (fun x wr => ∃ j : Nat, j ≤ s.size ∧ x = .int .i64 j ∧ Hid (j ≠ 0 → nmB s = nmR s j) ∧ wr = w) (fun x _ => s.size - (intOf x).toNat)
  case atStart => exact ⟨0, Nat.zero_le _, rfl, Lib.hid (fun h => absurd rfl h), rfl⟩
  case round =>
    obtain ⟨j, hj, rfl, HI, rfl⟩ := hrel
    by_cases hlt : j < s.size
    · have k1 : (j : Int) < (s.size : Int) := by omega
      have HNO := Lib.hid (fun hc => nm_no H1.out H2.out hlt HI.out hc)
      have HYES := Lib.hid (fun hc h0 => nm_yes H1.out H2.out hlt HI.out hc h0)
      have HC := Lib.hid (nmC_eq s[j])
      obtain ⟨c, hc⟩ : ∃ c, s[j] = c := ⟨_, rfl⟩
      rw [hc] at HNO HYES HC
      have hlow := lowI c

      by_cases a1 : (97 : Int) ≤ (c.toNat : Int)
      · by_cases a2 : (c.toNat : Int) ≤ 122
        · skip
          have d1 : (48 : Int) ≤ (c.toNat : Int) := by omega
          have d2 : ¬ (c.toNat : Int) ≤ 57 := by omega
          have d3 : ((c.toNat : Int) == 95) = false := by simp; omega
          have HR := Lib.hid (HYES.out (by rw [HC.out, hlow]; simp [a1, a2]) (fun _ => by rw [hlow]; simp [a1, a2]))
          clear hlow 
          go_wp2
          go_roundw
          case rel => exact ⟨j + 1, by omega, by go_num, HR, by trivial⟩
          case measure => simp [intOf]; omega
        · skip
          have d1 : (48 : Int) ≤ (c.toNat : Int) := by omega
          have d2 : ¬ (c.toNat : Int) ≤ 57 := by omega
          have d3 : ((c.toNat : Int) == 95) = false := by simp; omega
          have HR := Lib.hid (HNO.out (by rw [HC.out, hlow]; simp [a1, a2, d1, d2, d3]))
          clear hlow 
          rcases Bool.eq_false_or_eq_true ((j : Int) == 0) with z1 | z1
          · go_wp2
            go_ret
            exact ⟨by rw [HR.out]; rfl, rfl⟩
          · go_wp2
            go_ret
            exact ⟨by rw [HR.out]; rfl, rfl⟩
      · by_cases d1 : (48 : Int) ≤ (c.toNat : Int)
        · by_cases d2 : (c.toNat : Int) ≤ 57
          · have d3 : ((c.toNat : Int) == 95) = false := by simp; omega
            by_cases hz : j = 0
            · have z1 : ((j : Int) == 0) = true := by simp [hz]
              have HR : Hid (nmB s = false) := Lib.hid (by
                subst hz
                exact nmB_first H1.out H2.out (by rw [hc, hlow]; simp [a1, d1, d2, d3]))
              clear hlow hz 
              go_wp2
              go_ret
              exact ⟨by rw [HR.out]; rfl, rfl⟩
            · have z1 : ((j : Int) == 0) = false := by simp [hz]
              have HR := Lib.hid (HYES.out (by rw [HC.out, hlow]; simp [a1, d1, d2, d3]) (fun h => absurd h hz))
              clear hlow hz 
              go_wp2
              go_roundw
              case rel => exact ⟨j + 1, by omega, by go_num, HR, by trivial⟩
              case measure => simp [intOf]; omega
          · by_cases d4 : (c.toNat : Int) = 95
            · have d3 : ((c.toNat : Int) == 95) = true := by simp [d4]
              clear d4
              by_cases hz : j = 0
              · have z1 : ((j : Int) == 0) = true := by simp [hz]
                have HR : Hid (nmB s = false) := Lib.hid (by
                  subst hz
                  exact nmB_first H1.out H2.out (by rw [hc, hlow]; simp [a1, d1, d2, d3]))
                clear hlow hz 
                go_wp2
                go_ret
                exact ⟨by rw [HR.out]; rfl, rfl⟩
              · have z1 : ((j : Int) == 0) = false := by simp [hz]
                have HR := Lib.hid (HYES.out (by rw [HC.out, hlow]; simp [a1, d1, d2, d3]) (fun h => absurd h hz))
                clear hlow hz 
                go_wp2
                go_roundw
                case rel => exact ⟨j + 1, by omega, by go_num, HR, by trivial⟩
                case measure => simp [intOf]; omega
            · have d3 : ((c.toNat : Int) == 95) = false := by simp [d4]
              clear d4
              have HR := Lib.hid (HNO.out (by rw [HC.out, hlow]; simp [a1, d1, d2, d3]))
              clear hlow 
              rcases Bool.eq_false_or_eq_true ((j : Int) == 0) with z1 | z1
              · go_wp2
                go_ret
                exact ⟨by rw [HR.out]; rfl, rfl⟩
              · go_wp2
                go_ret
                exact ⟨by rw [HR.out]; rfl, rfl⟩
        · have d3 : ((c.toNat : Int) == 95) = false := by simp; omega
          have HR := Lib.hid (HNO.out (by rw [HC.out, hlow]; simp [a1, d1, d3]))
          clear hlow 
          rcases Bool.eq_false_or_eq_true ((j : Int) == 0) with z1 | z1
          · go_wp2
            go_ret
            exact ⟨by rw [HR.out]; rfl, rfl⟩
          · go_wp2
            go_ret
            exact ⟨by rw [HR.out]; rfl, rfl⟩
    · have k1 : ¬ (j : Int) < (s.size : Int) := by omega
      have HR : Hid (nmB s = true) := Lib.hid (by
        have h1 := H1.out
        rw [HI.out (by omega), nmR_end (by omega)])
      go_wp2
      go_ret
      exact ⟨by rw [HR.out]; rfl, rfl⟩


theorem isLetter_any (c : UInt8) (w : World) : Calls Tryd.prog 104 #[.int .u8 (c.toNat : Int)] w fun x w' => x = .returned (.bool (isLow c)) ∧ w' = w := by
  have hlow := lowI c
  have hc8 := byte_ltX c
  by_cases a1 : (97 : Int) ≤ (c.toNat : Int)
  · by_cases a2 : (c.toNat : Int) ≤ 122
    · rw [isLow_of a1 a2]
      clear hlow
      go_enter Tryd.func104, Tryd.ntmps104
      go_wp2
      go_ret
      exact ⟨rfl, rfl⟩
    · rw [isLow_hi a2]
      clear hlow
      go_enter Tryd.func104, Tryd.ntmps104
      go_wp2
      go_ret
      exact ⟨rfl, rfl⟩
  · rw [isLow_lo a1]
    clear hlow
    go_enter Tryd.func104, Tryd.ntmps104
    go_wp2
    go_ret
    exact ⟨rfl, rfl⟩


theorem rIsName_any (s : ByteArray) (w : World) (hs : s.size ≤ 9223372036854775807) :
    Calls Tryd.prog 95 #[.string s] w fun x w' => x = .returned (.bool (nmB s)) ∧ Below w.heap.size w w' := (rIsName_same s w hs).mono (by rintro x w' ⟨rfl, rfl⟩; exact ⟨rfl, Below.refl _ _⟩)
theorem nmB_go {s : ByteArray} (h1 : 1 ≤ s.size) (h2 : s.size ≤ 30) (h : isLow (s[0]'(by omega)) = true) : nmB s = nmR s 0 := by rw [nmB_eq s h1 h2, nmR_step (show 0 < s.size by omega), h, low_nm h]
set_option maxRecDepth 100000 in
set_option maxHeartbeats 8000000 in
theorem isName_same (s : ByteArray) (w : World) (hs : s.size ≤ 9223372036854775807) :
    Calls Tryd.prog 94 #[.string s] w fun x w' => x = .returned (.bool (nmB s)) ∧ w' = w := by
  by_cases h0 : s.size = 0
  · have := emp_size h0
    subst this
    rw [nmB_nil]
    go_enter Tryd.func94, Tryd.ntmps94
    go_wp2
    go_ret
    exact ⟨rfl, rfl⟩
  have h01 : ¬ (s.size : Int) < 1 := by omega
  by_cases h30 : 30 < s.size
  · have h31 : (30 : Int) < (s.size : Int) := by omega
    rw [nmB_long s h30]
    go_enter Tryd.func94, Tryd.ntmps94
    go_wp2
    go_ret
    exact ⟨rfl, rfl⟩
  have h31 : ¬ (30 : Int) < (s.size : Int) := by omega
  have h1p : 0 < s.size := by omega
  have H1 : Hid (1 ≤ s.size) := Lib.hid (by omega)
  have H2 : Hid (s.size ≤ 30) := Lib.hid (by omega)
  have HL := Lib.hid (isLetter_any s[0] w)
  have hc8 := byte_ltX s[0]
  cases hq : isLow s[0] with
  | false =>
    have HE := Lib.hid (nmB_first H1.out H2.out hq)
    rw [hq] at HL
    clear h0 h30 hq
    go_enter Tryd.func94, Tryd.ntmps94
    go_wp2_with fail
    refine HL.out.mono ?_
    rintro x w4 ⟨rfl, hw⟩
    have hw := hw.symm
    subst hw
    go_wp2
    go_ret
    exact ⟨by rw [HE.out]; rfl, rfl⟩
  | true =>
    have HE := Lib.hid (nmB_go H1.out H2.out hq)
    rw [hq] at HL
    clear h0 h30 hq
    go_enter Tryd.func94, Tryd.ntmps94
    go_wp2_with fail
    refine HL.out.mono ?_
    rintro x w4 ⟨rfl, hw⟩
    have hw := hw.symm
    subst hw
    clear hc8 HL
    go_wp2
    go_loopw [20] (fun x wr => ∃ j : Nat, j ≤ s.size ∧ x = .int .i64 j ∧ Hid (nmB s = nmR s j) ∧ w = wr) (fun x _ => s.size - (intOf x).toNat)
    case atStart => exact ⟨0, Nat.zero_le _, rfl, HE, rfl⟩
    case round =>
      obtain ⟨j, hj, rfl, HI, rfl⟩ := hrel
      by_cases hlt : j < s.size
      · have k1 : (j : Int) < (s.size : Int) := by omega
        have HS := Lib.hid (HI.out.trans (nmR_step hlt))
        have HC := Lib.hid (nmC_eq s[j])
        have HL := Lib.hid (isLetter_any s[j] w)
        obtain ⟨c, hc⟩ : ∃ c, s[j] = c := ⟨_, rfl⟩
        rw [hc] at HS HC HL
        have hc8 := byte_ltX c
        cases hq : isLow c with
        | true =>
          have HR : Hid (nmB s = nmR s (j + 1)) := Lib.hid (by rw [HS.out, low_nm hq]; rfl)
          rw [hq] at HL
          clear hq
          go_wp2_with fail
          refine HL.out.mono ?_
          rintro x w4 ⟨rfl, hw⟩
          have hw := hw.symm
          subst hw
          go_wp2
          go_roundw
          case rel => exact ⟨j + 1, by omega, by go_num, HR, by trivial⟩
          case measure => simp [intOf]; omega
        | false =>
          rw [hq] at HL
          by_cases d1 : (c.toNat : Int) < 48
          · have d3 : ((c.toNat : Int) != 95) = true := by simp; omega
            have HR : Hid (nmB s = false) := Lib.hid (by rw [HS.out, HC.out, hq]; simp; omega)
            clear hq
            go_wp2_with fail
            refine HL.out.mono ?_
            rintro x w4 ⟨rfl, hw⟩
            have hw := hw.symm
            subst hw
            go_wp2
            go_ret
            exact ⟨by rw [HR.out]; rfl, rfl⟩
          · by_cases d2 : (57 : Int) < (c.toNat : Int)
            · by_cases d4 : (c.toNat : Int) = 95
              · have d3 : ((c.toNat : Int) != 95) = false := by simp [d4]
                have HR : Hid (nmB s = nmR s (j + 1)) := Lib.hid (by rw [HS.out, HC.out, hq]; simp [d4])
                clear hq d4
                go_wp2_with fail
                refine HL.out.mono ?_
                rintro x w4 ⟨rfl, hw⟩
                have hw := hw.symm
                subst hw
                go_wp2
                go_roundw
                case rel => exact ⟨j + 1, by omega, by go_num, HR, by trivial⟩
                case measure => simp [intOf]; omega
              · have d3 : ((c.toNat : Int) != 95) = true := by simp [d4]
                have HR : Hid (nmB s = false) := Lib.hid (by rw [HS.out, HC.out, hq]; simp; omega)
                clear hq d4
                go_wp2_with fail
                refine HL.out.mono ?_
                rintro x w4 ⟨rfl, hw⟩
                have hw := hw.symm
                subst hw
                go_wp2
                go_ret
                exact ⟨by rw [HR.out]; rfl, rfl⟩
            · have HR : Hid (nmB s = nmR s (j + 1)) := Lib.hid (by rw [HS.out, HC.out, hq]; simp; omega)
              clear hq
              go_wp2_with fail
              refine HL.out.mono ?_
              rintro x w4 ⟨rfl, hw⟩
              have hw := hw.symm
              subst hw
              go_wp2
              go_roundw
              case rel => exact ⟨j + 1, by omega, by go_num, HR, by trivial⟩
              case measure => simp [intOf]; omega
      · have k1 : ¬ (j : Int) < (s.size : Int) := by omega
        have HR : Hid (nmB s = true) := Lib.hid (by rw [HI.out, nmR_end (by omega)])
        go_wp2
        go_ret
        exact ⟨by rw [HR.out]; rfl, rfl⟩


end Go.Proofs.YtdgphhdkeikbaaaDoor

/-! ### ExRSize: What the reference's size, Size and depth return. -/
namespace Go.Proofs.YtdgphhdkeikbaaaDoor
set_option linter.unusedSimpArgs false
set_option linter.unusedVariables false
open Go.RowKit

theorem szR_start {k o : Int} {s : ByteArray} {v : Int} {es : List Ex} {n : Nat} : szR (.mk k o s v es) n = min (n + 1 + szL es) 101 := by
  simp only [szR, szE]
  omega
set_option maxRecDepth 100000 in
set_option maxHeartbeats 4000000 in
theorem rsize_any (e : Ex) : ∀ (n : Nat) (sl : Value) (w : World), KX w e sl → n ≤ 100 →
    Calls Tryd.prog 78 #[exV e sl, .int .i64 (n : Int)] w fun x w' => x = .returned (.int .i64 (szR e n : Nat)) ∧ Below w.heap.size w w' := by
  induction e using Ex.ind with
  | h k o s v es ih =>
  intro n sl w hK hn
  obtain ⟨a, c, sf, rfl, h1, h2, hc⟩ := KA.inv hK
  have HC := Lib.hid hc
  have HIH := Lib.hid ih
  have HK := Lib.hid hK
  simp only [Ex.es] at h1
  have h1 : es.length ≤ c := h1
  have hb0 : Below w.heap.size w (w.alloc (.cells #[.int .i64 k, .int .i64 o, .string s, .int .i64 v, .slice a es.length c] TX)) := (Below.refl _ w).alloc (Nat.le_refl _) _
  have HB0 := Lib.hid hb0
  obtain ⟨x0, x1, x2, x3, x4⟩ := boxX w k o s v (.slice a es.length c) es
  simp only [Ex.k, Ex.o, Ex.s, Ex.v, Ex.es] at *
  simp only [exV, Ex.k, Ex.o, Ex.s, Ex.v, szR_start]
  clear hc ih hK hb0
  go_enter Tryd.func78, Tryd.ntmps78
  go_wp2
  go_loopw [5, 1] (fun x y wr => ∃ j : Nat, j ≤ es.length ∧ x = .int .i64 j ∧ (∃ m : Nat, m ≤ 101 ∧ y = .int .i64 m ∧ Hid (min (n + 1 + szL es) 101 = min (m + szL (es.drop j)) 101)) ∧ Hid (Below w.heap.size w wr) ∧ Hid (KX wr (.mk k o s v es) (.slice a es.length c))
    ∧ wr.cell? ⟨w.heap.size, 4, none⟩ = some (.slice a es.length c)) (fun x _ _ => es.length - (intOf x).toNat)
  case atStart => exact ⟨0, Nat.zero_le _, rfl, ⟨n + 1, by omega, by go_num, Lib.hid (by simp)⟩, HB0, Lib.hid (HK.out.carry HB0.out), x4⟩
  case round =>
    obtain ⟨j, hj, rfl, ⟨m, hm, rfl, HI⟩, HB, HKr, hx⟩ := hrel
    by_cases hlt : j < es.length
    · have k1 : (j : Int) < (es.length : Int) := by omega
      by_cases hm2 : m ≤ 100
      · have m1 : ¬ (100 : Int) < (m : Int) := by omega
        obtain ⟨sr, hcr⟩ := KA.at_ (show KA anyB wr es _ from HKr.out)
        obtain ⟨hKj, b, off, rfl, _, hbl, y0, y1, y2, y3, y4⟩ := hcr j hlt
        have HIN := Lib.hid (HIH.out (ga es j) (ga_mem hlt) m (sr j) wr hKj hm2)
        have hz := drop_consX es j hlt
        have HI2 : Hid (min (n + 1 + szL es) 101 = min (szR (ga es j) m + szL (es.drop (j + 1))) 101) := Lib.hid (by
          rw [HI.out, hz]
          simp only [szL, szR]
          omega)
        have HM2 : Hid (szR (ga es j) m ≤ 101) := Lib.hid (by unfold szR; omega)
        have HX := Lib.hid hx
        simp only [exV] at HIN
        clear hKj hcr hz
        go_wp2_with fail
        refine HIN.out.mono ?_
        rintro x w4 ⟨rfl, b4⟩
        have hx4 := (b4.cell (p := ⟨w.heap.size, 4, none⟩) (World.block_lt_of_cell? _ _ hx)).trans hx
        have HB4 := Lib.hid (HB.out.trans (b4.mono HB.out.size))
        have HK4 := Lib.hid (HKr.out.carry b4)
        obtain ⟨q, hq⟩ : ∃ q, szR (ga es j) m = q := ⟨_, rfl⟩
        rw [hq] at HI2 HM2 ⊢
        clear b4 hq
        go_wp2
        go_roundw
        case rel => exact ⟨j + 1, by omega, by go_num, ⟨q, HM2.out, rfl, HI2⟩, HB4, HK4, hx4⟩
        case measure => simp [intOf]; omega
      · have m1 : (100 : Int) < (m : Int) := by omega
        have HE : Hid (min (n + 1 + szL es) 101 = m) := Lib.hid (by rw [HI.out]; omega)
        go_wp2
        go_ret
        exact ⟨by rw [HE.out]; rfl, HB.out⟩
    · have k1 : ¬ (j : Int) < (es.length : Int) := by omega
      have HE : Hid (min (n + 1 + szL es) 101 = m) := Lib.hid (by rw [HI.out, List.drop_eq_nil_of_le (by omega)]; simp [szL]; omega)
      go_wp2
      go_ret
      exact ⟨by rw [HE.out]; rfl, HB.out⟩

end Go.Proofs.YtdgphhdkeikbaaaDoor

/-! ### ExRPart: What the reference's part returns. -/
namespace Go.Proofs.YtdgphhdkeikbaaaDoor
set_option linter.unusedSimpArgs false
set_option linter.unusedVariables false
open Go.RowKit

set_option maxRecDepth 100000 in
set_option maxHeartbeats 8000000 in
theorem rpart_any (k o : Int) (s : ByteArray) (v : Int) (n c : Nat) (a : Option Addr) (w : World) (hsz : s.size ≤ 9223372036854775807) :
    Calls Tryd.prog 79 #[.agg #[.int .i64 k, .int .i64 o, .string s, .int .i64 v, .slice a n c]] w fun x w' => x = .returned (.int .i64 (prP k o s v n)) ∧ Below w.heap.size w w' := by
  have HB0 := Lib.hid ((Below.refl w.heap.size w).alloc (Nat.le_refl _) (.cells #[.int .i64 k, .int .i64 o, .string s, .int .i64 v, .slice a n c] TX))
  have hk : k < 1 ∨ 4 < k ∨ k = 1 ∨ k = 2 ∨ k = 3 ∨ k = 4 := by omega
  have e0 : ByteArray.mk #[] = .empty := rfl

  rcases hk with h | h | rfl | rfl | rfl | rfl
  · have hr : prP k o s v n = 8 := by unfold prP; simp [h]
    rw [hr]
    go_enter Tryd.func79, Tryd.ntmps79
    go_wp2
    go_ret
    exact ⟨rfl, HB0.out⟩
  · have hr : prP k o s v n = 8 := by unfold prP; simp [h]
    rw [hr]
    have h2 : ¬ k < 1 := by omega
    go_enter Tryd.func79, Tryd.ntmps79
    go_wp2
    go_ret
    exact ⟨rfl, HB0.out⟩
  · skip
    by_cases hs : ¬ s = .empty
    · skip
      obtain ⟨s1, s2⟩ := emp_no hs
      have hr : prP 1 o s v n = 1 := by unfold prP; simp_all
      rw [hr]
      clear hr hs
      go_enter Tryd.func79, Tryd.ntmps79
      go_wp2_with fail
      go_quiet (fail)
      go_wp2
      go_ret
      exact ⟨rfl, drewB HB0.out⟩
    · skip
      have hs : s = .empty := Classical.not_not.1 hs
      obtain ⟨s1, s2⟩ := emp_yes hs
      by_cases ho : ¬ o = 0
      · skip
        obtain ⟨o1, o2⟩ := ine ho
        have hr : prP 1 o s v n = 1 := by unfold prP; simp_all
        rw [hr]
        clear hr hs ho
        go_enter Tryd.func79, Tryd.ntmps79
        go_wp2_with fail
        go_quiet (fail)
        go_wp2
        go_ret
        exact ⟨rfl, drewB HB0.out⟩
      · skip
        have ho : o = 0 := Classical.not_not.1 ho
        obtain ⟨o1, o2⟩ := ieq ho
        by_cases hn : ¬ n = 0
        · skip
          obtain ⟨n1, n2⟩ := neq_len hn
          have hr : prP 1 o s v n = 1 := by unfold prP; simp_all
          rw [hr]
          clear hr hs ho hn
          go_enter Tryd.func79, Tryd.ntmps79
          go_wp2_with fail
          go_quiet (fail)
          go_wp2
          go_ret
          exact ⟨rfl, drewB HB0.out⟩
        · skip
          have hn : n = 0 := Classical.not_not.1 hn
          obtain ⟨n1, n2⟩ := eq_len hn
          by_cases qv : v < 0
          · skip
            have hr : prP 1 o s v n = 2 := by unfold prP; simp_all
            rw [hr]
            clear hr hs ho hn
            go_enter Tryd.func79, Tryd.ntmps79
            go_wp2_with fail
            go_quiet (fail)
            go_wp2
            go_ret
            exact ⟨rfl, drewB HB0.out⟩
          · skip
            by_cases qw : 1099511627776 < v
            · skip
              have hr : prP 1 o s v n = 2 := by unfold prP; simp_all
              rw [hr]
              clear hr hs ho hn
              go_enter Tryd.func79, Tryd.ntmps79
              go_wp2_with fail
              go_quiet (fail)
              go_wp2
              go_ret
              exact ⟨rfl, drewB HB0.out⟩
            · skip
              have hr : prP 1 o s v n = 0 := by unfold prP; simp_all
              rw [hr]
              clear hr hs ho hn
              go_enter Tryd.func79, Tryd.ntmps79
              go_wp2_with fail
              go_quiet (fail)
              go_wp2
              go_ret
              exact ⟨rfl, drewB HB0.out⟩
  · skip
    by_cases hv : ¬ v = 0
    · skip
      obtain ⟨v1, v2⟩ := ine hv
      have hr : prP 2 o s v n = 1 := by unfold prP; simp_all
      rw [hr]
      clear hr hv
      go_enter Tryd.func79, Tryd.ntmps79
      go_wp2_with fail
      go_quiet (fail)
      go_wp2
      go_ret
      exact ⟨rfl, drewB HB0.out⟩
    · skip
      have hv : v = 0 := Classical.not_not.1 hv
      obtain ⟨v1, v2⟩ := ieq hv
      by_cases ho : ¬ o = 0
      · skip
        obtain ⟨o1, o2⟩ := ine ho
        have hr : prP 2 o s v n = 1 := by unfold prP; simp_all
        rw [hr]
        clear hr hv ho
        go_enter Tryd.func79, Tryd.ntmps79
        go_wp2_with fail
        go_quiet (fail)
        go_wp2
        go_ret
        exact ⟨rfl, drewB HB0.out⟩
      · skip
        have ho : o = 0 := Classical.not_not.1 ho
        obtain ⟨o1, o2⟩ := ieq ho
        by_cases hn : ¬ n = 0
        · skip
          obtain ⟨n1, n2⟩ := neq_len hn
          have hr : prP 2 o s v n = 1 := by unfold prP; simp_all
          rw [hr]
          clear hr hv ho hn
          go_enter Tryd.func79, Tryd.ntmps79
          go_wp2_with fail
          go_quiet (fail)
          go_wp2
          go_ret
          exact ⟨rfl, drewB HB0.out⟩
        · skip
          have hn : n = 0 := Classical.not_not.1 hn
          obtain ⟨n1, n2⟩ := eq_len hn
          have hI := fun W => rIsName_any s W hsz
          cases hb : nmB s with
          | false =>
            rw [hb] at hI
            have hr : prP 2 o s v n = 5 := by clear hI; unfold prP; simp_all
            rw [hr]
            have HI := Lib.hid hI
            clear hI hb hr hv ho hn
            go_enter Tryd.func79, Tryd.ntmps79
            go_wp2_with fail
            go_quiet (fail)
            go_wp2_with fail
            refine (HI.out _).mono ?_
            rintro x w4 ⟨rfl, b4⟩
            have HB4 := Lib.hid ((drewB HB0.out).trans (b4.mono HB0.out.size))
            obtain ⟨x0, x1, x2, x3, x4⟩ := (boxX w 2 o s v (.slice a n c) []).keep (b4.block _ (boxX w 2 o s v (.slice a n c) []).lt)
            simp only [Ex.k, Ex.o, Ex.s, Ex.v] at x0 x1 x2 x3 x4
            go_wp2
            go_ret
            exact ⟨rfl, HB4.out⟩
          | true =>
            rw [hb] at hI
            have hr : prP 2 o s v n = 0 := by clear hI; unfold prP; simp_all
            rw [hr]
            have HI := Lib.hid hI
            clear hI hb hr hv ho hn
            go_enter Tryd.func79, Tryd.ntmps79
            go_wp2_with fail
            go_quiet (fail)
            go_wp2_with fail
            refine (HI.out _).mono ?_
            rintro x w4 ⟨rfl, b4⟩
            have HB4 := Lib.hid ((drewB HB0.out).trans (b4.mono HB0.out.size))
            obtain ⟨x0, x1, x2, x3, x4⟩ := (boxX w 2 o s v (.slice a n c) []).keep (b4.block _ (boxX w 2 o s v (.slice a n c) []).lt)
            simp only [Ex.k, Ex.o, Ex.s, Ex.v] at x0 x1 x2 x3 x4
            go_wp2
            go_ret
            exact ⟨rfl, HB4.out⟩
  · skip
    by_cases hv : ¬ v = 0
    · skip
      obtain ⟨v1, v2⟩ := ine hv
      have hr : prP 3 o s v n = 1 := by unfold prP; simp_all
      rw [hr]
      clear hr hv
      go_enter Tryd.func79, Tryd.ntmps79
      go_wp2_with fail
      go_quiet (fail)
      go_wp2
      go_ret
      exact ⟨rfl, drewB HB0.out⟩
    · skip
      have hv : v = 0 := Classical.not_not.1 hv
      obtain ⟨v1, v2⟩ := ieq hv
      by_cases hs : ¬ s = .empty
      · skip
        obtain ⟨s1, s2⟩ := emp_no hs
        have hr : prP 3 o s v n = 1 := by unfold prP; simp_all
        rw [hr]
        clear hr hv hs
        go_enter Tryd.func79, Tryd.ntmps79
        go_wp2_with fail
        go_quiet (fail)
        go_wp2
        go_ret
        exact ⟨rfl, drewB HB0.out⟩
      · skip
        have hs : s = .empty := Classical.not_not.1 hs
        obtain ⟨s1, s2⟩ := emp_yes hs
        by_cases hn : ¬ n = 1
        · skip
          obtain ⟨n1, n2⟩ := neq_len hn
          have hr : prP 3 o s v n = 1 := by unfold prP; simp_all
          rw [hr]
          clear hr hv hs hn
          go_enter Tryd.func79, Tryd.ntmps79
          go_wp2_with fail
          go_quiet (fail)
          go_wp2
          go_ret
          exact ⟨rfl, drewB HB0.out⟩
        · skip
          have hn : n = 1 := Classical.not_not.1 hn
          obtain ⟨n1, n2⟩ := eq_len hn
          by_cases h1 : o = 1
          · obtain ⟨o1, o2⟩ := ieq h1
            have hr : prP 3 o s v n = 0 := by unfold prP; simp_all
            rw [hr]
            clear hr hv hs hn h1
            go_enter Tryd.func79, Tryd.ntmps79
            go_wp2_with fail
            go_quiet (fail)
            go_wp2
            go_ret
            exact ⟨rfl, drewB HB0.out⟩
          · obtain ⟨o1, o2⟩ := ine h1
            by_cases h2 : o = 2
            · obtain ⟨o3, o4⟩ := ieq h2
              have hr : prP 3 o s v n = 0 := by unfold prP; simp_all
              rw [hr]
              clear hr hv hs hn h1 h2
              go_enter Tryd.func79, Tryd.ntmps79
              go_wp2_with fail
              go_quiet (fail)
              go_wp2
              go_ret
              exact ⟨rfl, drewB HB0.out⟩
            · obtain ⟨o3, o4⟩ := ine h2
              have hr : prP 3 o s v n = 8 := by unfold prP; simp_all
              rw [hr]
              clear hr hv hs hn h1 h2
              go_enter Tryd.func79, Tryd.ntmps79
              go_wp2_with fail
              go_quiet (fail)
              go_wp2
              go_ret
              exact ⟨rfl, drewB HB0.out⟩
  · skip
    by_cases hv : ¬ v = 0
    · skip
      obtain ⟨v1, v2⟩ := ine hv
      have hr : prP 4 o s v n = 1 := by unfold prP; simp_all
      rw [hr]
      clear hr hv
      go_enter Tryd.func79, Tryd.ntmps79
      go_wp2_with fail
      go_quiet (fail)
      go_wp2
      go_ret
      exact ⟨rfl, drewB HB0.out⟩
    · skip
      have hv : v = 0 := Classical.not_not.1 hv
      obtain ⟨v1, v2⟩ := ieq hv
      by_cases hs : ¬ s = .empty
      · skip
        obtain ⟨s1, s2⟩ := emp_no hs
        have hr : prP 4 o s v n = 1 := by unfold prP; simp_all
        rw [hr]
        clear hr hv hs
        go_enter Tryd.func79, Tryd.ntmps79
        go_wp2_with fail
        go_quiet (fail)
        go_wp2
        go_ret
        exact ⟨rfl, drewB HB0.out⟩
      · skip
        have hs : s = .empty := Classical.not_not.1 hs
        obtain ⟨s1, s2⟩ := emp_yes hs
        by_cases hn : ¬ n = 2
        · skip
          obtain ⟨n1, n2⟩ := neq_len hn
          have hr : prP 4 o s v n = 1 := by unfold prP; simp_all
          rw [hr]
          clear hr hv hs hn
          go_enter Tryd.func79, Tryd.ntmps79
          go_wp2_with fail
          go_quiet (fail)
          go_wp2
          go_ret
          exact ⟨rfl, drewB HB0.out⟩
        · skip
          have hn : n = 2 := Classical.not_not.1 hn
          obtain ⟨n1, n2⟩ := eq_len hn
          by_cases q1 : o < 3
          · skip
            have hr : prP 4 o s v n = 8 := by unfold prP; simp_all
            rw [hr]
            clear hr hv hs hn
            go_enter Tryd.func79, Tryd.ntmps79
            go_wp2_with fail
            go_quiet (fail)
            go_wp2
            go_ret
            exact ⟨rfl, drewB HB0.out⟩
          · skip
            by_cases q2 : 15 < o
            · skip
              have hr : prP 4 o s v n = 8 := by unfold prP; simp_all
              rw [hr]
              clear hr hv hs hn
              go_enter Tryd.func79, Tryd.ntmps79
              go_wp2_with fail
              go_quiet (fail)
              go_wp2
              go_ret
              exact ⟨rfl, drewB HB0.out⟩
            · skip
              have hr : prP 4 o s v n = 0 := by unfold prP; simp_all
              rw [hr]
              clear hr hv hs hn
              go_enter Tryd.func79, Tryd.ntmps79
              go_wp2_with fail
              go_quiet (fail)
              go_wp2
              go_ret
              exact ⟨rfl, drewB HB0.out⟩

end Go.Proofs.YtdgphhdkeikbaaaDoor

/-! ### ExRDepth: What the reference's depth and Size return. -/
namespace Go.Proofs.YtdgphhdkeikbaaaDoor
set_option linter.unusedSimpArgs false
set_option linter.unusedVariables false
open Go.RowKit

set_option maxRecDepth 100000 in
set_option maxHeartbeats 4000000 in
theorem rSize_any (e : Ex) (sl : Value) (w : World) (hK : KX w e sl) :
    Calls Tryd.prog 55 #[exV e sl] w fun x w' => x = .returned (.int .i64 (min (szE e) 101 : Nat)) ∧ Below w.heap.size w w' := by
  have hb0 : Below w.heap.size w (w.alloc (.cells #[.int .i64 e.k, .int .i64 e.o, .string e.s, .int .i64 e.v, sl] TX)) := (Below.refl _ w).alloc (Nat.le_refl _) _
  have HB0 := Lib.hid hb0
  have HIN := Lib.hid (rsize_any e 0 sl _ (hK.carry hb0) (by omega))
  have hz : szR e 0 = min (szE e) 101 := by simp [szR]
  rw [hz] at HIN
  simp only [exV] at HIN ⊢
  clear hb0 hK hz
  go_enter Tryd.func55, Tryd.ntmps55
  go_wp2_with fail
  refine HIN.out.mono ?_
  rintro x w4 ⟨rfl, b4⟩
  have HB4 := Lib.hid (HB0.out.trans (b4.mono HB0.out.size))
  clear b4 HIN
  by_cases h : szE e ≤ 100
  · have HE : Hid (min (szE e) 101 = szE e) := Lib.hid (by omega)
    obtain ⟨q, hq⟩ : ∃ q, szE e = q := ⟨_, rfl⟩
    rw [hq] at HE
    rw [hq, HE.out]
    have m1 : ¬ (100 : Int) < (q : Int) := by omega
    clear h
    have HQ := Lib.hid hq
    clear hq
    go_wp2
    go_ret
    exact ⟨by rw [HQ.out, HE.out]; rfl, HB4.out⟩
  · have HE : Hid (min (szE e) 101 = 101) := Lib.hid (by omega)
    rw [HE.out]
    clear h
    go_wp2
    go_ret
    exact ⟨by rw [HE.out]; rfl, HB4.out⟩

theorem dpL_fold (es : List Ex) (j : Nat) (h : j < es.length) : dpL (es.take (j + 1)) = max (dpL (es.take j)) (dpE (ga es j)) := by
  rw [take_snocX es j h, dpL_app]
  simp [dpL]
set_option maxRecDepth 100000 in
set_option maxHeartbeats 4000000 in
theorem rdepth_any (e : Ex) : ∀ (sl : Value) (w : World), KX w e sl → szE e ≤ 100000 →
    Calls Tryd.prog 56 #[exV e sl] w fun x w' => x = .returned (.int .i64 (dpE e : Nat)) ∧ Below w.heap.size w w' := by
  induction e using Ex.ind with
  | h k o s v es ih =>
  intro sl w hK hs
  obtain ⟨a, c, sf, rfl, h1, h2, hc⟩ := KA.inv hK
  have HIH := Lib.hid ih
  have HK := Lib.hid hK
  have h1 : es.length ≤ c := h1
  have hb0 : Below w.heap.size w (w.alloc (.cells #[.int .i64 k, .int .i64 o, .string s, .int .i64 v, .slice a es.length c] TX)) := (Below.refl _ w).alloc (Nat.le_refl _) _
  have HB0 := Lib.hid hb0
  have HX0 := Lib.hid (boxX w k o s v (.slice a es.length c) es)
  have HS : Hid (szL es ≤ 100000) := Lib.hid (by simp only [szE] at hs; omega)
  have HD : Hid (∀ n, n ≤ es.length → dpL (es.take n) ≤ 100000) := Lib.hid (fun n hn => by
    have h1 := dpL_le (es.take n)
    have h2 := szL_take es n
    have h3 := HS.out
    omega)
  simp only [exV, Ex.k, Ex.o, Ex.s, Ex.v, Ex.es, dpE] at *
  clear hc ih hK hb0 hs
  go_enter Tryd.func56, Tryd.ntmps56
  go_wp2
  go_loopw [3, 4] (fun y x wr => ∃ j : Nat, j ≤ es.length ∧ x = .int .i64 j ∧ (∃ m : Nat, y = .int .i64 m ∧ m ≤ 100000 ∧ Hid (m = dpL (es.take j))) ∧ Hid (Below w.heap.size w wr) ∧ Hid (KX wr (.mk k o s v es) (.slice a es.length c))
    ∧ Hid (AtX wr w.heap.size 0 (.mk k o s v es) (.slice a es.length c))) (fun _ x _ => es.length - (intOf x).toNat)
  case atStart => exact ⟨0, Nat.zero_le _, rfl, ⟨0, rfl, by omega, Lib.hid rfl⟩, HB0, Lib.hid (HK.out.carry HB0.out), HX0⟩
  case round =>
    obtain ⟨j, hj, rfl, ⟨m, rfl, hm, HI⟩, HB, HKr, HX⟩ := hrel
    have hx := HX.out.2.2.2.2
    by_cases hlt : j < es.length
    · have k1 : (j : Int) < (es.length : Int) := by omega
      obtain ⟨sr, hcr⟩ := KA.at_ (show KA anyB wr es _ from HKr.out)
      obtain ⟨hKj, b, off, rfl, _, hbl, y0, y1, y2, y3, y4⟩ := hcr j hlt
      have HIN := Lib.hid (HIH.out (ga es j) (ga_mem hlt) (sr j) wr hKj (Nat.le_trans (szE_arg (ga_mem hlt)) HS.out))
      have HI2 : Hid (dpL (es.take (j + 1)) = max m (dpE (ga es j))) := Lib.hid (by rw [dpL_fold es j hlt, HI.out])
      have HM2 := Lib.hid (HD.out (j + 1) (by omega))
      clear hKj hcr
      go_wp2_with fail
      refine HIN.out.mono ?_
      rintro x w4 ⟨rfl, b4⟩
      have HX4 : Hid (AtX w4 w.heap.size 0 (.mk k o s v es) (.slice (some ⟨b, off, none⟩) es.length c)) := Lib.hid (HX.out.keep (b4.block _ HX.out.lt))
      have HB4 := Lib.hid (HB.out.trans (b4.mono HB.out.size))
      have HK4 := Lib.hid (HKr.out.carry b4)
      obtain ⟨q, hq⟩ : ∃ q, dpE (ga es j) = q := ⟨_, rfl⟩
      rw [hq] at HI2 ⊢
      clear b4 hq HX hx
      by_cases hmq : m < q
      · have m1 : (m : Int) < (q : Int) := by omega
        have HI3 : Hid (q = dpL (es.take (j + 1))) := Lib.hid (by rw [HI2.out]; omega)
        have hq := HM2.out
        rw [← HI3.out] at hq
        clear hmq
        go_wp2
        go_roundw
        case rel => exact ⟨j + 1, by omega, by go_num, ⟨q, rfl, hq, HI3⟩, HB4, HK4, HX4⟩
        case measure => simp [intOf]; omega
      · have m1 : ¬ (m : Int) < (q : Int) := by omega
        have HI3 : Hid (m = dpL (es.take (j + 1))) := Lib.hid (by rw [HI2.out]; omega)
        clear hmq
        go_wp2
        go_roundw
        case rel => exact ⟨j + 1, by omega, by go_num, ⟨m, rfl, hm, HI3⟩, HB4, HK4, HX4⟩
        case measure => simp [intOf]; omega
    · have k1 : ¬ (j : Int) < (es.length : Int) := by omega
      have HE : Hid (dpL es = m) := Lib.hid (by rw [HI.out, List.take_of_length_le (by omega)])
      go_wp2
      go_ret
      exact ⟨by rw [HE.out]; exact congrArg (fun z => Ending.returned (Value.int IntKind.i64 z)) (show (m : Int) + 1 = ((1 + m : Nat) : Int) by omega), HB.out⟩

end Go.Proofs.YtdgphhdkeikbaaaDoor

/-! ### ExRCheck: What the reference's parts and Check return. -/
namespace Go.Proofs.YtdgphhdkeikbaaaDoor
set_option linter.unusedSimpArgs false
set_option linter.unusedVariables false
open Go.RowKit

mutual
/-- Every name in it is so short that it has a size. -/
def fitE : Ex → Prop
  | .mk _ _ s _ es => s.size ≤ 9223372036854775807 ∧ fitL es
def fitL : List Ex → Prop
  | [] => True
  | a :: r => fitE a ∧ fitL r
end
theorem fitL_mem {es : List Ex} (h : fitL es) : ∀ a ∈ es, fitE a := by
  induction es with
  | nil => intro a ha; cases ha
  | cons x r ih =>
    intro a ha
    rcases List.mem_cons.1 ha with rfl | ha
    · exact h.1
    · exact ih h.2 a ha
theorem prL_step (es : List Ex) (j : Nat) (h : j < es.length) : prL (es.drop j) = if prE (ga es j) ≠ 0 then prE (ga es j) else prL (es.drop (j + 1)) := by
  rw [drop_consX es j h]
  simp only [prL]
set_option maxRecDepth 100000 in
set_option maxHeartbeats 4000000 in
theorem rparts_any (e : Ex) : ∀ (sl : Value) (w : World), KX w e sl → fitE e →
    Calls Tryd.prog 57 #[exV e sl] w fun x w' => x = .returned (.int .i64 (prE e)) ∧ Below w.heap.size w w' := by
  induction e using Ex.ind with
  | h k o s v es ih =>
  intro sl w hK hs
  obtain ⟨a, c, sf, rfl, h1, h2, hc⟩ := KA.inv hK
  have HIH := Lib.hid ih
  have HK := Lib.hid hK
  have h1 : es.length ≤ c := h1
  have hb0 : Below w.heap.size w (w.alloc (.cells #[.int .i64 k, .int .i64 o, .string s, .int .i64 v, .slice a es.length c] TX)) := (Below.refl _ w).alloc (Nat.le_refl _) _
  have HB0 := Lib.hid hb0
  have HX0 := Lib.hid (boxX w k o s v (.slice a es.length c) es)
  simp only [fitE] at hs
  have HF := Lib.hid (fitL_mem hs.2)
  have HP := Lib.hid (rpart_any k o s v es.length c a (w.alloc (.cells #[.int .i64 k, .int .i64 o, .string s, .int .i64 v, .slice a es.length c] TX)) hs.1)
  simp only [exV, Ex.k, Ex.o, Ex.s, Ex.v, Ex.es] at *
  clear hc ih hK hb0 hs
  go_enter Tryd.func57, Tryd.ntmps57
  go_wp2_with fail
  refine HP.out.mono ?_
  rintro x w2 ⟨rfl, b2⟩
  have HB2 := Lib.hid (HB0.out.trans (b2.mono HB0.out.size))
  have HX2 := Lib.hid (HX0.out.keep (b2.block _ HX0.out.lt))
  have HK2 := Lib.hid (HK.out.carry HB2.out)
  clear b2
  by_cases hp : prP k o s v es.length = 0
  · obtain ⟨p1, p2⟩ := ieq hp
    have HE : Hid (prE (.mk k o s v es) = prL es) := Lib.hid (by simp only [prE]; rw [if_neg (by simpa using hp)])
    have HP0 := Lib.hid hp
    rw [hp] at p1 p2 ⊢
    clear hp p1 p2
    go_wp2
    go_loopw [4] (fun x wr => ∃ j : Nat, j ≤ es.length ∧ x = .int .i64 j ∧ Hid (prL es = prL (es.drop j)) ∧ Hid (Below w.heap.size w wr) ∧ Hid (KX wr (.mk k o s v es) (.slice a es.length c))
      ∧ Hid (AtX wr w.heap.size 0 (.mk k o s v es) (.slice a es.length c))) (fun x _ => es.length - (intOf x).toNat)
    case atStart => exact ⟨0, Nat.zero_le _, rfl, Lib.hid rfl, HB2, HK2, HX2⟩
    case round =>
      obtain ⟨j, hj, rfl, HI, HB, HKr, HX⟩ := hrel
      have hx := HX.out.2.2.2.2
      by_cases hlt : j < es.length
      · have k1 : (j : Int) < (es.length : Int) := by omega
        obtain ⟨sr, hcr⟩ := KA.at_ (show KA anyB wr es _ from HKr.out)
        obtain ⟨hKj, b, off, rfl, _, hbl, y0, y1, y2, y3, y4⟩ := hcr j hlt
        have HIN := Lib.hid (HIH.out (ga es j) (ga_mem hlt) (sr j) wr hKj (HF.out _ (ga_mem hlt)))
        have HI2 := Lib.hid (HI.out.trans (prL_step es j hlt))
        obtain ⟨q, hq⟩ : ∃ q, prE (ga es j) = q := ⟨_, rfl⟩
        rw [hq] at HI2 HIN
        clear hKj hcr hq
        go_wp2_with fail
        refine HIN.out.mono ?_
        rintro x w4 ⟨rfl, b4⟩
        have HX4 : Hid (AtX w4 w.heap.size 0 (.mk k o s v es) (.slice (some ⟨b, off, none⟩) es.length c)) := Lib.hid (HX.out.keep (b4.block _ HX.out.lt))
        have HB4 := Lib.hid (HB.out.trans (b4.mono HB.out.size))
        have HK4 := Lib.hid (HKr.out.carry b4)
        clear b4 HX hx
        by_cases hp : q = 0
        · obtain ⟨p1, p2⟩ := ieq hp
          have HI3 : Hid (prL es = prL (es.drop (j + 1))) := Lib.hid (by rw [HI2.out, if_neg (by simpa using hp)])
          subst hp
          clear p1 p2
          go_wp2
          go_roundw
          case rel => exact ⟨j + 1, by omega, by go_num, HI3, HB4, HK4, HX4⟩
          case measure => simp [intOf]; omega
        · obtain ⟨p1, p2⟩ := ine hp
          have HI3 : Hid (prL es = q) := Lib.hid (by rw [HI2.out, if_pos (by simpa using hp)])
          clear hp
          go_wp2
          go_ret
          exact ⟨by rw [HE.out, HI3.out]; rfl, HB4.out⟩
      · have k1 : ¬ (j : Int) < (es.length : Int) := by omega
        have HI3 : Hid (prL es = 0) := Lib.hid (by rw [HI.out, List.drop_eq_nil_of_le (by omega)]; simp [prL])
        go_wp2
        go_ret
        exact ⟨by rw [HE.out, HI3.out]; rfl, HB.out⟩
  · obtain ⟨p1, p2⟩ := ine hp
    have HE : Hid (prE (.mk k o s v es) = prP k o s v es.length) := Lib.hid (by simp only [prE]; rw [if_pos hp])
    clear hp
    go_wp2
    go_ret
    exact ⟨by rw [HE.out]; rfl, HB2.out⟩

set_option maxRecDepth 100000 in
set_option maxHeartbeats 4000000 in
theorem rCheck_any (e : Ex) (sl : Value) (w : World) (hK : KX w e sl) (hf : fitE e) :
    Calls Tryd.prog 36 #[exV e sl] w fun x w' => x = .returned (.int .i64 (ckE e)) ∧ Below w.heap.size w w' := by
  have hb0 : Below w.heap.size w (w.alloc (.cells #[.int .i64 e.k, .int .i64 e.o, .string e.s, .int .i64 e.v, sl] TX)) := (Below.refl _ w).alloc (Nat.le_refl _) _
  have HB0 := Lib.hid hb0
  have HX0 : Hid (AtX (w.alloc (.cells #[.int .i64 e.k, .int .i64 e.o, .string e.s, .int .i64 e.v, sl] TX)) w.heap.size 0 e sl) := Lib.hid (boxX w e.k e.o e.s e.v sl e.es)
  have HIN := Lib.hid (rSize_any e sl _ (hK.carry hb0))
  have HK0 := Lib.hid (hK.carry hb0)
  have HF := Lib.hid hf
  simp only [exV] at HIN ⊢
  clear hb0 hK hf
  go_enter Tryd.func36, Tryd.ntmps36
  go_wp2_with fail
  refine HIN.out.mono ?_
  rintro x w4 ⟨rfl, b4⟩
  have HB4 := Lib.hid (HB0.out.trans (b4.mono HB0.out.size))
  have HX4 := Lib.hid (HX0.out.keep (b4.block _ HX0.out.lt))
  have HK4 := Lib.hid (HK0.out.carry b4)
  clear b4 HIN HX0
  by_cases h : szE e ≤ 100
  · obtain ⟨q, hq⟩ : ∃ q, szE e = q := ⟨_, rfl⟩
    have HE : Hid (min (szE e) 101 = q) := Lib.hid (by omega)
    have m1 : ¬ (100 : Int) < (q : Int) := by omega
    have HS := Lib.hid h
    have HD := Lib.hid (rdepth_any e sl w4 HK4.out (by omega))
    rw [HE.out]
    simp only [exV] at HD
    obtain ⟨x0, x1, x2, x3, x4⟩ := HX4.out
    clear h hq
    go_wp2_with fail
    refine HD.out.mono ?_
    rintro x w5 ⟨rfl, b5⟩
    have HB5 := Lib.hid (HB4.out.trans (b5.mono HB4.out.size))
    have HX5 := Lib.hid (HX4.out.keep (b5.block _ HX4.out.lt))
    have HK5 := Lib.hid (HK4.out.carry b5)
    clear b5 x0 x1 x2 x3 x4 HD
    by_cases hd : dpE e ≤ 12
    · obtain ⟨q, hq⟩ : ∃ q, dpE e = q := ⟨_, rfl⟩
      have m1 : ¬ (12 : Int) < (q : Int) := by omega
      have HP := Lib.hid (rparts_any e sl w5 HK5.out HF.out)
      have HE : Hid (ckE e = prE e) := Lib.hid (by unfold ckE; rw [if_neg (by have := HS.out; omega), if_neg (by omega)])
      rw [hq]
      simp only [exV] at HP
      obtain ⟨x0, x1, x2, x3, x4⟩ := HX5.out
      clear hd hq
      go_wp2_with fail
      refine HP.out.mono ?_
      rintro x w6 ⟨rfl, b6⟩
      have HB6 := Lib.hid (HB5.out.trans (b6.mono HB5.out.size))
      clear b6
      go_wp2
      go_ret
      exact ⟨by rw [HE.out]; rfl, HB6.out⟩
    · obtain ⟨q, hq⟩ : ∃ q, dpE e = q := ⟨_, rfl⟩
      have m1 : (12 : Int) < (q : Int) := by omega
      have HE : Hid (ckE e = 22) := Lib.hid (by unfold ckE; rw [if_neg (by have := HS.out; omega), if_pos (by omega)])
      rw [hq]
      clear hd hq
      go_wp2
      go_ret
      exact ⟨by rw [HE.out]; rfl, HB5.out⟩
  · have HE : Hid (min (szE e) 101 = 101) := Lib.hid (by omega)
    have HE2 : Hid (ckE e = 4) := Lib.hid (by unfold ckE; rw [if_pos (by omega)])
    rw [HE.out]
    clear h
    go_wp2
    go_ret
    exact ⟨by rw [HE2.out]; rfl, HB4.out⟩

end Go.Proofs.YtdgphhdkeikbaaaDoor

/-! ### ExRSame: What the reference's same returns. -/
namespace Go.Proofs.YtdgphhdkeikbaaaDoor
set_option linter.unusedSimpArgs false
set_option linter.unusedVariables false
open Go.RowKit

theorem eqE_mk {k o : Int} {s : ByteArray} {v : Int} {es : List Ex} {k' o' : Int} {s' : ByteArray} {v' : Int} {fs : List Ex} (h1 : k = k') (h2 : o = o') (h3 : s = s') (h4 : v = v') : eqE (.mk k o s v es) (.mk k' o' s' v' fs) = eqL es fs := by simp [eqE, h1, h2, h3, h4]
theorem eqE_no {k o : Int} {s : ByteArray} {v : Int} {es : List Ex} {k' o' : Int} {s' : ByteArray} {v' : Int} {fs : List Ex} (h : ¬ (k = k' ∧ o = o' ∧ s = s' ∧ v = v' ∧ es.length = fs.length)) : eqE (.mk k o s v es) (.mk k' o' s' v' fs) = false := by
  cases hh : eqE (.mk k o s v es) (.mk k' o' s' v' fs) with
  | false => rfl
  | true =>
    have := (eqE_iff _ _).1 hh
    injection this with e1 e2 e3 e4 e5
    exact absurd ⟨e1, e2, e3, e4, by rw [e5]⟩ h
theorem eqL_step (es fs : List Ex) (j : Nat) (h : j < es.length) (h2 : j < fs.length) : eqL (es.drop j) (fs.drop j) = (eqE (ga es j) (ga fs j) && eqL (es.drop (j + 1)) (fs.drop (j + 1))) := by
  rw [drop_consX es j h, drop_consX fs j h2]
  simp only [eqL]
set_option maxRecDepth 100000 in
set_option maxHeartbeats 8000000 in
theorem rsame_any (e : Ex) : ∀ (f : Ex) (sl sm : Value) (w : World), KX w e sl → KX w f sm →
    Calls Tryd.prog 46 #[exV e sl, exV f sm] w fun x w' => x = .returned (.bool (eqE e f)) ∧ Below w.heap.size w w' := by
  induction e using Ex.ind with
  | h k o s v es ih =>
  intro f sl sm w hK hM
  obtain ⟨k', o', s', v', fs⟩ := f
  obtain ⟨a, c, sf, rfl, h1, h2, hc⟩ := KA.inv hK
  obtain ⟨a', c', sf', rfl, h1', h2', hc'⟩ := KA.inv hM
  have h1 : es.length ≤ c := h1
  have h1' : fs.length ≤ c' := h1'
  have hb0 : Below w.heap.size w ((w.alloc (.cells #[.int .i64 k, .int .i64 o, .string s, .int .i64 v, .slice a es.length c] TX)).alloc (.cells #[.int .i64 k', .int .i64 o', .string s', .int .i64 v', .slice a' fs.length c'] TX)) := ((Below.refl _ w).alloc (Nat.le_refl _) _).alloc (by simp) _
  have HB0 := Lib.hid hb0
  have hX0 := boxX w k o s v (.slice a es.length c) es
  have hY0 := boxX (w.alloc (.cells #[.int .i64 k, .int .i64 o, .string s, .int .i64 v, .slice a es.length c] TX)) k' o' s' v' (.slice a' fs.length c') fs
  have HX0 := Lib.hid (hX0.keep (Below.heap_alloc _ (.cells #[.int .i64 k', .int .i64 o', .string s', .int .i64 v', .slice a' fs.length c'] TX) _ hX0.lt))
  simp only [World.size_alloc] at hY0
  have HY0 := Lib.hid hY0
  have HK := Lib.hid (KA.carry hK hb0)
  have HM := Lib.hid (KA.carry hM hb0)
  have HIH := Lib.hid ih
  simp only [exV, Ex.k, Ex.o, Ex.s, Ex.v, Ex.es] at *
  clear hc hc' ih hK hM hb0 hX0 hY0
  by_cases c1 : k = k'
  · by_cases c2 : o = o'
    · by_cases c3 : s = s'
      · by_cases c4 : v = v'
        · by_cases c5 : es.length = fs.length
          · have HE := Lib.hid (eqE_mk (es := es) (fs := fs) c1 c2 c3 c4)
            obtain ⟨q1, q2⟩ := ieq c1
            obtain ⟨q3, q4⟩ := ieq c2
            obtain ⟨q5, q6, q7⟩ := str_yes c3
            obtain ⟨q8, q9⟩ := ieq c4
            obtain ⟨qa, qb⟩ := eq_len c5
            have HL := Lib.hid c5
            clear c1 c2 c3 c4 c5
            go_enter Tryd.func46, Tryd.ntmps46
            go_wp2
            clear q1 q2 q3 q4 q5 q6 q7 q8 q9 qa qb
            go_loopw [5] (fun x wr => ∃ j : Nat, j ≤ es.length ∧ x = .int .i64 j ∧ Hid (eqL es fs = eqL (es.drop j) (fs.drop j)) ∧ Hid (Below w.heap.size w wr) ∧ Hid (KX wr (.mk k o s v es) (.slice a es.length c)) ∧ Hid (KX wr (.mk k' o' s' v' fs) (.slice a' fs.length c'))
              ∧ Hid (AtX wr w.heap.size 0 (.mk k o s v es) (.slice a es.length c)) ∧ Hid (AtX wr (w.heap.size + 1) 0 (.mk k' o' s' v' fs) (.slice a' fs.length c'))) (fun x _ => es.length - (intOf x).toNat)
            case atStart => exact ⟨0, Nat.zero_le _, rfl, Lib.hid rfl, HB0, HK, HM, HX0, HY0⟩
            case round =>
              obtain ⟨j, hj, rfl, HI, HB, HKr, HMr, HX, HY⟩ := hrel
              have hx := HX.out.2.2.2.2
              have hy := HY.out.2.2.2.2
              by_cases hlt : j < es.length
              · have k1 : (j : Int) < (es.length : Int) := by omega
                have hlt2 : j < fs.length := by rw [← HL.out]; exact hlt
                have k2 : (j : Int) < (fs.length : Int) := by omega
                obtain ⟨sr, hcr⟩ := KA.at_ (show KA anyB wr es _ from HKr.out)
                obtain ⟨hKj, b, off, rfl, _, hbl, y0, y1, y2, y3, y4⟩ := hcr j hlt
                obtain ⟨sr', hcr'⟩ := KA.at_ (show KA anyB wr fs _ from HMr.out)
                obtain ⟨hKj', b', off', rfl, _, hbl', z0, z1, z2, z3, z4⟩ := hcr' j hlt2
                have HIN := Lib.hid (fun W hW => HIH.out (ga es j) (ga_mem hlt) (ga fs j) (sr j) (sr' j) W (hKj.carry hW) (hKj'.carry hW))
                have HI2 := Lib.hid (HI.out.trans (eqL_step es fs j hlt hlt2))
                obtain ⟨q, hq⟩ : ∃ q, eqE (ga es j) (ga fs j) = q := ⟨_, rfl⟩
                rw [hq] at HI2 HIN
                clear hKj hcr hKj' hcr' hq
                go_wp2_with fail
                go_still_tail 10, (by kernel_rfl)
                change wpList _ _ _ _ _ wr.drew
                have hbw : Below wr.heap.size wr wr.drew := ⟨rfl, rfl, rfl, Nat.le_refl _, fun _ _ => rfl⟩
                generalize wr.drew = W2 at hbw ⊢
                have HI4 := Lib.hid (HIN.out W2 hbw)
                have HBW := Lib.hid (HB.out.trans (hbw.mono HB.out.size))
                have HX2 := Lib.hid (HX.out.keep (hbw.block _ HX.out.lt))
                have HY2 := Lib.hid (HY.out.keep (hbw.block _ HY.out.lt))
                have HK2 := Lib.hid (HKr.out.carry hbw)
                have HM2 := Lib.hid (HMr.out.carry hbw)
                clear hbw HIN hx hy y0 y1 y2 y3 y4 z0 z1 z2 z3 z4
                go_wp2_with fail
                refine HI4.out.mono ?_
                rintro x w4 ⟨rfl, b4⟩
                have HX4 : Hid (AtX w4 w.heap.size 0 (.mk k o s v es) (.slice (some ⟨b, off, none⟩) es.length c)) := Lib.hid (HX2.out.keep (b4.block _ HX2.out.lt))
                have HY4 : Hid (AtX w4 (w.heap.size + 1) 0 (.mk k' o' s' v' fs) (.slice (some ⟨b', off', none⟩) fs.length c')) := Lib.hid (HY2.out.keep (b4.block _ HY2.out.lt))
                have HB4 := Lib.hid (HBW.out.trans (b4.mono HBW.out.size))
                have HK4 := Lib.hid (HK2.out.carry b4)
                have HM4 := Lib.hid (HM2.out.carry b4)
                clear b4
                cases q with
                | true =>
                  have HI3 : Hid (eqL es fs = eqL (es.drop (j + 1)) (fs.drop (j + 1))) := Lib.hid (by rw [HI2.out]; rfl)
                  go_wp2
                  go_roundw
                  case rel => exact ⟨j + 1, by omega, by go_num, HI3, HB4, HK4, HM4, HX4, HY4⟩
                  case measure => simp [intOf]; omega
                | false =>
                  have HI3 : Hid (eqL es fs = false) := Lib.hid (by rw [HI2.out]; rfl)
                  go_wp2
                  go_ret
                  exact ⟨by rw [HE.out, HI3.out]; rfl, HB4.out⟩
              · have k1 : ¬ (j : Int) < (es.length : Int) := by omega
                have HI3 : Hid (eqL es fs = true) := Lib.hid (by rw [HI.out, List.drop_eq_nil_of_le (by omega), List.drop_eq_nil_of_le (by rw [← HL.out]; omega)]; simp [eqL])
                go_wp2
                go_ret
                exact ⟨by rw [HE.out, HI3.out]; rfl, HB.out⟩
          · have HE : Hid (eqE (.mk k o s v es) (.mk k' o' s' v' fs) = false) := Lib.hid (eqE_no (fun h => c5 h.2.2.2.2))
            obtain ⟨q1, q2⟩ := ieq c1
            obtain ⟨q3, q4⟩ := ieq c2
            obtain ⟨q5, q6, q7⟩ := str_yes c3
            obtain ⟨q8, q9⟩ := ieq c4
            obtain ⟨qa, qb⟩ := neq_len c5
            clear c1 c2 c3 c4 c5
            go_enter Tryd.func46, Tryd.ntmps46
            go_wp2
            go_ret
            exact ⟨by rw [HE.out]; rfl, HB0.out⟩
        · have HE : Hid (eqE (.mk k o s v es) (.mk k' o' s' v' fs) = false) := Lib.hid (eqE_no (fun h => c4 h.2.2.2.1))
          obtain ⟨q1, q2⟩ := ieq c1
          obtain ⟨q3, q4⟩ := ieq c2
          obtain ⟨q5, q6, q7⟩ := str_yes c3
          obtain ⟨q8, q9⟩ := ine c4
          clear c1 c2 c3 c4
          go_enter Tryd.func46, Tryd.ntmps46
          go_wp2
          go_ret
          exact ⟨by rw [HE.out]; rfl, HB0.out⟩
      · have HE : Hid (eqE (.mk k o s v es) (.mk k' o' s' v' fs) = false) := Lib.hid (eqE_no (fun h => c3 h.2.2.1))
        obtain ⟨q1, q2⟩ := ieq c1
        obtain ⟨q3, q4⟩ := ieq c2
        obtain ⟨q5, q6, q7⟩ := str_no c3
        clear c1 c2 c3
        go_enter Tryd.func46, Tryd.ntmps46
        go_wp2
        go_ret
        exact ⟨by rw [HE.out]; rfl, HB0.out⟩
    · have HE : Hid (eqE (.mk k o s v es) (.mk k' o' s' v' fs) = false) := Lib.hid (eqE_no (fun h => c2 h.2.1))
      obtain ⟨q1, q2⟩ := ieq c1
      obtain ⟨q3, q4⟩ := ine c2
      clear c1 c2
      go_enter Tryd.func46, Tryd.ntmps46
      go_wp2
      go_ret
      exact ⟨by rw [HE.out]; rfl, HB0.out⟩
  · have HE : Hid (eqE (.mk k o s v es) (.mk k' o' s' v' fs) = false) := Lib.hid (eqE_no (fun h => c1 h.1))
    obtain ⟨q1, q2⟩ := ine c1
    clear c1
    go_enter Tryd.func46, Tryd.ntmps46
    go_wp2
    go_ret
    exact ⟨by rw [HE.out]; rfl, HB0.out⟩

end Go.Proofs.YtdgphhdkeikbaaaDoor

/-! ### ExREqual: What the reference's Equal returns. -/
namespace Go.Proofs.YtdgphhdkeikbaaaDoor
set_option linter.unusedSimpArgs false
set_option linter.unusedVariables false
open Go.RowKit

def equE (a b : Ex) : Bool := decide (ckE a = 0) && decide (ckE b = 0) && eqE a b
set_option maxRecDepth 100000 in
set_option maxHeartbeats 4000000 in
theorem rEqual_any (e f : Ex) (sl sm : Value) (w : World) (hK : KX w e sl) (hM : KX w f sm) (he : fitE e) (hf : fitE f) :
    Calls Tryd.prog 28 #[exV e sl, exV f sm] w fun x w' => x = .returned (.bool (equE e f)) ∧ Below w.heap.size w w' := by
  have hb0 : Below w.heap.size w ((w.alloc (.cells #[.int .i64 e.k, .int .i64 e.o, .string e.s, .int .i64 e.v, sl] TX)).alloc (.cells #[.int .i64 f.k, .int .i64 f.o, .string f.s, .int .i64 f.v, sm] TX)) := ((Below.refl _ w).alloc (Nat.le_refl _) _).alloc (by simp) _
  have HB0 := Lib.hid hb0
  have hX0 : AtX (w.alloc (.cells #[.int .i64 e.k, .int .i64 e.o, .string e.s, .int .i64 e.v, sl] TX)) w.heap.size 0 e sl := boxX w e.k e.o e.s e.v sl e.es
  have hY0 : AtX ((w.alloc (.cells #[.int .i64 e.k, .int .i64 e.o, .string e.s, .int .i64 e.v, sl] TX)).alloc (.cells #[.int .i64 f.k, .int .i64 f.o, .string f.s, .int .i64 f.v, sm] TX)) _ 0 f sm := boxX _ f.k f.o f.s f.v sm f.es
  have HX0 := Lib.hid (hX0.keep (Below.heap_alloc _ (.cells #[.int .i64 f.k, .int .i64 f.o, .string f.s, .int .i64 f.v, sm] TX) _ hX0.lt))
  simp only [World.size_alloc] at hY0
  have HY0 := Lib.hid hY0
  have HK0 := Lib.hid (hK.carry hb0)
  have HM0 := Lib.hid (hM.carry hb0)
  have HF := Lib.hid hf
  have HIN := Lib.hid (rCheck_any e sl _ (hK.carry hb0) he)
  have HEF := Lib.hid (fun W a => rsame_any e f sl sm W a)
  simp only [exV] at HIN HEF ⊢
  clear hb0 hK hM he hf hX0 hY0
  go_enter Tryd.func28, Tryd.ntmps28
  go_wp2_with fail
  refine HIN.out.mono ?_
  rintro x w4 ⟨rfl, b4⟩
  have HB4 := Lib.hid (HB0.out.trans (b4.mono HB0.out.size))
  have HX4 := Lib.hid (HX0.out.keep (b4.block _ HX0.out.lt))
  have HY4 := Lib.hid (HY0.out.keep (b4.block _ HY0.out.lt))
  have HK4 := Lib.hid (HK0.out.carry b4)
  have HM4 := Lib.hid (HM0.out.carry b4)
  clear b4 HIN HX0 HY0 HK0 HM0
  by_cases h : ckE e = 0
  · obtain ⟨q1, q2⟩ := ieq h
    have HH := Lib.hid h
    have HIN := Lib.hid (rCheck_any f sm _ HM4.out HF.out)
    simp only [exV] at HIN
    obtain ⟨y0, y1, y2, y3, y4⟩ := HY4.out
    rw [h] at q1 q2 ⊢
    clear h
    go_wp2_with fail
    refine HIN.out.mono ?_
    rintro x w5 ⟨rfl, b5⟩
    have HB5 := Lib.hid (HB4.out.trans (b5.mono HB4.out.size))
    have HX5 := Lib.hid (HX4.out.keep (b5.block _ HX4.out.lt))
    have HY5 := Lib.hid (HY4.out.keep (b5.block _ HY4.out.lt))
    have HK5 := Lib.hid (HK4.out.carry b5)
    have HM5 := Lib.hid (HM4.out.carry b5)
    clear b5 HIN HX4 HY4 HK4 HM4 y0 y1 y2 y3 y4 q1 q2
    by_cases h : ckE f = 0
    · obtain ⟨q1, q2⟩ := ieq h
      have HE : Hid (equE e f = eqE e f) := Lib.hid (by simp [equE, HH.out, h])
      have HS := Lib.hid (HEF.out w5 HK5.out HM5.out)
      obtain ⟨x0, x1, x2, x3, x4⟩ := HX5.out
      obtain ⟨y0, y1, y2, y3, y4⟩ := HY5.out
      rw [h] at q1 q2 ⊢
      clear h
      go_wp2_with fail
      refine HS.out.mono ?_
      rintro x w6 ⟨rfl, b6⟩
      have HB6 := Lib.hid (HB5.out.trans (b6.mono HB5.out.size))
      clear b6
      go_wp2
      go_ret
      exact ⟨by rw [HE.out]; rfl, HB6.out⟩
    · obtain ⟨q1, q2⟩ := ine h
      have HE : Hid (equE e f = false) := Lib.hid (by simp [equE, h])
      clear h
      go_wp2
      go_ret
      exact ⟨by rw [HE.out]; rfl, HB5.out⟩
  · obtain ⟨q1, q2⟩ := ine h
    have HE : Hid (equE e f = false) := Lib.hid (by simp [equE, h])
    clear h
    go_wp2
    go_ret
    exact ⟨by rw [HE.out]; rfl, HB4.out⟩

end Go.Proofs.YtdgphhdkeikbaaaDoor
