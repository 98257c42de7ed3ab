/-
  The statement's separator.
-/
import Derived.Test.YtdgphhdkeikbaaaDoorLxCutS
namespace Go.Proofs.YtdgphhdkeikbaaaDoor
set_option linter.unusedSimpArgs false
set_option linter.unusedVariables false
open Go.RowKit

def szV : Value → Nat
  | .string b => b.size
  | _ => 0
theorem lst_cons (z : ByteArray) (h : 0 < z.size) : z.data.toList = (z[0]'h) :: z.data.toList.drop 1 := by
  have hl : 0 < z.data.toList.length := by rw [list_len]; exact h
  conv => lhs; rw [← List.drop_zero (l := z.data.toList), List.drop_eq_getElem_cons hl]
  rfl
theorem hp35 (z : ByteArray) (h : 0 < z.size) : Lib.hasPrefix z.data.toList (⟨#[35]⟩ : ByteArray).data.toList = (z[0]'h == 35) := by
  rw [lst_cons z h]
  show List.isPrefixOf [35] _ = _
  simp only [List.isPrefixOf, Bool.and_true]
  rw [Bool.eq_iff_iff, beq_iff_eq, beq_iff_eq]
  exact eq_comm
theorem chr_is (c : UInt8) (d : UInt8) : ((c.toNat : Int) == (d.toNat : Int)) = (c == d) := by
  rw [Bool.eq_iff_iff, beq_iff_eq, beq_iff_eq]
  constructor
  · intro h
    exact UInt8.toNat_inj.1 (by omega)
  · rintro rfl; rfl
theorem one_drop (z : ByteArray) : (z.extract 1 z.size).data.toList = z.data.toList.drop 1 := ext_drop z 1
theorem cutB_size (s : ByteArray) : (cutB s).size ≤ s.size := by
  unfold cutB
  show (List.toArray _).size ≤ _
  rw [List.size_toArray, List.length_drop, ← list_len]
  have := (List.dropWhile_suffix isCm (l := s.data.toList)).length_le
  omega
set_option maxRecDepth 100000 in
set_option maxHeartbeats 4000000 in
theorem separator_any (s : ByteArray) (w : World) (hs : s.size ≤ 4611686018427387904) : Calls Tryd.prog 19 #[.string s] w fun e w' => e = .returned (.bool (sepB s.data.toList)) ∧ ∃ m, w' = w.drewN m := by
  have HS := Lib.hid hs
  go_enter Tryd.func19, Tryd.ntmps19
  go_wp2
  go_loopw [0] (fun x wr => ∃ z : ByteArray, x = .string z ∧ Hid (z.size ≤ s.size) ∧ Hid (sepB s.data.toList = sepB z.data.toList) ∧ Hid (∃ q, wr = w.drewN q)) (fun x _ => szV x)
  case atStart => exact ⟨s, rfl, Lib.hid (Nat.le_refl _), Lib.hid rfl, Lib.hid ⟨0, rfl⟩⟩
  case round =>
    obtain ⟨z, rfl, HZ, HE, HB⟩ := hrel
    by_cases h0 : z.size = 0
    · have hz : z = .empty := by
        cases z with
        | mk d =>
          have : d = #[] := Array.eq_empty_of_size_eq_zero h0
          rw [this]; rfl
      obtain ⟨q1, q2⟩ := emp_yes hz
      have HR : Hid (sepB s.data.toList = true) := Lib.hid (by rw [HE.out, hz]; rfl)
      clear h0 hz
      go_wp2
      go_ret
      exact ⟨by rw [HR.out]; rfl, HB.out⟩
    · have h1 : 0 < z.size := by omega
      obtain ⟨q1, q2⟩ := emp_no (s := z) (fun e => h0 (by rw [e]; rfl))
      have hC := cutPrefix_any z ⟨#[35]⟩ wr (by have := HZ.out; have := HS.out; omega)
      rw [hp35 z h1] at hC
      have HLC := Lib.hid (lst_cons z h1)
      by_cases h35 : z[0]'h1 = 35
      · have e35 : (z[0]'h1 == 35) = true := by simpa using h35
        have hcp := cpS_y (s := z) (p := ⟨#[35]⟩) (by rw [hp35 z h1]; exact e35)
        rw [e35, hcp] at hC
        obtain ⟨y, hy⟩ : ∃ y, z.extract 1 z.size = y := ⟨_, rfl⟩
        have hy' : z.extract (ByteArray.size ⟨#[35]⟩) z.size = y := hy
        rw [hy'] at hC
        have hyl : y.data.toList = z.data.toList.drop 1 := by rw [← hy]; exact one_drop z
        have hys : y.size + 1 = z.size := by
          have h2 := list_len y
          have h3 := list_len z
          rw [hyl, List.length_drop] at h2
          omega
        have hD := cut_any y
        have HNX : Hid (sepB s.data.toList = sepB (cutB y).data.toList) := Lib.hid (by
          rw [HE.out, HLC.out, h35, sepB_cm, ← hyl]
          rfl)
        have HSZ : Hid ((cutB y).size < z.size) := Lib.hid (by have := cutB_size y; omega)
        have HC := Lib.hid hC
        have HD := Lib.hid (fun W => hD W (by have := HZ.out; have := HS.out; omega))
        obtain ⟨t, ht⟩ : ∃ t, cutB y = t := ⟨_, rfl⟩
        rw [ht] at HNX HSZ HD
        clear hC hD h0 h1 h35 e35 hcp hy hy' hyl hys ht HLC
        go_wp2_with fail
        refine HC.out.mono ?_
        rintro e w' ⟨rfl, rfl⟩
        go_wp2_with fail
        refine (HD.out _).mono ?_
        rintro e w2 ⟨⟨x, b, rfl⟩, hb⟩
        have HB2 : Hid (∃ q, w2 = w.drewN q) := Lib.hid (by
          obtain ⟨q, hq⟩ := HB.out
          obtain ⟨m, hm⟩ := hb
          exact ⟨q + m, by rw [hm, hq, World.drewN_drewN]⟩)
        have HZ2 := Lib.hid (Nat.le_trans (Nat.le_of_lt HSZ.out) HZ.out)
        clear hb
        go_wp2
        go_roundw
        case rel => exact ⟨_, rfl, HZ2, HNX, HB2⟩
        case measure => exact HSZ.out
      · have e35 : (z[0]'h1 == 35) = false := by simpa using h35
        have hcp := cpS_n (s := z) (p := ⟨#[35]⟩) (by rw [hp35 z h1]; exact e35)
        rw [e35, hcp] at hC
        have HC := Lib.hid hC
        have hsl : ∀ y, z.extract 1 z.size = y → y.data.toList = z.data.toList.drop 1 ∧ y.size + 1 = z.size := fun y hy => by
          have hyl : y.data.toList = z.data.toList.drop 1 := by rw [← hy]; exact one_drop z
          refine ⟨hyl, ?_⟩
          have h2 := list_len y
          have h3 := list_len z
          rw [hyl, List.length_drop] at h2
          omega
        have HSL := Lib.hid hsl
        have i32 := chr_is (z[0]'h1) 32
        have i9 := chr_is (z[0]'h1) 9
        have i10 := chr_is (z[0]'h1) 10
        change ((z[0]'h1).toNat == (32 : Int)) = _ at i32
        change ((z[0]'h1).toNat == (9 : Int)) = _ at i9
        change ((z[0]'h1).toNat == (10 : Int)) = _ at i10
        have hsp : isSp (z[0]'h1) = ((z[0]'h1 == 32) || (z[0]'h1 == 9) || (z[0]'h1 == 10)) := rfl
        have k1 : (1 : Int) ≤ (z.size : Int) := by omega
        have k0 : (0 : Int) < (z.size : Int) := by omega
        obtain ⟨b1, hb1⟩ : ∃ b, (z[0]'h1 == 32) = b := ⟨_, rfl⟩
        obtain ⟨b2, hb2⟩ : ∃ b, (z[0]'h1 == 9) = b := ⟨_, rfl⟩
        obtain ⟨b3, hb3⟩ : ∃ b, (z[0]'h1 == 10) = b := ⟨_, rfl⟩
        rw [hb1] at i32 hsp
        rw [hb2] at i9 hsp
        rw [hb3] at i10 hsp
        obtain ⟨y, hy⟩ : ∃ y, z.extract 1 z.size = y := ⟨_, rfl⟩
        obtain ⟨hyl, hys⟩ := hsl y hy
        have HY := Lib.hid hy
        have HSP : Hid ((b1 || b2 || b3) = true → sepB s.data.toList = sepB y.data.toList) := Lib.hid (fun h => by
          rw [HE.out, HLC.out, sepB_sp _ (by rw [hsp]; exact h), hyl])
        have HNO : Hid ((b1 || b2 || b3) = false → sepB s.data.toList = false) := Lib.hid (fun h => by
          rw [HE.out, HLC.out, sepB_no _ h35 (by rw [hsp]; exact h)])
        have HYS := Lib.hid hys
        clear hC h0 h35 e35 hcp hsl hsp hb1 hb2 hb3 hy hyl hys HSL HLC HE
        cases b1 with
        | true =>
          have HN := Lib.hid (HSP.out rfl)
          clear HSP HNO
          go_wp2_with fail
          refine HC.out.mono ?_
          rintro e w' ⟨rfl, rfl⟩
          go_wp2
          try rw [HY.out]
          go_roundw
          case rel => exact ⟨y, rfl, Lib.hid (by have := HYS.out; have := HZ.out; omega), HN, HB⟩
          case measure => have := HYS.out; show y.size < z.size; omega
        | false =>
          cases b2 with
          | true =>
            have HN := Lib.hid (HSP.out rfl)
            clear HSP HNO
            go_wp2_with fail
            refine HC.out.mono ?_
            rintro e w' ⟨rfl, rfl⟩
            go_wp2
            try rw [HY.out]
            go_roundw
            case rel => exact ⟨y, rfl, Lib.hid (by have := HYS.out; have := HZ.out; omega), HN, HB⟩
            case measure => have := HYS.out; show y.size < z.size; omega
          | false =>
            cases b3 with
            | true =>
              have HN := Lib.hid (HSP.out rfl)
              clear HSP HNO
              go_wp2_with fail
              refine HC.out.mono ?_
              rintro e w' ⟨rfl, rfl⟩
              go_wp2
              try rw [HY.out]
              go_roundw
              case rel => exact ⟨y, rfl, Lib.hid (by have := HYS.out; have := HZ.out; omega), HN, HB⟩
              case measure => have := HYS.out; show y.size < z.size; omega
            | false =>
              have HN := Lib.hid (HNO.out rfl)
              clear HSP HNO
              go_wp2_with fail
              refine HC.out.mono ?_
              rintro e w' ⟨rfl, rfl⟩
              go_wp2
              go_ret
              exact ⟨by rw [HN.out]; rfl, HB.out⟩
end Go.Proofs.YtdgphhdkeikbaaaDoor
