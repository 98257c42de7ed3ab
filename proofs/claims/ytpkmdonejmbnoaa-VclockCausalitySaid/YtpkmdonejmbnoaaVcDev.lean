/-
  What the program's New, Check, Tick, Join, Meet, Compare and Covers of vclock return, for every argument.
-/
import Derived.Test.YtpkmdonejmbnoaaVcMem
namespace Go.Proofs.Ytpkmdonejmbnoaa
open Go.RowKit

theorem vRange_any (i n : Int) (w : World) : Calls Try.prog 43 #[.int .i64 i, .int .i64 n] w fun e w' => e = .returned (.bool (okZ n)) ∧ w = w' := by
  by_cases h1 : 0 ≤ n
  · by_cases h2 : n ≤ 1099511627776
    · rw [okZ_iff.2 ⟨h1, h2⟩]
      go_enter Try.func43, Try.ntmps43
      go_wp2
      go_ret
      exact ⟨rfl, rfl⟩
    · rw [show okZ n = false by simp [okZ, h2]]
      go_enter Try.func43, Try.ntmps43
      go_wp2
      go_ret
      exact ⟨rfl, rfl⟩
  · rw [show okZ n = false by simp [okZ, h1]]
    go_enter Try.func43, Try.ntmps43
    go_wp2
    go_ret
    exact ⟨rfl, rfl⟩

theorem vHas_any (ad : Option Addr) (n cap : Nat) (i : Int) (w : World) : Calls Try.prog 45 #[.slice ad n cap, .int .i64 i] w fun e w' => e = .returned (.bool (inB n i)) ∧ w = w' := by
  by_cases h1 : 0 ≤ i
  · by_cases h2 : i < (n : Int)
    · rw [inB_iff.2 ⟨h1, h2⟩]
      go_enter Try.func45, Try.ntmps45
      go_wp2
      go_ret
      exact ⟨rfl, rfl⟩
    · rw [show inB n i = false by simp [inB]; omega]
      go_enter Try.func45, Try.ntmps45
      go_wp2
      go_ret
      exact ⟨rfl, rfl⟩
  · rw [show inB n i = false by simp [inB]; omega]
    go_enter Try.func45, Try.ntmps45
    go_wp2
    go_ret
    exact ⟨rfl, rfl⟩

theorem vCovers_any (n₀ : Nat) (ad : Option Addr) (cap : Nat) (zs : List Int) (i n : Int) (w : World) (hI : IntsA n₀ w ad zs) : Calls Try.prog 44 #[.slice ad zs.length cap, .int .i64 i, .int .i64 n] w fun e w' => e = .returned (.bool (covB zs i n)) ∧ w = w' := by
  have HH := vHas_any ad zs.length cap i w
  cases hb : inB zs.length i with
  | false =>
    rw [show covB zs i n = false by unfold covB; rw [hb]; rfl]
    rw [hb] at HH
    have HH := Lib.hid HH
    clear hI hb
    go_enter Try.func44, Try.ntmps44
    go_wp2_with fail
    refine HH.out.mono ?_
    rintro e w1 ⟨rfl, rfl⟩
    go_wp2
    go_ret
    exact ⟨rfl, rfl⟩
  | true =>
    obtain ⟨b1, b2⟩ := inB_iff.1 hb
    obtain ⟨k, rfl⟩ : ∃ k : Nat, i = (k : Int) := ⟨i.toNat, by omega⟩
    rw [hb] at HH
    obtain ⟨b, off, rfl, _, q1⟩ := hI k (by omega)
    have hcv : covB zs (k : Int) n = decide (n ≤ gz zs k) := by unfold covB; rw [hb, Int.toNat_natCast]; rfl
    rw [hcv]
    change w.cell? ⟨b, off + k, none⟩ = some (.int .i64 (gz zs k)) at q1
    generalize gz zs k = z at *
    have HH := Lib.hid HH
    clear hI hb hcv
    go_enter Try.func44, Try.ntmps44
    go_wp2_with fail
    refine HH.out.mono ?_
    rintro e w1 ⟨rfl, rfl⟩
    go_wp2
    go_ret
    exact ⟨rfl, rfl⟩

set_option maxHeartbeats 1000000 in
theorem allRange_any (n₀ : Nat) (ad : Option Addr) (cap : Nat) (zs : List Int) (w : World) (hI : IntsA n₀ w ad zs) (hl : zs.length ≤ 9223372036854775807) :
    Calls Try.prog 42 #[.slice ad zs.length cap, .func (.func 43) #[] #[]] w fun e w' => e = .returned (.bool (vcAll zs)) ∧ w = w' := by
  have HI := Lib.hid hI
  skip
  have HE : Hid (allP (fun i => okZ (gz zs i)) zs.length = true → vcAll zs = true) := Lib.hid (fun h => h)
  have HF : Hid (∀ k, k < zs.length → (fun i => okZ (gz zs i)) k = false → vcAll zs = false) := Lib.hid (fun k h1 h2 => allP_no (p := fun i => okZ (gz zs i)) h1 h2)
  clear hI
  go_enter Try.func42, Try.ntmps42
  go_wp2
  go_loopw [9] (fun i wr => ∃ k : Nat, k ≤ zs.length ∧ i = .int .i64 k ∧ Hid (allP (fun i => okZ (gz zs i)) k = true) ∧ w = wr) (fun i _ => zs.length - (intOf i).toNat)
  case atStart => exact ⟨0, Nat.zero_le _, rfl, Lib.hid rfl, rfl⟩
  case round =>
    obtain ⟨k, hk, rfl, HA, rfl⟩ := hrel
    by_cases hlt : k < zs.length
    · have k1 : (k : Int) < (zs.length : Int) := by omega
      obtain ⟨b, off, rfl, _, q1⟩ := HI.out k hlt
      change w.cell? ⟨b, off + k, none⟩ = some (.int .i64 (gz zs k)) at q1
      have HC := vRange_any (k : Int) (gz zs k) w
      cases hok : (fun i => okZ (gz zs i)) k with
      | true =>
        have HA' : Hid (allP (fun i => okZ (gz zs i)) (k + 1) = true) := Lib.hid (by rw [allP_succ, HA.out, Bool.true_and]; exact hok)
        have hok' : okZ (gz zs k) = true := hok
        rw [hok'] at HC
        generalize gz zs k = z at q1 HC
        have HC := Lib.hid HC
        clear hok hok'
        go_wp2_with fail
        refine HC.out.mono ?_
        rintro e w4 ⟨rfl, rfl⟩
        go_wp2
        go_roundw
        case rel => exact ⟨k + 1, by omega, by go_num, HA', trivial⟩
        case measure => simp [intOf]; omega
      | false =>
        have HR := Lib.hid (HF.out k hlt hok)
        have hok' : okZ (gz zs k) = false := hok
        rw [hok'] at HC
        generalize gz zs k = z at q1 HC
        have HC := Lib.hid HC
        clear hok hok'
        go_wp2_with fail
        refine HC.out.mono ?_
        rintro e w4 ⟨rfl, rfl⟩
        go_wp2
        go_ret
        exact ⟨by rw [HR.out]; rfl, rfl⟩
    · obtain rfl : k = zs.length := by omega
      have HR := Lib.hid (HE.out HA.out)
      go_wp2
      go_ret
      exact ⟨by rw [HR.out]; rfl, rfl⟩

set_option maxHeartbeats 1000000 in
theorem allCovers_any (n₀ : Nat) (ad : Option Addr) (cap : Nat) (zs : List Int) (bd : Option Addr) (dap : Nat) (ds : List Int) (w : World) (hI : IntsA n₀ w ad zs) (hl : zs.length ≤ 9223372036854775807) (hD : IntsA n₀ w bd ds) (hle : zs.length = ds.length) :
    Calls Try.prog 42 #[.slice ad zs.length cap, .func (.func 44) #[.slice bd ds.length dap] #[]] w fun e w' => e = .returned (.bool (leB zs ds)) ∧ w = w' := by
  have HI := Lib.hid hI
  have HD := Lib.hid hD
  have HLE := Lib.hid hle
  clear hD hle
  have HE : Hid (allP (fun i => decide (gz zs i ≤ gz ds i)) zs.length = true → leB zs ds = true) := Lib.hid (fun h => h)
  have HF : Hid (∀ k, k < zs.length → (fun i => decide (gz zs i ≤ gz ds i)) k = false → leB zs ds = false) := Lib.hid (fun k h1 h2 => allP_no (p := fun i => decide (gz zs i ≤ gz ds i)) h1 h2)
  clear hI
  go_enter Try.func42, Try.ntmps42
  go_wp2
  go_loopw [9] (fun i wr => ∃ k : Nat, k ≤ zs.length ∧ i = .int .i64 k ∧ Hid (allP (fun i => decide (gz zs i ≤ gz ds i)) k = true) ∧ w = wr) (fun i _ => zs.length - (intOf i).toNat)
  case atStart => exact ⟨0, Nat.zero_le _, rfl, Lib.hid rfl, rfl⟩
  case round =>
    obtain ⟨k, hk, rfl, HA, rfl⟩ := hrel
    by_cases hlt : k < zs.length
    · have k1 : (k : Int) < (zs.length : Int) := by omega
      obtain ⟨b, off, rfl, _, q1⟩ := HI.out k hlt
      change w.cell? ⟨b, off + k, none⟩ = some (.int .i64 (gz zs k)) at q1
      have HC := vCovers_any n₀ bd dap ds (k : Int) (gz zs k) w HD.out
      cases hok : (fun i => decide (gz zs i ≤ gz ds i)) k with
      | true =>
        have HA' : Hid (allP (fun i => decide (gz zs i ≤ gz ds i)) (k + 1) = true) := Lib.hid (by rw [allP_succ, HA.out, Bool.true_and]; exact hok)
        have hok' : covB ds (k : Int) (gz zs k) = true := by
          unfold covB
          rw [inB_iff.2 ⟨by omega, by have := HLE.out; omega⟩, Int.toNat_natCast]
          exact hok
        rw [hok'] at HC
        generalize gz zs k = z at q1 HC
        have HC := Lib.hid HC
        clear hok hok'
        go_wp2_with fail
        refine HC.out.mono ?_
        rintro e w4 ⟨rfl, rfl⟩
        go_wp2
        go_roundw
        case rel => exact ⟨k + 1, by omega, by go_num, HA', trivial⟩
        case measure => simp [intOf]; omega
      | false =>
        have HR := Lib.hid (HF.out k hlt hok)
        have hok' : covB ds (k : Int) (gz zs k) = false := by
          unfold covB
          rw [inB_iff.2 ⟨by omega, by have := HLE.out; omega⟩, Int.toNat_natCast]
          exact hok
        rw [hok'] at HC
        generalize gz zs k = z at q1 HC
        have HC := Lib.hid HC
        clear hok hok'
        go_wp2_with fail
        refine HC.out.mono ?_
        rintro e w4 ⟨rfl, rfl⟩
        go_wp2
        go_ret
        exact ⟨by rw [HR.out]; rfl, rfl⟩
    · obtain rfl : k = zs.length := by omega
      have HR := Lib.hid (HE.out HA.out)
      go_wp2
      go_ret
      exact ⟨by rw [HR.out]; rfl, rfl⟩

/-- Check. -/
theorem vCheck_any (n₀ : Nat) (ad : Option Addr) (cap : Nat) (zs : List Int) (w : World) (hI : IntsA n₀ w ad zs) (hl : zs.length ≤ 9223372036854775807) :
    Calls Try.prog 15 #[.slice ad zs.length cap] w fun e w' => e = .returned (.int .i64 (vcE zs)) ∧ w = w' := by
  have HC := allRange_any n₀ ad cap zs w hI hl
  by_cases h : 32 < zs.length
  · have h' : (32 : Int) < (zs.length : Int) := by omega
    rw [show vcE zs = 4 by unfold vcE; rw [if_pos h]]
    clear HC hI
    go_enter Try.func15, Try.ntmps15
    go_wp2
    go_ret
    exact ⟨rfl, rfl⟩
  · have h' : ¬ (32 : Int) < (zs.length : Int) := by omega
    cases ha : vcAll zs with
    | true =>
      rw [show vcE zs = 0 by unfold vcE; rw [if_neg h, if_pos ha]]
      rw [ha] at HC
      have HC := Lib.hid HC
      clear hI ha
      go_enter Try.func15, Try.ntmps15
      go_wp2_with fail
      refine HC.out.mono ?_
      rintro e w4 ⟨rfl, rfl⟩
      go_wp2
      go_ret
      exact ⟨rfl, rfl⟩
    | false =>
      rw [show vcE zs = 2 by unfold vcE; rw [if_neg h, if_neg (by rw [ha]; simp)]]
      rw [ha] at HC
      have HC := Lib.hid HC
      clear hI ha
      go_enter Try.func15, Try.ntmps15
      go_wp2_with fail
      refine HC.out.mono ?_
      rintro e w4 ⟨rfl, rfl⟩
      go_wp2
      go_ret
      exact ⟨rfl, rfl⟩

theorem vAtMost_any (n₀ : Nat) (ad bd : Option Addr) (cap dap : Nat) (zs ds : List Int) (w : World) (hI : IntsA n₀ w ad zs) (hD : IntsA n₀ w bd ds) (hl : zs.length ≤ 9223372036854775807) (hle : zs.length = ds.length) :
    Calls Try.prog 56 #[.slice ad zs.length cap, .slice bd ds.length dap] w fun e w' => e = .returned (.bool (leB zs ds)) ∧ w = w' := by
  have HC := Lib.hid (allCovers_any n₀ ad cap zs bd dap ds w hI hl hD hle)
  clear hI hD hle
  go_enter Try.func56, Try.ntmps56
  go_wp2_with fail
  refine HC.out.mono ?_
  rintro e w4 ⟨rfl, rfl⟩
  go_wp2
  go_ret
  exact ⟨rfl, rfl⟩

theorem vPair_any (n₀ : Nat) (ad bd : Option Addr) (cap dap : Nat) (zs ds : List Int) (w : World) (hI : IntsA n₀ w ad zs) (hD : IntsA n₀ w bd ds) (hl : zs.length ≤ 9223372036854775807) (hm : ds.length ≤ 9223372036854775807) :
    Calls Try.prog 55 #[.slice ad zs.length cap, .slice bd ds.length dap] w fun e w' => e = .returned (.int .i64 (pairE zs ds)) ∧ w = w' := by
  have H1 := vCheck_any n₀ ad cap zs w hI hl
  have H2 := vCheck_any n₀ bd dap ds w hD hm
  clear hI hD
  by_cases h1 : vcE zs = 0
  · rw [h1] at H1
    by_cases h2 : vcE ds = 0
    · rw [h2] at H2
      by_cases h3 : zs.length = ds.length
      · rw [pairE_of h1 h2 h3]
        have h3' : ((zs.length : Int) != (ds.length : Int)) = false := by rw [h3]; simp
        have H1 := Lib.hid H1
        have H2 := Lib.hid H2
        clear h1 h2 h3
        go_enter Try.func55, Try.ntmps55
        go_wp2_with fail
        refine H1.out.mono ?_
        rintro e w4 ⟨rfl, rfl⟩
        go_wp2_with fail
        refine H2.out.mono ?_
        rintro e w4 ⟨rfl, rfl⟩
        go_wp2
        go_ret
        exact ⟨rfl, rfl⟩
      · have h3' : ((zs.length : Int) != (ds.length : Int)) = true := by rw [bne_iff_ne]; omega
        rw [show pairE zs ds = 10 by unfold pairE; rw [if_neg (by simp [h1, h2]), if_pos h3]]
        have H1 := Lib.hid H1
        have H2 := Lib.hid H2
        clear h1 h2 h3
        go_enter Try.func55, Try.ntmps55
        go_wp2_with fail
        refine H1.out.mono ?_
        rintro e w4 ⟨rfl, rfl⟩
        go_wp2_with fail
        refine H2.out.mono ?_
        rintro e w4 ⟨rfl, rfl⟩
        go_wp2
        go_ret
        exact ⟨rfl, rfl⟩
    · rw [show pairE zs ds = 1 by unfold pairE; rw [if_pos (.inr h2)]]
      have hb : (vcE ds != 0) = true := by simpa using h2
      have H1 := Lib.hid H1
      have H2 := Lib.hid H2
      clear h1 h2
      generalize vcE ds = x2 at *
      go_enter Try.func55, Try.ntmps55
      go_wp2_with fail
      refine H1.out.mono ?_
      rintro e w4 ⟨rfl, rfl⟩
      go_wp2_with fail
      refine H2.out.mono ?_
      rintro e w4 ⟨rfl, rfl⟩
      go_wp2
      go_ret
      exact ⟨rfl, rfl⟩
  · rw [show pairE zs ds = 1 by unfold pairE; rw [if_pos (.inl h1)]]
    have hb : (vcE zs != 0) = true := by simpa using h1
    have H1 := Lib.hid H1
    clear h1 H2
    generalize vcE zs = x1 at *
    go_enter Try.func55, Try.ntmps55
    go_wp2_with fail
    refine H1.out.mono ?_
    rintro e w4 ⟨rfl, rfl⟩
    go_wp2
    go_ret
    exact ⟨rfl, rfl⟩

/-- Compare. -/
theorem vCompare_any (n₀ : Nat) (ad bd : Option Addr) (cap dap : Nat) (zs ds : List Int) (w : World) (hI : IntsA n₀ w ad zs) (hD : IntsA n₀ w bd ds) (hl : zs.length ≤ 9223372036854775807) (hm : ds.length ≤ 9223372036854775807) :
    Calls Try.prog 29 #[.slice ad zs.length cap, .slice bd ds.length dap] w fun e w' => e = .returned (.int .i64 (cmpK zs ds)) ∧ w = w' := by
  have HP := vPair_any n₀ ad bd cap dap zs ds w hI hD hl hm
  by_cases hp : pairE zs ds = 0
  · obtain ⟨_, _, hle⟩ := pairE_ok hp
    have H1 := vAtMost_any n₀ ad bd cap dap zs ds w hI hD hl hle
    have H2 := vAtMost_any n₀ bd ad dap cap ds zs w hD hI hm hle.symm
    rw [hp] at HP
    have hc : cmpK zs ds = if leB zs ds = true ∧ leB ds zs = true then 0 else if leB zs ds = true then 1 else if leB ds zs = true then 2 else 3 := by unfold cmpK; rw [if_neg (by simp [hp])]
    rw [hc]
    have HP := Lib.hid HP
    clear hI hD hp hc hle
    cases h1 : leB zs ds with
    | true =>
      rw [h1] at H1
      cases h2 : leB ds zs with
      | true =>
        rw [h2] at H2
        have H1 := Lib.hid H1
        have H2 := Lib.hid H2
        clear h1 h2
        go_enter Try.func29, Try.ntmps29
        go_wp2_with fail
        refine HP.out.mono ?_
        rintro e w4 ⟨rfl, rfl⟩
        go_wp2_with fail
        refine H1.out.mono ?_
        rintro e w4 ⟨rfl, rfl⟩
        go_wp2_with fail
        refine H2.out.mono ?_
        rintro e w4 ⟨rfl, rfl⟩
        go_wp2
        go_ret
        exact ⟨rfl, rfl⟩
      | false =>
        rw [h2] at H2
        have H1 := Lib.hid H1
        have H2 := Lib.hid H2
        clear h1 h2
        go_enter Try.func29, Try.ntmps29
        go_wp2_with fail
        refine HP.out.mono ?_
        rintro e w4 ⟨rfl, rfl⟩
        go_wp2_with fail
        refine H1.out.mono ?_
        rintro e w4 ⟨rfl, rfl⟩
        go_wp2_with fail
        refine H2.out.mono ?_
        rintro e w4 ⟨rfl, rfl⟩
        go_wp2
        go_ret
        exact ⟨rfl, rfl⟩
    | false =>
      rw [h1] at H1
      cases h2 : leB ds zs with
      | true =>
        rw [h2] at H2
        have H1 := Lib.hid H1
        have H2 := Lib.hid H2
        clear h1 h2
        go_enter Try.func29, Try.ntmps29
        go_wp2_with fail
        refine HP.out.mono ?_
        rintro e w4 ⟨rfl, rfl⟩
        go_wp2_with fail
        refine H1.out.mono ?_
        rintro e w4 ⟨rfl, rfl⟩
        go_wp2_with fail
        refine H2.out.mono ?_
        rintro e w4 ⟨rfl, rfl⟩
        go_wp2
        go_ret
        exact ⟨rfl, rfl⟩
      | false =>
        rw [h2] at H2
        have H1 := Lib.hid H1
        have H2 := Lib.hid H2
        clear h1 h2
        go_enter Try.func29, Try.ntmps29
        go_wp2_with fail
        refine HP.out.mono ?_
        rintro e w4 ⟨rfl, rfl⟩
        go_wp2_with fail
        refine H1.out.mono ?_
        rintro e w4 ⟨rfl, rfl⟩
        go_wp2_with fail
        refine H2.out.mono ?_
        rintro e w4 ⟨rfl, rfl⟩
        go_wp2
        go_ret
        exact ⟨rfl, rfl⟩
  · rw [show cmpK zs ds = 3 by unfold cmpK; rw [if_pos hp]]
    have hb : (pairE zs ds != 0) = true := by simpa using hp
    have HP := Lib.hid HP
    clear hI hD hp
    generalize pairE zs ds = x1 at *
    go_enter Try.func29, Try.ntmps29
    go_wp2_with fail
    refine HP.out.mono ?_
    rintro e w4 ⟨rfl, rfl⟩
    go_wp2
    go_ret
    exact ⟨rfl, rfl⟩

/-- Covers. -/
def kovB (zs : List Int) (i n : Int) : Bool := decide (vcE zs = 0) && covB zs i n
theorem vKovers_any (n₀ : Nat) (ad : Option Addr) (cap : Nat) (zs : List Int) (i n : Int) (w : World) (hI : IntsA n₀ w ad zs) (hl : zs.length ≤ 9223372036854775807) :
    Calls Try.prog 17 #[.slice ad zs.length cap, .int .i64 i, .int .i64 n] w fun e w' => e = .returned (.bool (kovB zs i n)) ∧ w = w' := by
  have HC := vCheck_any n₀ ad cap zs w hI hl
  have HV := vCovers_any n₀ ad cap zs i n w hI
  by_cases h : vcE zs = 0
  · rw [show kovB zs i n = covB zs i n by unfold kovB; simp [h]]
    rw [h] at HC
    have HC := Lib.hid HC
    have HV := Lib.hid HV
    clear hI h
    generalize covB zs i n = b at *
    go_enter Try.func17, Try.ntmps17
    go_wp2_with fail
    refine HC.out.mono ?_
    rintro e w4 ⟨rfl, rfl⟩
    go_wp2_with fail
    refine HV.out.mono ?_
    rintro e w4 ⟨rfl, rfl⟩
    go_wp2
    go_ret
    exact ⟨rfl, rfl⟩
  · rw [show kovB zs i n = false by unfold kovB; simp [h]]
    have hb : (vcE zs == 0) = false := by simpa using h
    have HC := Lib.hid HC
    clear hI h HV
    generalize vcE zs = x at *
    go_enter Try.func17, Try.ntmps17
    go_wp2_with fail
    refine HC.out.mono ?_
    rintro e w4 ⟨rfl, rfl⟩
    go_wp2
    go_ret
    exact ⟨rfl, rfl⟩

end Go.Proofs.Ytpkmdonejmbnoaa
