/-
  What the reference's New, Check, Tick, Join, Meet, Compare and Covers of vclock return, for every argument.
-/
import Derived.Test.YtpkmdonejmbnoaaVcDevB
import Derived.Test.YtpkmdonejmbnoaaSame
namespace Go.Proofs.Ytpkmdonejmbnoaa
open Go.RowKit

theorem append_none (P : Program) (w : World) (base : Nat) (t ty e : TypeId) (i : TypeInfo) (size : Nat) (ht : P.underlying t = some (.slice e)) (hi : P.info? e = some i) (v : Value) (n : Nat) (xs : List Value) (hown : w.ownsRow base e size v n xs) (c : Nat) :
    (Builtin.append_ #[t, t] ty #[v, .slice none 0 c]).run P w = .ok v w := by
  rcases hown.2 with ⟨rfl, rfl⟩ | ⟨g, cap, cur, rfl, _, _, hnc, _⟩
  · simp [Builtin.append_, run_underlying ht, sizeOf, typeInfo, hi, Builtin.lenOf, Builtin.firstCells]
  · simp [Builtin.append_, run_underlying ht, sizeOf, typeInfo, hi, Builtin.lenOf, Builtin.firstCells, hnc, storeCells]

/-- A copy, in a new row. -/
theorem appendCopyZ {zs : List Int} {ad : Option Addr} {cap n₀ : Nat} {w : World} (hI : IntsA n₀ w ad zs) (hl : zs.length ≤ 100000) :
    ∃ (u : Value) (w' : World), (Builtin.append_ #[23, 23] 23 #[.slice (some ⟨w.heap.size, 0, none⟩) 0 0, .slice ad zs.length cap]).run Try.prog (w.alloc (.cells #[] TZ)) = .ok u w' ∧ OwnZ w.heap.size zs u w' ∧ Below w.heap.size w w' := by
  obtain ⟨i1, ji, jz0, jz1, jz2⟩ := info_parts infoZ
  have hm : (w.alloc (.cells #[] TZ)).ownsRow w.heap.size TZ 1 (.slice (some ⟨w.heap.size, 0, none⟩) 0 0) 0 [] := World.ownsRow_made w #[] 0 (Nat.le_refl _) (Nat.zero_le _) rfl
  have ha : Below w.heap.size w (w.alloc (.cells #[] TZ)) := (Below.refl _ w).alloc (Nat.le_refl _) _
  cases ad with
  | none =>
    have hz : zs = [] := by
      cases zs with
      | nil => rfl
      | cons x xs =>
        obtain ⟨b, off, e, _⟩ := hI 0 (by simp)
        cases e
    subst hz
    exact ⟨_, _, append_none Try.prog (w.alloc (.cells #[] TZ)) w.heap.size 23 23 TZ i1 1 Try.underlying23 ji _ 0 [] hm cap, hm, ha⟩
  | some q =>
    have hc : ∀ j u, (intV zs)[j]? = some u → (w.alloc (.cells #[] TZ)).cell? (q.add j) = some u := by
      intro j u hj
      have hlt : j < (intV zs).length := (List.getElem?_eq_some_iff.1 hj).1
      rw [intV_length] at hlt
      obtain ⟨b, off, e, _, h1⟩ := hI j hlt
      cases e
      rw [intV_get _ hlt] at hj
      cases hj
      rw [Addr.add_lit]
      exact Lib.cell?_alloc_some _ h1
    obtain ⟨v', w', hrun, ho, hgw, _⟩ := run_append_own (P := Try.prog) (w.alloc (.cells #[] TZ)) w.heap.size 23 23 TZ i1 (.int .i64 0) 1 8 Try.underlying23 ji jz0 jz1 jz2 rfl (by decide) (.slice (some ⟨w.heap.size, 0, none⟩) 0 0) 0 [] hm q zs.length cap (intV zs) (by rw [intV_length]; omega) hc (intV_one _) (by unfold maxLen; omega) (by omega) (by simp)
    refine ⟨v', w', hrun, ?_, ha.grown hgw (by simp) (by intro k hk; simp [Value.ownBlock] at hk; omega)⟩
    unfold OwnZ
    simpa using ho

theorem okZ_no {n : Int} (h : ¬ (0 ≤ n ∧ n ≤ 1099511627776)) : okZ n = false := by
  cases e : okZ n with
  | false => rfl
  | true => exact absurd (okZ_iff.1 e) h

/-- A row that changes. -/
def RowV (B : Nat) (v : Value) (L : Nat) (f : Nat → Int) (w : World) : Prop := w.ownsRow B TZ 1 v L (intV (fnL L f))
theorem RowV.known {B L : Nat} {v : Value} {f : Nat → Int} {w : World} (h : RowV B v L f w) : KlC w v (fnL L f) := by
  refine OwnZ.known (B := B) ?_
  unfold OwnZ
  rw [fnL_length]
  exact h
theorem RowV.of {B : Nat} {v : Value} {zs : List Int} {w : World} (h : OwnZ B zs v w) : RowV B v zs.length (gz zs) w := by
  unfold RowV
  rw [fnL_gz]
  exact h
theorem RowV.drewN {B L n : Nat} {v : Value} {f : Nat → Int} {w : World} (h : RowV B v L f w) : RowV B v L f (w.drewN n) := World.ownsRow.kept (row := none) h ⟨rfl, rfl, rfl, Nat.le_refl _, fun _ _ _ => rfl⟩ (by cases hv : v.ownBlock <;> simp)
theorem RowV.store {B L g c : Nat} {f h : Nat → Int} {w : World} (hr : RowV B (.slice (some ⟨g, 0, none⟩) L c) L f w) (k : Nat) (z : Int) (hz : h k = z) (hg : ∀ i, i ≠ k → h i = f i) : RowV B (.slice (some ⟨g, 0, none⟩) L c) L h (w.setCell ⟨g, k, none⟩ (.int .i64 z)) := by
  have h1 := (World.ownsRow.stored hr k (.int .i64 z)).1
  rw [intV_set, fnL_set hz hg] at h1
  exact h1
theorem RowV.cell {B L g c : Nat} {f : Nat → Int} {w : World} (h : RowV B (.slice (some ⟨g, 0, none⟩) L c) L f w) {k : Nat} (hk : k < L) : w.cell? ⟨g, k, none⟩ = some (.int .i64 (f k)) := by
  have h : w.ownsRow B TZ 1 (.slice (some ⟨g, 0, none⟩) L c) L (intV (fnL L f)) := h
  rw [World.ownsRow.cellAt h k (by omega), intV_get _ (by rw [fnL_length]; exact hk), gz_fnL hk]
def mixF (g : Int → Int → Int) (zs ds : List Int) (k i : Nat) : Int := if i < k then g (gz zs i) (gz ds i) else gz zs i
theorem mixF_here (g : Int → Int → Int) (zs ds : List Int) (k : Nat) : mixF g zs ds (k + 1) k = g (gz zs k) (gz ds k) := by simp [mixF]
theorem mixF_else (g : Int → Int → Int) (zs ds : List Int) (k i : Nat) (h : i ≠ k) : mixF g zs ds (k + 1) i = mixF g zs ds k i := by
  unfold mixF
  by_cases h1 : i < k
  · rw [if_pos h1, if_pos (by omega)]
  · rw [if_neg h1, if_neg (by omega)]
theorem mixF_same (g : Int → Int → Int) (zs ds : List Int) (k : Nat) (h : g (gz zs k) (gz ds k) = gz zs k) : mixF g zs ds (k + 1) = mixF g zs ds k := by
  funext i
  by_cases e : i = k
  · subst e
    rw [mixF_here, h]
    simp [mixF]
  · exact mixF_else g zs ds k i e
theorem mixF_zero (g : Int → Int → Int) (zs ds : List Int) : mixF g zs ds 0 = gz zs := by funext i; simp [mixF]
theorem fnL_mix (g : Int → Int → Int) (zs ds : List Int) (n : Nat) : fnL n (mixF g zs ds n) = fnL n (fun i => g (gz zs i) (gz ds i)) := gz_ext (by simp [fnL_length]) (fun i hi => by rw [fnL_length] at hi; rw [gz_fnL hi, gz_fnL hi, mixF, if_pos hi])

set_option maxHeartbeats 1000000 in
/-- Check. -/
theorem rCheck_any (n₀ : Nat) (ad : Option Addr) (cap : Nat) (zs : List Int) (w : World) (hI : IntsA n₀ w ad zs) (hl : zs.length ≤ 9223372036854775807) :
    Calls Try.prog 16 #[.slice ad zs.length cap] w fun e w' => e = .returned (.int .i64 (vcE zs)) ∧ w = w' := by
  by_cases h : 32 < zs.length
  · have h' : (32 : Int) < (zs.length : Int) := by omega
    rw [show vcE zs = 4 by unfold vcE; rw [if_pos h]]
    clear hI
    go_enter Try.func16, Try.ntmps16
    go_wp2
    go_ret
    exact ⟨rfl, rfl⟩
  · have h' : ¬ (32 : Int) < (zs.length : Int) := by omega
    have HI := Lib.hid hI
    have HE : Hid (allP (fun i => okZ (gz zs i)) zs.length = true → vcE zs = 0) := Lib.hid (fun h1 => by unfold vcE; rw [if_neg h, if_pos (show vcAll zs = true from h1)])
    have HF : Hid (∀ k, k < zs.length → okZ (gz zs k) = false → vcE zs = 2) := Lib.hid (fun k h1 h2 => by
      have h3 : vcAll zs = false := allP_no (p := fun i => okZ (gz zs i)) h1 h2
      unfold vcE
      rw [if_neg h, if_neg (by rw [h3]; simp)])
    clear hI h
    go_enter Try.func16, Try.ntmps16
    go_wp2
    go_loopw [3] (fun i wr => ∃ k : Nat, k ≤ zs.length ∧ i = .int .i64 k ∧ Hid (allP (fun i => okZ (gz zs i)) k = true) ∧ w = wr) (fun i _ => zs.length - (intOf i).toNat)
    case atStart => exact ⟨0, Nat.zero_le _, rfl, Lib.hid rfl, rfl⟩
    case round =>
      obtain ⟨k, hk, rfl, HA, rfl⟩ := hrel
      by_cases hlt : k < zs.length
      · have k1 : (k : Int) < (zs.length : Int) := by omega
        obtain ⟨b, off, rfl, _, q1⟩ := HI.out k hlt
        change w.cell? ⟨b, off + k, none⟩ = some (.int .i64 (gz zs k)) at q1
        obtain ⟨z, hz⟩ : ∃ z, gz zs k = z := ⟨_, rfl⟩
        rw [hz] at q1
        have HNO : Hid (okZ z = false → vcE zs = 2) := Lib.hid (fun h1 => HF.out k hlt (by rw [hz]; exact h1))
        have HYES : Hid (okZ z = true → allP (fun i => okZ (gz zs i)) (k + 1) = true) := Lib.hid (fun h1 => by rw [allP_succ, HA.out, Bool.true_and, hz]; exact h1)
        clear hz
        by_cases z1 : z < 0
        · have HR := Lib.hid (HNO.out (okZ_no (by omega)))
          go_wp2
          go_ret
          exact ⟨by rw [HR.out]; rfl, rfl⟩
        · by_cases z2 : 1099511627776 < z
          · have HR := Lib.hid (HNO.out (okZ_no (by omega)))
            go_wp2
            go_ret
            exact ⟨by rw [HR.out]; rfl, rfl⟩
          · have HA' := Lib.hid (HYES.out (okZ_iff.2 ⟨by omega, by omega⟩))
            go_wp2
            go_roundw
            case rel => exact ⟨k + 1, by omega, by go_num, HA', trivial⟩
            case measure => simp [intOf]; omega
      · obtain rfl : k = zs.length := by omega
        have HR := Lib.hid (HE.out HA.out)
        go_wp2
        go_ret
        exact ⟨by rw [HR.out]; rfl, rfl⟩

set_option maxHeartbeats 1000000 in
theorem rLeq_any (n₀ : Nat) (ad bd : Option Addr) (cap dap : Nat) (zs ds : List Int) (w : World) (hI : IntsA n₀ w ad zs) (hD : IntsA n₀ w bd ds) (hl : zs.length ≤ 9223372036854775807) (hle : zs.length = ds.length) :
    Calls Try.prog 57 #[.slice ad zs.length cap, .slice bd ds.length dap] w fun e w' => e = .returned (.bool (leB zs ds)) ∧ Below w.heap.size w w' := by
  have HI := Lib.hid hI
  have HD := Lib.hid hD
  have HLE := Lib.hid hle
  have HE : Hid (allP (fun i => decide (gz zs i ≤ gz ds i)) zs.length = true → leB zs ds = true) := Lib.hid (fun h => h)
  have HF : Hid (∀ k, k < zs.length → gz ds k < gz zs k → leB zs ds = false) := Lib.hid (fun k h1 h2 => allP_no (p := fun i => decide (gz zs i ≤ gz ds i)) h1 (decide_eq_false (by omega)))
  clear hI hD hle
  go_enter Try.func57, Try.ntmps57
  go_wp2
  go_loopw [5] (fun i wr => ∃ k q : Nat, k ≤ zs.length ∧ i = .int .i64 k ∧ wr = w.drewN q ∧ Hid (allP (fun i => decide (gz zs i ≤ gz ds i)) k = true)) (fun i _ => zs.length - (intOf i).toNat)
  case atStart => exact ⟨0, 0, Nat.zero_le _, rfl, rfl, Lib.hid rfl⟩
  case round =>
    obtain ⟨k, q, hk, rfl, rfl, HA⟩ := hrel
    by_cases hlt : k < zs.length
    · have k1 : (k : Int) < (zs.length : Int) := by omega
      have k2 : (k : Int) < (ds.length : Int) := by have := HLE.out; omega
      have k3 : (0 : Int) ≤ (k : Int) := by omega
      obtain ⟨b1, o1, rfl, _, q1⟩ := HI.out k hlt
      obtain ⟨b2, o2, rfl, _, q2⟩ := HD.out k (by have := HLE.out; omega)
      change w.cell? ⟨b1, o1 + k, none⟩ = some (.int .i64 (gz zs k)) at q1
      change w.cell? ⟨b2, o2 + k, none⟩ = some (.int .i64 (gz ds k)) at q2
      have HNO : Hid (gz ds k < gz zs k → leB zs ds = false) := Lib.hid (HF.out k hlt)
      have HYES : Hid (gz zs k ≤ gz ds k → allP (fun i => decide (gz zs i ≤ gz ds i)) (k + 1) = true) := Lib.hid (fun h1 => by rw [allP_succ, HA.out, Bool.true_and]; exact decide_eq_true h1)
      generalize gz zs k = x at q1 HNO HYES
      generalize gz ds k = y at q2 HNO HYES
      by_cases hxy : x ≤ y
      · have h1 : ¬ y < x := by omega
        have HA' := Lib.hid (HYES.out hxy)
        go_wp2
        go_quiet (fail)
        go_wp2
        go_roundw
        case rel => exact ⟨k + 1, _, by omega, by go_num, rfl, HA'⟩
        case measure => simp [intOf]; omega
      · have h1 : y < x := by omega
        have HR := Lib.hid (HNO.out h1)
        go_wp2
        go_quiet (fail)
        go_wp2
        go_ret
        exact ⟨by rw [HR.out]; rfl, below_drewN (below_drewN (Below.refl _ w) _) _⟩
    · obtain rfl : k = zs.length := by omega
      have HR := Lib.hid (HE.out HA.out)
      go_wp2
      go_ret
      exact ⟨by rw [HR.out]; rfl, below_drewN (Below.refl _ w) _⟩

set_option maxRecDepth 100000 in
set_option maxHeartbeats 2000000 in
theorem bothJoin_any (ad bd : Option Addr) (cap dap : Nat) (zs ds : List Int) (w : World) (hI : IntsA w.heap.size w ad zs) (hD : IntsA w.heap.size w bd ds) (hl : zs.length ≤ 9223372036854775807) (hm : ds.length ≤ 9223372036854775807) :
    Calls Try.prog 53 #[.slice ad zs.length cap, .slice bd ds.length dap, .bool true] w (RetK (joinL zs ds) (pairE zs ds) w) := by
  have H1 := rCheck_any w.heap.size ad cap zs w hI hl
  have H2 := rCheck_any w.heap.size bd dap ds w hD hm
  by_cases h1 : vcE zs = 0
  · rw [h1] at H1
    by_cases h2 : vcE ds = 0
    · rw [h2] at H2
      by_cases h3 : zs.length = ds.length
      · have hp := pairE_of h1 h2 h3
        rw [hp, show joinL zs ds = fnL zs.length (fun i => max (gz zs i) (gz ds i)) by unfold joinL; rw [if_pos hp]]
        have h3' : ((zs.length : Int) != (ds.length : Int)) = false := by rw [h3]; simp
        obtain ⟨hl32, _⟩ := vcE_iff.1 h1
        obtain ⟨u, w1, hrun, ho, hb⟩ := appendCopyZ (cap := cap) hI (by omega)
        obtain ⟨oa, oc, rfl, _, _⟩ := ownZ_slice (show w1.ownsRow w.heap.size TZ 1 u zs.length (intV zs) from ho)
        have HR1 : Hid (RowV w.heap.size (.slice oa zs.length oc) zs.length (mixF max zs ds 0) w1) := Lib.hid (by rw [mixF_zero]; exact RowV.of ho)
        have HB1 := Lib.hid hb
        have HRUN := Lib.hid hrun
        have HI := Lib.hid hI
        have HD := Lib.hid hD
        have HLE := Lib.hid h3
        have H1 := Lib.hid H1
        have H2 := Lib.hid H2
        clear h1 h2 h3 hp hI hD ho hb hrun
        go_enter Try.func53, Try.ntmps53
        go_wp2_with fail
        refine H1.out.mono ?_
        rintro e w4 ⟨rfl, rfl⟩
        go_wp2_with fail
        refine H2.out.mono ?_
        rintro e w4 ⟨rfl, rfl⟩
        go_wp2_with (at_builtin; refine append_by_run _ rfl _ _ _ rfl _ _ rfl rfl _ _ HRUN.out ?_)
        go_loopw [9] (fun i wr => ∃ k : Nat, k ≤ zs.length ∧ i = .int .i64 k ∧ Hid (RowV w.heap.size (.slice oa zs.length oc) zs.length (mixF max zs ds k) wr) ∧ Hid (Below w.heap.size w wr)) (fun i _ => zs.length - (intOf i).toNat)
        case atStart => exact ⟨0, Nat.zero_le _, rfl, HR1, HB1⟩
        case round =>
          obtain ⟨k, hk, rfl, HR, HB⟩ := hrel
          by_cases hlt : k < zs.length
          · have k1 : (k : Int) < (zs.length : Int) := by omega
            have k2 : (k : Int) < (ds.length : Int) := by have := HLE.out; omega
            have k3 : (0 : Int) ≤ (k : Int) := by omega
            obtain ⟨b1, o1, rfl, hb1, q1⟩ := HI.out k hlt
            obtain ⟨b2, o2, rfl, hb2, q2⟩ := HD.out k (by have := HLE.out; omega)
            have q1 : wr.cell? ⟨b1, o1 + k, none⟩ = some (.int .i64 (gz zs k)) := (HB.out.cell (p := ⟨b1, o1 + k, none⟩) hb1).trans q1
            have q2 : wr.cell? ⟨b2, o2 + k, none⟩ = some (.int .i64 (gz ds k)) := (HB.out.cell (p := ⟨b2, o2 + k, none⟩) hb2).trans q2
            obtain ⟨g, c, e, hg⟩ := ownZ_some (show wr.ownsRow w.heap.size TZ 1 (.slice oa zs.length oc) zs.length (intV (fnL zs.length (mixF max zs ds k))) from HR.out) (by omega)
            injection e with e1 e2 e3
            subst e1
            have q3 := HR.out.cell hlt
            have q4 : wr.frozen? ⟨g, k, none⟩ = false := World.ownsRow.frozenAt HR.out k
            have hmh := mixF_here max zs ds k
            have hms := mixF_same max zs ds k
            obtain ⟨x, hx⟩ : ∃ x, gz zs k = x := ⟨_, rfl⟩
            obtain ⟨y, hy⟩ : ∃ y, gz ds k = y := ⟨_, rfl⟩
            rw [hx] at q1 hmh hms
            rw [hy] at q2 hmh hms
            have HMH := Lib.hid hmh
            have HMS := Lib.hid hms
            clear hx hy e2 e3 hmh hms
            by_cases hxy : x < y
            · have hdd : decide (x < y) = true := decide_eq_true hxy
              have HS : Hid (∀ q : Nat, RowV w.heap.size (.slice (some ⟨g, 0, none⟩) zs.length oc) zs.length (mixF max zs ds (k + 1)) ((wr.drewN q).setCell ⟨g, k, none⟩ (.int .i64 y))) := Lib.hid (fun q => HR.out.drewN.store k _ (by rw [HMH.out]; omega) (fun i hi => mixF_else _ _ _ _ _ hi))
              have HBS : Hid (∀ q : Nat, Below w.heap.size w ((wr.drewN q).setCell ⟨g, k, none⟩ (.int .i64 y))) := Lib.hid (fun q => (below_drewN HB.out q).setCell (p := ⟨g, k, none⟩) hg _)
              go_wp2
              go_quiet (fail)
              go_wp2
              go_roundw
              case rel => exact ⟨k + 1, by omega, by go_num, Lib.hid (HS.out _), Lib.hid (HBS.out _)⟩
              case measure => simp [intOf]; omega
            · have hdd : decide (x < y) = false := decide_eq_false hxy
              have HSK := Lib.hid (HMS.out (by omega))
              go_wp2
              go_quiet (fail)
              go_wp2
              go_roundw
              case rel => exact ⟨k + 1, by omega, by go_num, by rw [HSK.out]; exact Lib.hid HR.out.drewN, Lib.hid (below_drewN HB.out _)⟩
              case measure => simp [intOf]; omega
          · obtain rfl : k = zs.length := by omega
            have HK : Hid (KlC wr (.slice oa zs.length oc) (fnL zs.length (fun i => max (gz zs i) (gz ds i)))) := Lib.hid (by rw [← fnL_mix max]; exact HR.out.known)
            have k2 : ¬ ((zs.length : Int) < (ds.length : Int)) := by have := HLE.out; omega
            go_wp2
            go_ret2
            exact ⟨_, rfl, HK.out, HB.out⟩
      · have h3' : ((zs.length : Int) != (ds.length : Int)) = true := by rw [bne_iff_ne]; omega
        have hp : pairE zs ds = 10 := by unfold pairE; rw [if_neg (by simp [h1, h2]), if_pos h3]
        rw [hp, show joinL zs ds = [] by unfold joinL; rw [hp]; rfl]
        have H1 := Lib.hid H1
        have H2 := Lib.hid H2
        clear h1 h2 h3 hp hI hD
        go_enter Try.func53, Try.ntmps53
        go_wp2_with fail
        refine H1.out.mono ?_
        rintro e w4 ⟨rfl, rfl⟩
        go_wp2_with fail
        refine H2.out.mono ?_
        rintro e w4 ⟨rfl, rfl⟩
        go_wp2
        go_ret2
        exact ⟨_, rfl, KlC.nil _ _ _, (Below.refl _ w).alloc (Nat.le_refl _) _⟩
    · have hp : pairE zs ds = 1 := by unfold pairE; rw [if_pos (.inr h2)]
      rw [hp, show joinL zs ds = [] by unfold joinL; rw [hp]; rfl]
      have hb : (vcE ds != 0) = true := by simpa using h2
      have H1 := Lib.hid H1
      have H2 := Lib.hid H2
      clear h1 h2 hp hI hD
      generalize vcE ds = x2 at *
      go_enter Try.func53, Try.ntmps53
      go_wp2_with fail
      refine H1.out.mono ?_
      rintro e w4 ⟨rfl, rfl⟩
      go_wp2_with fail
      refine H2.out.mono ?_
      rintro e w4 ⟨rfl, rfl⟩
      go_wp2
      go_ret2
      exact ⟨_, rfl, KlC.nil _ _ _, (Below.refl _ w).alloc (Nat.le_refl _) _⟩
  · have hp : pairE zs ds = 1 := by unfold pairE; rw [if_pos (.inl h1)]
    rw [hp, show joinL zs ds = [] by unfold joinL; rw [hp]; rfl]
    have hb : (vcE zs != 0) = true := by simpa using h1
    have H1 := Lib.hid H1
    clear h1 H2 hp hI hD
    generalize vcE zs = x1 at *
    go_enter Try.func53, Try.ntmps53
    go_wp2_with fail
    refine H1.out.mono ?_
    rintro e w4 ⟨rfl, rfl⟩
    go_wp2
    go_ret2
    exact ⟨_, rfl, KlC.nil _ _ _, (Below.refl _ w).alloc (Nat.le_refl _) _⟩

/-- Join. -/
theorem rJoin_any (ad bd : Option Addr) (cap dap : Nat) (zs ds : List Int) (w : World) (hI : IntsA w.heap.size w ad zs) (hD : IntsA w.heap.size w bd ds) (hl : zs.length ≤ 9223372036854775807) (hm : ds.length ≤ 9223372036854775807) :
    Calls Try.prog 26 #[.slice ad zs.length cap, .slice bd ds.length dap] w (RetK (joinL zs ds) (pairE zs ds) w) := by
  have HC := Lib.hid (bothJoin_any ad bd cap dap zs ds w hI hD hl hm)
  clear hI hD
  go_enter Try.func26, Try.ntmps26
  go_wp2_with fail
  refine HC.out.mono ?_
  rintro e w4 ⟨v, rfl, hk, hb⟩
  have HK := Lib.hid hk
  clear hk
  go_wp2
  go_ret2
  exact ⟨_, rfl, HK.out, hb⟩

set_option maxRecDepth 100000 in
set_option maxHeartbeats 2000000 in
theorem bothMeet_any (ad bd : Option Addr) (cap dap : Nat) (zs ds : List Int) (w : World) (hI : IntsA w.heap.size w ad zs) (hD : IntsA w.heap.size w bd ds) (hl : zs.length ≤ 9223372036854775807) (hm : ds.length ≤ 9223372036854775807) :
    Calls Try.prog 53 #[.slice ad zs.length cap, .slice bd ds.length dap, .bool false] w (RetK (meetL zs ds) (pairE zs ds) w) := by
  have H1 := rCheck_any w.heap.size ad cap zs w hI hl
  have H2 := rCheck_any w.heap.size bd dap ds w hD hm
  by_cases h1 : vcE zs = 0
  · rw [h1] at H1
    by_cases h2 : vcE ds = 0
    · rw [h2] at H2
      by_cases h3 : zs.length = ds.length
      · have hp := pairE_of h1 h2 h3
        rw [hp, show meetL zs ds = fnL zs.length (fun i => min (gz zs i) (gz ds i)) by unfold meetL; rw [if_pos hp]]
        have h3' : ((zs.length : Int) != (ds.length : Int)) = false := by rw [h3]; simp
        obtain ⟨hl32, _⟩ := vcE_iff.1 h1
        obtain ⟨u, w1, hrun, ho, hb⟩ := appendCopyZ (cap := cap) hI (by omega)
        obtain ⟨oa, oc, rfl, _, _⟩ := ownZ_slice (show w1.ownsRow w.heap.size TZ 1 u zs.length (intV zs) from ho)
        have HR1 : Hid (RowV w.heap.size (.slice oa zs.length oc) zs.length (mixF min zs ds 0) w1) := Lib.hid (by rw [mixF_zero]; exact RowV.of ho)
        have HB1 := Lib.hid hb
        have HRUN := Lib.hid hrun
        have HI := Lib.hid hI
        have HD := Lib.hid hD
        have HLE := Lib.hid h3
        have H1 := Lib.hid H1
        have H2 := Lib.hid H2
        clear h1 h2 h3 hp hI hD ho hb hrun
        go_enter Try.func53, Try.ntmps53
        go_wp2_with fail
        refine H1.out.mono ?_
        rintro e w4 ⟨rfl, rfl⟩
        go_wp2_with fail
        refine H2.out.mono ?_
        rintro e w4 ⟨rfl, rfl⟩
        go_wp2_with (at_builtin; refine append_by_run _ rfl _ _ _ rfl _ _ rfl rfl _ _ HRUN.out ?_)
        go_loopw [9] (fun i wr => ∃ k : Nat, k ≤ zs.length ∧ i = .int .i64 k ∧ Hid (RowV w.heap.size (.slice oa zs.length oc) zs.length (mixF min zs ds k) wr) ∧ Hid (Below w.heap.size w wr)) (fun i _ => zs.length - (intOf i).toNat)
        case atStart => exact ⟨0, Nat.zero_le _, rfl, HR1, HB1⟩
        case round =>
          obtain ⟨k, hk, rfl, HR, HB⟩ := hrel
          by_cases hlt : k < zs.length
          · have k1 : (k : Int) < (zs.length : Int) := by omega
            have k2 : (k : Int) < (ds.length : Int) := by have := HLE.out; omega
            have k3 : (0 : Int) ≤ (k : Int) := by omega
            obtain ⟨b1, o1, rfl, hb1, q1⟩ := HI.out k hlt
            obtain ⟨b2, o2, rfl, hb2, q2⟩ := HD.out k (by have := HLE.out; omega)
            have q1 : wr.cell? ⟨b1, o1 + k, none⟩ = some (.int .i64 (gz zs k)) := (HB.out.cell (p := ⟨b1, o1 + k, none⟩) hb1).trans q1
            have q2 : wr.cell? ⟨b2, o2 + k, none⟩ = some (.int .i64 (gz ds k)) := (HB.out.cell (p := ⟨b2, o2 + k, none⟩) hb2).trans q2
            obtain ⟨g, c, e, hg⟩ := ownZ_some (show wr.ownsRow w.heap.size TZ 1 (.slice oa zs.length oc) zs.length (intV (fnL zs.length (mixF min zs ds k))) from HR.out) (by omega)
            injection e with e1 e2 e3
            subst e1
            have q3 := HR.out.cell hlt
            have q4 : wr.frozen? ⟨g, k, none⟩ = false := World.ownsRow.frozenAt HR.out k
            have hmh := mixF_here min zs ds k
            have hms := mixF_same min zs ds k
            obtain ⟨x, hx⟩ : ∃ x, gz zs k = x := ⟨_, rfl⟩
            obtain ⟨y, hy⟩ : ∃ y, gz ds k = y := ⟨_, rfl⟩
            rw [hx] at q1 hmh hms
            rw [hy] at q2 hmh hms
            have HMH := Lib.hid hmh
            have HMS := Lib.hid hms
            clear hx hy e2 e3 hmh hms
            by_cases hxy : x < y
            · have hdd : decide (x < y) = true := decide_eq_true hxy
              have HSK := Lib.hid (HMS.out (by omega))
              go_wp2
              go_quiet (fail)
              go_wp2
              go_roundw
              case rel => exact ⟨k + 1, by omega, by go_num, by rw [HSK.out]; exact Lib.hid HR.out.drewN, Lib.hid (below_drewN HB.out _)⟩
              case measure => simp [intOf]; omega
            · have hdd : decide (x < y) = false := decide_eq_false hxy
              have HS : Hid (∀ q : Nat, RowV w.heap.size (.slice (some ⟨g, 0, none⟩) zs.length oc) zs.length (mixF min zs ds (k + 1)) ((wr.drewN q).setCell ⟨g, k, none⟩ (.int .i64 y))) := Lib.hid (fun q => HR.out.drewN.store k _ (by rw [HMH.out]; omega) (fun i hi => mixF_else _ _ _ _ _ hi))
              have HBS : Hid (∀ q : Nat, Below w.heap.size w ((wr.drewN q).setCell ⟨g, k, none⟩ (.int .i64 y))) := Lib.hid (fun q => (below_drewN HB.out q).setCell (p := ⟨g, k, none⟩) hg _)
              go_wp2
              go_quiet (fail)
              go_wp2
              go_roundw
              case rel => exact ⟨k + 1, by omega, by go_num, Lib.hid (HS.out _), Lib.hid (HBS.out _)⟩
              case measure => simp [intOf]; omega
          · obtain rfl : k = zs.length := by omega
            have HK : Hid (KlC wr (.slice oa zs.length oc) (fnL zs.length (fun i => min (gz zs i) (gz ds i)))) := Lib.hid (by rw [← fnL_mix min]; exact HR.out.known)
            have k2 : ¬ ((zs.length : Int) < (ds.length : Int)) := by have := HLE.out; omega
            go_wp2
            go_ret2
            exact ⟨_, rfl, HK.out, HB.out⟩
      · have h3' : ((zs.length : Int) != (ds.length : Int)) = true := by rw [bne_iff_ne]; omega
        have hp : pairE zs ds = 10 := by unfold pairE; rw [if_neg (by simp [h1, h2]), if_pos h3]
        rw [hp, show meetL zs ds = [] by unfold meetL; rw [hp]; rfl]
        have H1 := Lib.hid H1
        have H2 := Lib.hid H2
        clear h1 h2 h3 hp hI hD
        go_enter Try.func53, Try.ntmps53
        go_wp2_with fail
        refine H1.out.mono ?_
        rintro e w4 ⟨rfl, rfl⟩
        go_wp2_with fail
        refine H2.out.mono ?_
        rintro e w4 ⟨rfl, rfl⟩
        go_wp2
        go_ret2
        exact ⟨_, rfl, KlC.nil _ _ _, (Below.refl _ w).alloc (Nat.le_refl _) _⟩
    · have hp : pairE zs ds = 1 := by unfold pairE; rw [if_pos (.inr h2)]
      rw [hp, show meetL zs ds = [] by unfold meetL; rw [hp]; rfl]
      have hb : (vcE ds != 0) = true := by simpa using h2
      have H1 := Lib.hid H1
      have H2 := Lib.hid H2
      clear h1 h2 hp hI hD
      generalize vcE ds = x2 at *
      go_enter Try.func53, Try.ntmps53
      go_wp2_with fail
      refine H1.out.mono ?_
      rintro e w4 ⟨rfl, rfl⟩
      go_wp2_with fail
      refine H2.out.mono ?_
      rintro e w4 ⟨rfl, rfl⟩
      go_wp2
      go_ret2
      exact ⟨_, rfl, KlC.nil _ _ _, (Below.refl _ w).alloc (Nat.le_refl _) _⟩
  · have hp : pairE zs ds = 1 := by unfold pairE; rw [if_pos (.inl h1)]
    rw [hp, show meetL zs ds = [] by unfold meetL; rw [hp]; rfl]
    have hb : (vcE zs != 0) = true := by simpa using h1
    have H1 := Lib.hid H1
    clear h1 H2 hp hI hD
    generalize vcE zs = x1 at *
    go_enter Try.func53, Try.ntmps53
    go_wp2_with fail
    refine H1.out.mono ?_
    rintro e w4 ⟨rfl, rfl⟩
    go_wp2
    go_ret2
    exact ⟨_, rfl, KlC.nil _ _ _, (Below.refl _ w).alloc (Nat.le_refl _) _⟩

/-- Meet. -/
theorem rMeet_any (ad bd : Option Addr) (cap dap : Nat) (zs ds : List Int) (w : World) (hI : IntsA w.heap.size w ad zs) (hD : IntsA w.heap.size w bd ds) (hl : zs.length ≤ 9223372036854775807) (hm : ds.length ≤ 9223372036854775807) :
    Calls Try.prog 28 #[.slice ad zs.length cap, .slice bd ds.length dap] w (RetK (meetL zs ds) (pairE zs ds) w) := by
  have HC := Lib.hid (bothMeet_any ad bd cap dap zs ds w hI hD hl hm)
  clear hI hD
  go_enter Try.func28, Try.ntmps28
  go_wp2_with fail
  refine HC.out.mono ?_
  rintro e w4 ⟨v, rfl, hk, hb⟩
  have HK := Lib.hid hk
  clear hk
  go_wp2
  go_ret2
  exact ⟨_, rfl, HK.out, hb⟩

end Go.Proofs.Ytpkmdonejmbnoaa
