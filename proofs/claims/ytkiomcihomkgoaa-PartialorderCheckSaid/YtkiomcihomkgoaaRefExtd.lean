/-
  What the reference's Extends of partialorder returns.
-/
import Derived.Test.YtkiomcihomkgoaaRefChk
import Derived.Test.YtkiomcihomkgoaaPoExtends
namespace Go.Proofs.Ytkiomcihomkgoaa
open Go.RowKit

/-- Where an element stands, or -1. -/
def plc (p : List Nat) (j : Nat) : Int := if j ∈ p then posI p j else -1
theorem posI_in {p : List Nat} {j : Nat} (h : j ∈ p) : ∃ k : Nat, posI p j = (k : Int) ∧ ∃ hk : k < p.length, p[k] = j := by
  obtain ⟨a, s, rfl, ha⟩ := split_at h
  exact ⟨a.length, pos_split ha, by simp, by simp⟩
theorem plc_neg {p : List Nat} {j : Nat} : 0 ≤ plc p j ↔ j ∈ p := by
  unfold plc
  by_cases h : j ∈ p
  · rw [if_pos h]
    obtain ⟨k, hk, _⟩ := posI_in h
    rw [hk]
    exact ⟨fun _ => h, fun _ => by omega⟩
  · rw [if_neg h]
    exact ⟨fun h => by omega, fun hh => absurd hh h⟩
theorem plc_low (p : List Nat) (j : Nat) : -1 ≤ plc p j ∧ plc p j ≤ p.length := by
  unfold plc
  by_cases h : j ∈ p
  · rw [if_pos h]
    obtain ⟨k, hk, hl, _⟩ := posI_in h
    omega
  · rw [if_neg h]
    omega
theorem plc_new {p : List Nat} {u : Nat} (h : u ∉ p) : plc (p ++ [u]) u = (p.length : Int) := by
  unfold plc
  rw [if_pos (by simp)]
  exact pos_split h
theorem plc_old {p : List Nat} {u j : Nat} (hj : j ≠ u) : plc (p ++ [u]) j = plc p j := by
  unfold plc
  by_cases h : j ∈ p
  · rw [if_pos h, if_pos (by simp [h])]
    obtain ⟨a, s, rfl, ha⟩ := split_at h
    rw [pos_split ha, show (a ++ j :: s) ++ [u] = a ++ j :: (s ++ [u]) by simp, pos_split ha]
  · rw [if_neg h, if_neg (by simp [h, hj])]
theorem plc_nil (j : Nat) : plc [] j = -1 := by unfold plc; rw [if_neg (by simp)]
/-- A list of all elements in which no pair stands the wrong way round is an extension. -/
theorem ord_of {N : Nat} {f : Nat → Nat → Bool} {p : List Nat} (hL : Low2 N f) (hnd : p.Nodup) (hlt : ∀ x, x ∈ p → x < N) (hl : p.length = N) (h : ∀ u v, f u v = true → ¬ plc p v < plc p u) : OrdAll N f p := by
  have hall : ∀ a, a < N → a ∈ p := by
    intro a ha
    by_cases hm : a ∈ p
    · exact hm
    · have h1 : (p ++ [a]).Nodup := by
        rw [List.nodup_append]
        refine ⟨hnd, by simp, fun u hu v hv => ?_⟩
        simp at hv
        rintro rfl
        exact hm (hv ▸ hu)
      have := nodup_length_le N _ h1 (fun u hu => by
        rcases List.mem_append.1 hu with hu | hu
        · exact hlt u hu
        · simp at hu; omega)
      rw [List.length_append] at this
      simp at this
      omega
  intro k
  refine ⟨hnd.sublist (List.take_sublist _ _), fun x hx => hlt x (List.mem_of_mem_take hx), fun a b hab hb => ?_⟩
  have hbp := List.mem_of_mem_take hb
  have hap := hall a (hL a b hab).1
  have hno := h a b hab
  unfold plc at hno
  rw [if_pos hap, if_pos hbp] at hno
  obtain ⟨i, hi, hil, hia⟩ := posI_in hap
  obtain ⟨j, hj, hjl, hjb⟩ := posI_in hbp
  obtain ⟨t, ht, htb⟩ := List.getElem_of_mem hb
  rw [List.length_take] at ht
  rw [List.getElem_take] at htb
  have htj : t = j := by
    have hpw := List.pairwise_iff_getElem.1 hnd
    rcases Nat.lt_trichotomy t j with h | h | h
    · exact absurd (htb.trans hjb.symm) (hpw t j (by omega) hjl h)
    · exact h
    · exact absurd (hjb.trans htb.symm) (hpw j t hjl (by omega) h)
  have hik : i < k := by omega
  rw [← hia]
  exact List.mem_take_iff_getElem.2 ⟨i, by omega, rfl⟩
theorem exB_len {n : Int} {es : List (Int × Int)} {os : List Int} (hp : poE n es = 0) (h : (os.length : Int) ≠ n) : exB n es os = false := by
  cases e : exB n es os with
  | false => rfl
  | true =>
    obtain ⟨N, rfl, _, _, hok, _⟩ := po_ok hp
    unfold exB at e
    rw [decide_eq_true hp, Bool.true_and, List.any_eq_true, Int.toNat_natCast] at e
    obtain ⟨x, hx, hd⟩ := e
    simp at hd
    obtain ⟨_, h2⟩ := (ext_iff (gN_low hok) (po_irr hp)).1 hx
    exact absurd (by rw [← hd, intsOf_length, h2]) h
theorem exB_wrong {n : Int} {es : List (Int × Int)} {os : List Int} {p : List Nat} {u v : Nat} (hp : poE n es = 0) (ho : intsOf p = os) (huv : (u, v) ∈ gN es) (h : plc p v < plc p u) : exB n es os = false := by
  cases e : exB n es os with
  | false => rfl
  | true =>
    obtain ⟨N, rfl, _, _, hok, _⟩ := po_ok hp
    unfold exB at e
    rw [decide_eq_true hp, Bool.true_and, List.any_eq_true, Int.toNat_natCast] at e
    obtain ⟨x, hx, hd⟩ := e
    simp at hd
    obtain ⟨h1, h2⟩ := (ext_iff (gN_low hok) (po_irr hp)).1 hx
    have hxp : x = p := intsOf_inj (hd.trans ho.symm)
    subst hxp
    have hlt := gN_lt hok _ huv
    have hv := all_in h1 h2 hlt.2
    have hu := all_in h1 h2 hlt.1
    have := pos_lt h1 (po_irr hp) (relG_iff.2 huv) hv
    unfold plc at h
    rw [if_pos hv, if_pos hu] at h
    omega

set_option maxRecDepth 100000 in
set_option maxHeartbeats 8000000 in
theorem refExtends_any (n : Int) (ad : Option Addr) (cap : Nat) (es : List (Int × Int)) (ao : Option Addr) (co : Nat) (os : List Int) (w : World) (hE : EdgesA w.heap.size w ad es) (hl : es.length ≤ 9223372036854775807) (hO : IntsA w.heap.size w ao os) (hlo : os.length ≤ 9223372036854775807) :
    Calls Try.prog 18 #[.int .i64 n, .slice ad es.length cap, .slice ao os.length co] w fun e w' => e = .returned (.bool (exB n es os)) ∧ Below w.heap.size w w' := by
  have HCK := refCheck_any n ad cap es w hE hl
  by_cases hp : poE n es = 0
  · obtain ⟨N, hnN, hN, hk, hok, _⟩ := po_ok hp
    rw [hp] at HCK
    subst hnN
    by_cases hlen : os.length = N
    · have hL := gN_low hok
      have HNO : Hid (∀ (p : List Nat) (k : Nat), k < os.length → intsOf p = os.take k → (∀ u : Nat, os[k]?.getD 0 = (u : Int) → u < N → u ∉ p → False) → exB (N : Int) es os = false) := Lib.hid (fun p k h1 h2 h3 => exB_no hp rfl h1 h2 (fun u e h hf => h3 u e h (free_spec hL hf).1))
      have HWR : Hid (∀ (p : List Nat) (k u v : Nat), intsOf p = os → (gN es)[k]? = some (u, v) → plc p v < plc p u → exB (N : Int) es os = false) := Lib.hid (fun p k u v h1 h2 h3 => exB_wrong hp h1 (List.mem_of_getElem? h2) h3)
      have HYES : Hid (∀ p : List Nat, intsOf p = os → p.Nodup → (∀ x, x ∈ p → x < N) → (∀ k u v, (gN es)[k]? = some (u, v) → ¬ plc p v < plc p u) → exB (N : Int) es os = true) := Lib.hid (fun p h1 h2 h3 h4 => by
        have hpl : p.length = N := by rw [← intsOf_length, h1, hlen]
        have ho : OrdAll N (relG (gN es)) p := ord_of hL h2 h3 hpl (fun u v huv => by
          obtain ⟨k, hk1, hk2⟩ := List.getElem_of_mem (relG_iff.1 huv)
          exact h4 k u v (by rw [List.getElem?_eq_getElem hk1, hk2]))
        rw [exB_end hp h1 (by rw [Int.toNat_natCast]; exact ho), decide_eq_true (by omega)])
      have n0 : ((os.length : Int) != (N : Int)) = false := by rw [hlen]; simp
      obtain ⟨i1, ki, kz0, kz1, kz2⟩ := info_parts infoI
      have HCK := Lib.hid HCK
      have HE := Lib.hid hE
      have HO := Lib.hid hO
      have HOK := Lib.hid hok
      have HLEN := Lib.hid hlen
      generalize exB (N : Int) es os = Z at *
      clear hE hO hok hp hL hlen
      go_enter Try.func18, Try.ntmps18
      go_wp2_with fail
      refine HCK.out.mono ?_
      rintro e w1 ⟨rfl, b1⟩
      have HB1 := Lib.hid b1
      clear b1 HCK
      go_wp2_with (at_make; refine wpList_make_full _ rfl (.tmp 21) (.tmp 21) 23 rfl w1.heap.size TI i1 (.int .i64 0) 1 Try.underlying23 ki kz0 kz1 .i64 .i64 _ _ N rfl rfl rfl rfl (by rw [kz2]; omega) (by unfold maxLen; omega) (Nat.le_refl _) ?_)
      intro w2 ho2 hg2
      rw [numsV_zero] at ho2
      have HU2 : Hid (NumAt w1.heap.size w1.heap.size N N (fun j => if j < 0 then -1 else 0) w2) := Lib.hid (by simpa [NumAt] using ho2)
      have HB2 : Hid (Below w1.heap.size w1 w2) := Lib.hid ((Below.refl _ w1).grown hg2 (Nat.le_refl _) (fun j hj => by cases hj))
      obtain ⟨U, hUU⟩ : ∃ U, w1.heap.size = U := ⟨_, rfl⟩
      rw [hUU] at HU2 HB2 ⊢
      clear ho2 hg2
      go_wp2_with fail
      go_loopw [8] (fun x wr => ∃ i : Nat, i ≤ N ∧ x = .int .i64 i ∧ Hid (NumAt U U N N (fun j => if j < i then -1 else 0) wr) ∧ Hid (Below U w1 wr)) (fun x _ => N - (intOf x).toNat)
      case atStart => exact ⟨0, Nat.zero_le _, rfl, HU2, HB2⟩
      case round =>
        obtain ⟨i, hi, rfl, HU, HB⟩ := hrel
        by_cases hit : i < N
        · have i1 : (i : Int) < (N : Int) := by omega
          have c1 := HU.out.cell hit
          have c2 := HU.out.free i
          have HU' : Hid (NumAt U U N N (fun j => if j < i + 1 then -1 else 0) (wr.setCell ⟨U, i, none⟩ (.int .i64 (-1)))) := Lib.hid (HU.out.store (h' := fun j => if j < i + 1 then -1 else 0) (by rw [if_pos (by omega)]) (fun j hj => by
            by_cases h : j < i
            · rw [if_pos h, if_pos (by omega)]
            · rw [if_neg h, if_neg (by omega)]))
          have HB' : Hid (Below U w1 (wr.setCell ⟨U, i, none⟩ (.int .i64 (-1)))) := Lib.hid (HB.out.setCell (p := ⟨U, i, none⟩) (Nat.le_refl _) _)
          go_wp2
          go_roundw
          case rel => exact ⟨i + 1, by omega, by go_num, HU', HB'⟩
          case measure => simp [intOf]; omega
        · obtain rfl : N = i := by omega
          have HU0 : Hid (NumAt U U N N (plc []) wr) := Lib.hid (HU.out.ext (fun j hj => by rw [if_pos hj, plc_nil]))
          go_wp2_with fail
          go_loopw [9] (fun x wr => ∃ (k : Nat) (p : List Nat), k ≤ N ∧ x = .int .i64 k ∧ Hid (intsOf p = os.take k ∧ p.Nodup ∧ (∀ a, a ∈ p → a < N)) ∧ Hid (NumAt U U N N (plc p) wr) ∧ Hid (Below U w1 wr)) (fun x _ => N - (intOf x).toNat)
          case atStart => exact ⟨0, [], Nat.zero_le _, rfl, Lib.hid ⟨rfl, List.nodup_nil, fun a h => by cases h⟩, HU0, HB⟩
          case round =>
            obtain ⟨k, p, hk', rfl, HX, HU, HB⟩ := hrel
            by_cases hkt : k < N
            · have k1 : (k : Int) < (N : Int) := by omega
              have hko : k < os.length := by rw [HLEN.out]; exact hkt
              have k2 : (k : Int) < (os.length : Int) := by omega
              have hbb : Below w.heap.size w wr := HB1.out.trans (by rw [← hUU] at HB; exact HB.out.mono HB1.out.size)
              obtain ⟨b, off, rfl, hb, hc⟩ := HO.out k hko
              have p1 := (hbb.cell (p := ⟨b, off + k, none⟩) hb).trans hc
              have hno := HNO.out p k hko HX.out.1
              have hsn : os.take (k + 1) = os.take k ++ [os[k]?.getD 0] := by
                rw [List.take_succ_eq_append_getElem hko]
                simp [hko]
              have hpl : p.length = k := by
                have h := congrArg List.length HX.out.1
                rw [intsOf_length, List.length_take] at h
                omega
              generalize os[k]?.getD 0 = y at *
              have hbw : Hid (Below w.heap.size w wr) := Lib.hid hbb
              clear hc hbb
              by_cases h0 : y < 0
              · obtain rfl : Z = false := hno (fun u e _ _ => by omega)
                clear hno hsn
                go_wp2
                go_ret
                exact ⟨rfl, hbw.out⟩
              · by_cases h1 : (N : Int) ≤ y
                · obtain rfl : Z = false := hno (fun u e h _ => by omega)
                  clear hno hsn
                  go_wp2
                  go_ret
                  exact ⟨rfl, hbw.out⟩
                · obtain ⟨u, rfl⟩ : ∃ u : Nat, y = (u : Int) := ⟨y.toNat, by omega⟩
                  have hu : u < N := by omega
                  have u1 : (u : Int) < (N : Int) := by omega
                  have c1 := HU.out.cell hu
                  have c2 := HU.out.free u
                  by_cases hup : u ∈ p
                  · have q1 : 0 ≤ plc p u := plc_neg.2 hup
                    obtain rfl : Z = false := hno (fun u' e _ h => by
                      obtain rfl : u = u' := by omega
                      exact h hup)
                    generalize plc p u = l at *
                    clear hno hsn hup
                    go_wp2
                    go_ret
                    exact ⟨rfl, hbw.out⟩
                  · have q1 : ¬ 0 ≤ plc p u := fun h => hup (plc_neg.1 h)
                    have HU' : Hid (NumAt U U N N (plc (p ++ [u])) (wr.setCell ⟨U, u, none⟩ (.int .i64 (k : Int)))) := Lib.hid (HU.out.store (by rw [plc_new hup, hpl]) (fun j hj => plc_old hj))
                    have HX' : Hid (intsOf (p ++ [u]) = os.take (k + 1) ∧ (p ++ [u]).Nodup ∧ (∀ a, a ∈ p ++ [u] → a < N)) := Lib.hid (by
                      refine ⟨by rw [intsOf_append, HX.out.1, hsn]; rfl, ?_, fun a ha => ?_⟩
                      · rw [List.nodup_append]
                        refine ⟨HX.out.2.1, by simp, fun a ha b hb => ?_⟩
                        simp at hb
                        rintro rfl
                        exact hup (hb ▸ ha)
                      · rcases List.mem_append.1 ha with ha | ha
                        · exact HX.out.2.2 a ha
                        · simp at ha; omega)
                    have HB' : Hid (Below U w1 (wr.setCell ⟨U, u, none⟩ (.int .i64 (k : Int)))) := Lib.hid (HB.out.setCell (p := ⟨U, u, none⟩) (Nat.le_refl _) _)
                    generalize plc p u = l at *
                    clear hno hsn hup hpl hbw
                    go_wp2
                    go_roundw
                    case rel => exact ⟨k + 1, p ++ [u], by omega, by go_num, HX', HU', HB'⟩
                    case measure => simp [intOf]; omega
            · obtain rfl : N = k := by omega
              have HP : Hid (intsOf p = os) := Lib.hid (by rw [HX.out.1, ← HLEN.out, List.take_length])
              go_wp2_with fail
              go_loopw [10] (fun x wr => ∃ k : Nat, k ≤ es.length ∧ x = .int .i64 k ∧ Hid (∀ j u v, j < k → (gN es)[j]? = some (u, v) → ¬ plc p v < plc p u) ∧ Hid (NumAt U U N N (plc p) wr) ∧ Hid (Below U w1 wr)) (fun x _ => es.length - (intOf x).toNat)
              case atStart => exact ⟨0, Nat.zero_le _, rfl, Lib.hid (fun j u v h => by omega), HU, HB⟩
              case round =>
                obtain ⟨k, hk', rfl, HA, HU, HB⟩ := hrel
                have hbw : Hid (Below w.heap.size w wr) := Lib.hid (HB1.out.trans (by rw [← hUU] at HB; exact HB.out.mono HB1.out.size))
                by_cases hkt : k < es.length
                · have k1 : (k : Int) < (es.length : Int) := by omega
                  obtain ⟨b, off, rfl, hb, hc⟩ := HE.out.some_ (by omega)
                  obtain ⟨c1, c2⟩ := hc k hkt
                  obtain ⟨u, v, hev, huN, hvN, hge⟩ := HOK.out.at_ hkt
                  rw [hev] at c1 c2
                  have p1 : wr.drew.cell? ⟨b, off + k * 2, none⟩ = _ := (hbw.out.cell (p := ⟨b, off + k * 2, none⟩) hb).trans c1
                  have p2 : wr.drew.cell? ⟨b, off + k * 2 + 1, none⟩ = _ := (hbw.out.cell (p := ⟨b, off + k * 2 + 1, none⟩) hb).trans c2
                  simp only [] at p1 p2
                  have d1 : wr.drew.cell? ⟨U, u, none⟩ = _ := HU.out.cell huN
                  have d2 : wr.drew.cell? ⟨U, v, none⟩ = _ := HU.out.cell hvN
                  have u1 : (u : Int) < (N : Int) := by omega
                  have v1 : (v : Int) < (N : Int) := by omega
                  have hwr := HWR.out p k u v HP.out hge
                  have HA' : Hid (¬ plc p v < plc p u → ∀ j u v, j < k + 1 → (gN es)[j]? = some (u, v) → ¬ plc p v < plc p u) := Lib.hid (fun hn j u' v' hj hg => by
                    by_cases e : j = k
                    · subst e
                      rw [hge] at hg
                      cases hg
                      exact hn
                    · exact HA.out j u' v' (by omega) hg)
                  clear hc hev hge c1 c2
                  by_cases hlt : plc p v < plc p u
                  · obtain rfl : Z = false := hwr hlt
                    clear hwr HA'
                    generalize plc p v = lv at *
                    generalize plc p u = lu at *
                    go_wp2_with fail
                    go_region
                    go_wp2
                    go_ret
                    exact ⟨rfl, hbw.out.drew⟩
                  · have HA2 := Lib.hid (HA'.out hlt)
                    clear hwr HA'
                    have HU' := Lib.hid HU.out
                    obtain ⟨lv, hlv⟩ : ∃ x, plc p v = x := ⟨_, rfl⟩
                    obtain ⟨lu, hlu⟩ : ∃ x, plc p u = x := ⟨_, rfl⟩
                    rw [hlv, hlu] at hlt
                    rw [hlv] at d2
                    rw [hlu] at d1
                    clear hlv hlu
                    go_wp2_with fail
                    go_region
                    go_wp2
                    go_roundw
                    case rel => exact ⟨k + 1, by omega, by go_num, Lib.hid (fun j u v h1 h2 => Int.not_lt.2 (HA2.out j u v h1 h2)), Lib.hid (own_drew HU'.out), Lib.hid HB.out.drew⟩
                    case measure => simp [intOf]; omega
                · obtain rfl : es.length = k := by omega
                  obtain rfl : Z = true := HYES.out p HP.out HX.out.2.1 HX.out.2.2 (fun j u v hg => Int.not_lt.1 <| HA.out j u v (by have := (List.getElem?_eq_some_iff.1 hg).1; rw [gN_length] at this; exact this) hg)
                  go_wp2
                  go_ret
                  exact ⟨rfl, hbw.out⟩
    · have hz := exB_len hp (by omega : (os.length : Int) ≠ (N : Int))
      have n0 : ((os.length : Int) != (N : Int)) = true := by simp; omega
      rw [hz]
      have HCK := Lib.hid HCK
      clear hE hO hz hlen
      go_enter Try.func18, Try.ntmps18
      go_wp2_with fail
      refine HCK.out.mono ?_
      rintro e w1 ⟨rfl, b1⟩
      go_wp2
      go_ret
      exact ⟨rfl, b1⟩
  · have hz : exB n es os = false := by unfold exB; rw [decide_eq_false hp]; rfl
    have hpb : (poE n es != 0) = true := by simp [hp]
    rw [hz]
    have HCK := Lib.hid HCK
    clear hE hO hz
    go_enter Try.func18, Try.ntmps18
    go_wp2_with fail
    refine HCK.out.mono ?_
    rintro e w1 ⟨rfl, b1⟩
    go_wp2
    go_ret
    exact ⟨rfl, b1⟩

end Go.Proofs.Ytkiomcihomkgoaa
