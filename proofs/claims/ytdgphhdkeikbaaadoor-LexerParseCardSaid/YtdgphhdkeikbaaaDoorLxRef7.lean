/-
  The reference's digits and operator.
-/
import Derived.Test.YtdgphhdkeikbaaaDoorLxRef2
import Derived.Test.YtdgphhdkeikbaaaDoorLxRef3
import Derived.Test.YtdgphhdkeikbaaaDoorLxRd3
import Derived.Test.YtdgphhdkeikbaaaDoorLxRdM
import Derived.Test.YtdgphhdkeikbaaaDoorExTiny
namespace Go.Proofs.YtdgphhdkeikbaaaDoor
set_option linter.unusedSimpArgs false
set_option linter.unusedVariables false
open Go.RowKit

/-- next: the token with an index, the zero token if there is none. -/
theorem ret_tk1 {fn : Func} {p : Tmp} (hf : fn.results = #[.cell p TTk]) (W : World) (g : Nat) (t : Tk) (av : Int) (tmps : Array Value) (hg : W.heap[g]? = some (.cells #[.int .i64 t.k, .string t.t, .int .i64 t.v, .int .i64 av] TTk (0, 0)))
    (hp : tmps.getD p undef = .pointer (some ⟨g, 0, none⟩)) : (results fn tmps).run Tryd.prog W = .ok (tkW t av) W :=
  results_cell_row hf tmps W g TTk _ (0, 0) _ hp hg Tryd.underlying37 rfl (by kernel_rfl)
theorem gk_none {ts : List Tk} {k : Nat} (h : ts.length ≤ k) : gk ts k = zTk := by unfold gk; rw [List.getElem?_eq_none h]; rfl
set_option maxRecDepth 100000 in
set_option maxHeartbeats 4000000 in
theorem rnext_any (a : Option Addr) (c : Nat) (ts : List Tk) (k : Nat) (w : World) (hk : TkA anyB w a ts) (hl : ts.length ≤ 9223372036854775807) :
    Calls Tryd.prog 54 #[.slice a ts.length c, .int .i64 (k : Int)] w fun x w' => (∃ av, x = .returned (tkW (gk ts k) av)) ∧ Below w.heap.size w w' := by
  obtain ⟨W, hW⟩ : ∃ W, w.alloc (.cells #[.int .i64 0, .string ⟨#[]⟩, .int .i64 0, .int .i64 0] TTk) = W := ⟨_, rfl⟩
  have hg : W.heap[w.heap.size]? = some (.cells #[.int .i64 0, .string ⟨#[]⟩, .int .i64 0, .int .i64 0] TTk (0, 0)) := by rw [← hW]; exact heapNew w _
  have hb : Below w.heap.size w W := by rw [← hW]; exact (Below.refl _ w).alloc (Nat.le_refl _) _
  have HW := Lib.hid hW
  have HG := Lib.hid hg
  have HB := Lib.hid hb
  by_cases hlt : k < ts.length
  · have k1 : (k : Int) < (ts.length : Int) := by omega
    obtain ⟨b, off, rfl, _, _, c0, c1, c2, av, c3⟩ := (hk.below hb) k hlt
    obtain ⟨⟨x0, x1, x2, x3⟩, hx⟩ : ∃ x, gk ts k = x := ⟨_, rfl⟩
    rw [hx] at c0 c1 c2 ⊢
    simp only [] at c0 c1 c2
    clear hW hg hb hk hx
    go_enter Tryd.func54, Tryd.ntmps54
    go_wp2_with (first | rw [HW.out] | refine wpList_store_row rfl TTk (.tmp 4) (.tmp 12) rfl w.heap.size #[.int .i64 x0, .string x1, .int .i64 x2, .int .i64 av] rfl rfl _ _ HG.out (by kernel_rfl) rfl (by simp [Value.oneCell']) ?_)
    try simp only [Exit.inBlock, Exit.then]
    exact bodyPost_ret (ret_tk1 Tryd.results54 _ w.heap.size ⟨x0, x1, x2, x3⟩ av _ (setRow_heap _ _ _ _ _ _ HG.out) rfl) rfl ⟨⟨av, rfl⟩, below_setRow HB.out (Nat.le_refl _) _⟩
  · have k1 : ¬ (k : Int) < (ts.length : Int) := by omega
    rw [gk_none (by omega)]
    clear hW hg hb hk
    go_enter Tryd.func54, Tryd.ntmps54
    go_wp2
    exact bodyPost_ret (ret_tk1 Tryd.results54 _ w.heap.size zTk 0 _ (heapNew w _) rfl) rfl ⟨⟨0, rfl⟩, (Below.refl _ w).alloc (Nat.le_refl _) _⟩

theorem dig_is {d : Nat} (h : d < 10) : isDg (UInt8.ofNat (48 + d)) = true ∧ (UInt8.ofNat (48 + d)).toNat = 48 + d ∧ (UInt8.ofNat (48 + d) = 48 → d = 0) := by
  rcases (show d = 0 ∨ d = 1 ∨ d = 2 ∨ d = 3 ∨ d = 4 ∨ d = 5 ∨ d = 6 ∨ d = 7 ∨ d = 8 ∨ d = 9 by omega) with rfl | rfl | rfl | rfl | rfl | rfl | rfl | rfl | rfl | rfl <;> decide
theorem digs (u : Nat) : (∀ c ∈ Lib.decDigits u, isDg c = true) ∧ rdN (Lib.decDigits u) = u ∧ (∃ c r, Lib.decDigits u = c :: r ∧ (c = 48 → u = 0)) ∧ (u < 10 → (Lib.decDigits u).length = 1) := by
  induction u using Nat.strongRecOn with
  | ind u ih =>
  rw [Lib.decDigits]
  by_cases h : u < 10
  · rw [dif_pos h]
    obtain ⟨d1, d2, d3⟩ := dig_is h
    refine ⟨fun c hc => ?_, ?_, ⟨_, _, rfl, d3⟩, fun _ => rfl⟩
    · obtain rfl : c = UInt8.ofNat (48 + u) := by simpa using hc
      exact d1
    · simp only [rdN, List.foldl_cons, List.foldl_nil, d2]
      omega
  · rw [dif_neg h]
    obtain ⟨i1, i2, ⟨c, r, i3, i4⟩, _⟩ := ih (u / 10) (by omega)
    obtain ⟨d1, d2, d3⟩ := dig_is (show u % 10 < 10 by omega)
    refine ⟨fun c hc => ?_, ?_, ⟨c, r ++ [UInt8.ofNat (48 + u % 10)], by rw [i3]; rfl, fun e => by have := i4 e; omega⟩, fun hh => absurd hh h⟩
    · rcases List.mem_append.1 hc with hc | hc
      · exact i1 c hc
      · obtain rfl : c = UInt8.ofNat (48 + u % 10) := by simpa using hc
        exact d1
    · unfold rdN at i2 ⊢
      rw [List.foldl_append, i2]
      simp only [List.foldl_cons, List.foldl_nil, d2]
      omega
theorem dcT_list {v : Int} (h : 0 ≤ v) : ∃ u : Nat, v = (u : Int) ∧ (dcT v).data.toList = Lib.decDigits u := by
  obtain ⟨u, rfl⟩ := Int.eq_ofNat_of_zero_le h
  refine ⟨u, rfl, ?_⟩
  unfold dcT
  rw [Lib.itoa_nonneg]

/-- Canonical digits are those of their number. -/
theorem canon (n : Nat) : ∀ L : LBy, L.length = n → L ≠ [] → (∀ c ∈ L, isDg c = true) → (L.length = 1 ∨ L.head? ≠ some 48) → Lib.decDigits (rdN L) = L := by
  induction n using Nat.strongRecOn with
  | ind n ih =>
  intro L hn h0 hd hc
  rcases List.eq_nil_or_concat L with rfl | ⟨x, c, rfl⟩
  · exact absurd rfl h0
  · have hcd := dg_toNat (hd c (by simp))
    have hu8 : UInt8.ofNat (48 + (c.toNat - 48)) = c := by
      rw [show 48 + (c.toNat - 48) = c.toNat by omega]
      exact UInt8.ofNat_toNat
    simp only [List.concat_eq_append] at *
    rw [rdN_snoc]
    by_cases hx : x = []
    · subst hx
      have e0 : rdN ([] : LBy) = 0 := rfl
      rw [e0, Nat.zero_mul, Nat.zero_add, Lib.decDigits, dif_pos (by omega), hu8]
      rfl
    · obtain ⟨d, y, rfl⟩ : ∃ d y, x = d :: y := by
        cases x with
        | nil => exact absurd rfl hx
        | cons d y => exact ⟨d, y, rfl⟩
      have hne : d ≠ 48 := by
        rcases hc with hc | hc
        · simp at hc
        · simpa using hc
      have hdd := dg_toNat (hd d (by simp))
      have hd48 : 1 ≤ d.toNat - 48 := by
        have : d.toNat ≠ 48 := fun e => hne (UInt8.toNat_inj.1 (by rw [e]; rfl))
        omega
      have h1 : 1 ≤ rdN (d :: y) := by
        have := rdN_le_app [d] y
        have e1 : rdN [d] = d.toNat - 48 := by simp [rdN]
        rw [e1] at this
        exact Nat.le_trans hd48 this
      have hi := ih (d :: y).length (by rw [← hn]; simp) (d :: y) rfl (by simp) (fun a ha => hd a (by simp at ha ⊢; rcases ha with rfl | ha <;> simp [*])) (.inr (by simpa using hne))
      rw [Lib.decDigits, dif_neg (by omega), show (rdN (d :: y) * 10 + (c.toNat - 48)) / 10 = rdN (d :: y) by omega, show (rdN (d :: y) * 10 + (c.toNat - 48)) % 10 = c.toNat - 48 by omega, hi, hu8]
/-- What digits reports. -/
def dgB (t : ByteArray) (v : Int) : Bool := decide (t = dcT v ∧ 0 ≤ v ∧ v ≤ 1099511627776)
/-- The saturating number. -/
def nmS : Nat → LBy → Nat
  | acc, [] => acc
  | acc, c :: r => if acc ≤ 1099511627776 then nmS (acc * 10 + (c.toNat - 48)) r else acc
theorem nmS_spec (l : LBy) : ∀ acc, nmS acc l = rdA acc l ∨ (1099511627776 < nmS acc l ∧ 1099511627776 < rdA acc l) := by
  induction l with
  | nil => intro acc; exact .inl rfl
  | cons c r ih =>
    intro acc
    unfold nmS
    by_cases h : acc ≤ 1099511627776
    · rw [if_pos h]; exact ih _
    · rw [if_neg h]
      exact .inr ⟨by omega, Nat.lt_of_lt_of_le (by omega) (rdA_le (c :: r) acc)⟩
theorem dgB_iff {t : ByteArray} {v : Int} (hd : ∀ c ∈ t.data.toList, isDg c = true) (h0 : 1 ≤ t.size) (hz : t.size = 1 ∨ t.data.toList.head? ≠ some 48) (hv : 0 ≤ v) (hv2 : v ≤ 1099511627776) : dgB t v = ((nmS 0 t.data.toList : Int) == v) := by
  obtain ⟨u, rfl⟩ := Int.eq_ofNat_of_zero_le hv
  have hs := nmS_spec t.data.toList 0
  have e0 : rdA 0 t.data.toList = rdN t.data.toList := rfl
  rw [e0] at hs
  have hl := list_len t
  have hc := canon _ t.data.toList rfl (fun e => by rw [e] at hl; simp at hl; omega) hd (by rw [hl]; exact hz)
  unfold dgB
  rw [Bool.eq_iff_iff]
  simp only [decide_eq_true_eq, beq_iff_eq]
  constructor
  · rintro ⟨h, _, _⟩
    have h1 : rdN t.data.toList = u := by
      rw [h]
      unfold dcT
      rw [Lib.itoa_nonneg]
      exact (digs u).2.1
    rcases hs with hs | ⟨hs1, hs2⟩ <;> omega
  · intro h
    refine ⟨?_, hv, hv2⟩
    have h1 : rdN t.data.toList = u := by rcases hs with hs | ⟨hs1, hs2⟩ <;> omega
    rw [h1] at hc
    apply bytes_inj
    unfold dcT
    rw [ByteArray.toList_eq, ByteArray.toList_eq, Lib.itoa_nonneg]
    exact hc.symm
theorem dgB_yes {t : ByteArray} {v : Int} (h : dgB t v = true) : (∀ c ∈ t.data.toList, isDg c = true) ∧ 1 ≤ t.size ∧ (t.size = 1 ∨ t.data.toList.head? ≠ some 48) ∧ 0 ≤ v ∧ v ≤ 1099511627776 := by
  unfold dgB at h
  obtain ⟨h, hv, hv2⟩ := of_decide_eq_true h
  obtain ⟨u, rfl, hu⟩ := dcT_list hv
  obtain ⟨d1, d2, ⟨c, r, e, d3⟩, d4⟩ := digs u
  have hl : t.data.toList = Lib.decDigits u := by rw [h, hu]
  have hz := list_len t
  refine ⟨by rw [hl]; exact d1, by rw [← hz, hl, e]; simp, ?_, hv, hv2⟩
  by_cases h9 : u < 10
  · left; rw [← hz, hl]; exact d4 h9
  · right
    rw [hl, e]
    intro hh
    have hc48 : c = 48 := by simpa using hh
    have := d3 hc48
    omega
set_option maxRecDepth 100000 in
set_option maxHeartbeats 4000000 in
theorem rnumberS_any (s : ByteArray) (w : World) (hs : s.size ≤ 9223372036854775807) (hd : ∀ j (h : j < s.size), isDg (s[j]'h) = true) :
    Calls Tryd.prog 83 #[.string s] w fun e w' => e = .returned (.int .i64 (nmS 0 s.data.toList : Nat)) ∧ w' = w := by
  have HD := Lib.hid hd
  clear hd
  go_enter Tryd.func83, Tryd.ntmps83
  go_wp2
  go_loopw [3, 4] (fun s3 s4 wr => ∃ j n : Nat, s3 = .int .i64 (n : Int) ∧ s4 = .int .i64 (j : Int) ∧ j ≤ s.size ∧ n ≤ 10995116277769 ∧ Hid (nmS 0 s.data.toList = nmS n (s.data.toList.drop j)) ∧ wr = w) (fun _ s4 _ => s.size - (intOf s4).toNat)
  case atStart => exact ⟨0, 0, rfl, rfl, Nat.zero_le _, Nat.zero_le _, Lib.hid rfl, rfl⟩
  case round =>
    obtain ⟨j, n, rfl, rfl, hj, hn, HN, rfl⟩ := hrel
    by_cases hlt : j < s.size
    · have k1 : (j : Int) < (s.size : Int) := by omega
      have HX := Lib.hid (drop_at (at_list s j hlt))
      by_cases hle : n ≤ 1099511627776
      · have k2 : (n : Int) ≤ 1099511627776 := by omega
        obtain ⟨d1, d2⟩ := dg_bounds (HD.out j hlt)
        obtain ⟨c, hc⟩ : ∃ c, s[j]'hlt = c := ⟨_, rfl⟩
        have hcn : (s[j]'hlt).toNat = c.toNat := by rw [hc]
        rw [hc] at d1 d2 HX
        have HN2 : Hid (nmS 0 s.data.toList = nmS (n * 10 + (c.toNat - 48)) (s.data.toList.drop (j + 1))) := Lib.hid (by rw [HN.out, HX.out, nmS, if_pos hle])
        have e1 : IntKind.u8.wrap (((s[j]'hlt).toNat : Int) - 48) = ((s[j]'hlt).toNat : Int) - 48 := by
          rw [hcn]
          obtain ⟨z, hz⟩ : ∃ z : Nat, (c.toNat : Int) - 48 = (z : Int) := ⟨c.toNat - 48, by omega⟩
          rw [hz]
          have : z < 256 := by omega
          simp [IntKind.wrap, IntKind.bits, IntKind.signed]
          omega
        have e2 : (0 : Int) ≤ ((s[j]'hlt).toNat : Int) - 48 := by rw [hcn]; omega
        have e3 : ((s[j]'hlt).toNat : Int) - 48 ≤ 9 := by rw [hcn]; omega
        have HC := Lib.hid hcn
        clear hc hcn HX
        go_wp2
        go_roundw
        case rel => exact ⟨j + 1, n * 10 + (c.toNat - 48), by rw [HC.out]; go_num, by go_num, by omega, by omega, HN2, by first | rfl | trivial⟩
        case measure => simp [intOf]; omega
      · have k2 : ¬ (n : Int) ≤ 1099511627776 := by omega
        have HR : Hid (nmS 0 s.data.toList = n) := Lib.hid (by rw [HN.out, HX.out, nmS, if_neg hle])
        go_wp2
        go_ret
        exact ⟨by rw [HR.out]; rfl, rfl⟩
    · obtain rfl : j = s.size := by omega
      have HR : Hid (nmS 0 s.data.toList = n) := Lib.hid (by rw [HN.out, List.drop_of_length_le (by rw [list_len]; exact Nat.le_refl _)]; rfl)
      go_wp2
      go_ret
      exact ⟨by rw [HR.out]; rfl, rfl⟩

/-! ### digits -/
set_option maxRecDepth 100000 in
set_option maxHeartbeats 16000000 in
theorem rdigits_any (t : Tk) (av : Int) (w : World) (hs : t.t.size ≤ 9223372036854775807) : Calls Tryd.prog 74 #[tkW t av] w fun e w' => e = .returned (.bool (dgB t.t t.v)) ∧ Below w.heap.size w w' := by
  obtain ⟨k, s, v, a⟩ := t
  simp only [tkW] at hs ⊢
  obtain ⟨W, hW⟩ : ∃ W, w.alloc (.cells #[.int .i64 k, .string s, .int .i64 v, .int .i64 av] TTk) = W := ⟨_, rfl⟩
  have hg : W.heap[w.heap.size]? = some (.cells #[.int .i64 k, .string s, .int .i64 v, .int .i64 av] TTk (0, 0)) := by rw [← hW]; exact heapNew w _
  have hb : Below w.heap.size w W := by rw [← hW]; exact (Below.refl _ w).alloc (Nat.le_refl _) _
  have c1 : W.cell? ⟨w.heap.size, 1, none⟩ = some (.string s) := by rw [Lib.cell_of_heap hg]; rfl
  have c2 : W.cell? ⟨w.heap.size, 2, none⟩ = some (.int .i64 v) := by rw [Lib.cell_of_heap hg]; rfl
  have HW := Lib.hid hW
  have HB := Lib.hid hb
  have HD := Lib.hid (fun c => rdigit_any c W)
  have HBAD : Hid (∀ j (h : j < s.size), isDg (s[j]'h) = false → dgB s v = false) := Lib.hid (fun j h hc => by
    cases hh : dgB s v with
    | false => rfl
    | true =>
      have := (dgB_yes hh).1 _ (List.mem_of_getElem? (at_list s j h))
      rw [hc] at this; cases this)
  have HNO : Hid (∀ (P : Prop), ¬ P → (dgB s v = true → P) → dgB s v = false) := Lib.hid (fun P h1 h2 => by
    cases hh : dgB s v with
    | false => rfl
    | true => exact absurd (h2 hh) h1)
  have hl := list_len s
  clear hW hg hb
  go_enter Tryd.func74, Tryd.ntmps74
  go_wp2_with (rw [HW.out])
  try rw [HW.out]
  go_loopw [3] (fun x wr => ∃ j : Nat, j ≤ s.size ∧ x = .int .i64 j ∧ Hid (∀ i (hi : i < s.size), i < j → isDg (s[i]'hi) = true) ∧ wr = W) (fun x _ => s.size - (intOf x).toNat)
  case atStart => exact ⟨0, Nat.zero_le _, rfl, Lib.hid (fun i _ h => by omega), rfl⟩
  case round =>
    obtain ⟨j, hj, rfl, HJ, rfl⟩ := hrel
    by_cases hlt : j < s.size
    · have k1 : (j : Int) < (s.size : Int) := by omega
      have hC := HD.out (s[j]'hlt)
      cases hc : isDg (s[j]'hlt) with
      | true =>
        rw [hc] at hC
        have HC := Lib.hid hC
        have HJ2 : Hid (∀ i (hi : i < s.size), i < j + 1 → isDg (s[i]'hi) = true) := Lib.hid (fun i hi h => by
          rcases Nat.lt_succ_iff_lt_or_eq.1 h with h | rfl
          · exact HJ.out i hi h
          · exact hc)
        clear hC hc
        go_wp2_with fail
        refine HC.out.mono ?_
        rintro e w' ⟨rfl, hw⟩
        subst hw
        go_wp2
        go_roundw
        case rel => exact ⟨j + 1, by omega, by go_num, HJ2, by first | rfl | trivial⟩
        case measure => simp [intOf]; omega
      | false =>
        rw [hc] at hC
        have HC := Lib.hid hC
        have HR := Lib.hid (HBAD.out j hlt hc)
        clear hC hc
        go_wp2_with fail
        refine HC.out.mono ?_
        rintro e w' ⟨rfl, hw⟩
        subst hw
        go_wp2
        go_ret
        exact ⟨by rw [HR.out]; rfl, HB.out⟩
    · obtain rfl : j = s.size := by omega
      have k1 : ¬ (s.size : Int) < (s.size : Int) := by omega
      have hall : ∀ c ∈ s.data.toList, isDg c = true := fun c hc => by
        obtain ⟨i, hi, e⟩ := List.mem_iff_getElem.1 hc
        rw [list_len] at hi
        have h2 := at_list s i hi
        rw [List.getElem?_eq_getElem (by rw [list_len]; exact hi), e] at h2
        rw [Option.some.inj h2]
        exact HJ.out i hi hi
      have HN := Lib.hid (fun W => rnumberS_any s W hs (fun j hj => HJ.out j hj hj))
      have HALL := Lib.hid hall
      clear hall
      by_cases h0 : 0 < s.size
      · have m1 : (0 : Int) < (s.size : Int) := by omega
        have m1b : decide ((0 : Int) < (s.size : Int)) = true := by simpa using m1
        have m1c : decide (0 < s.size) = true := by simpa using h0
        have hh0 : s.data.toList.head? = some (s[0]'h0) := by rw [List.head?_eq_getElem?]; exact at_list s 0 h0
        by_cases hone : s.size = 1
        · have o1 : ((s.size : Int) == 1) = true := by simp [hone]
          have hz : s.size = 1 ∨ s.data.toList.head? ≠ some 48 := .inl hone
          have m0 : (0 : Int) < (s.size : Int) := by omega
          by_cases v0 : 0 ≤ v
          · have v0b : decide ((0 : Int) ≤ v) = true := by simpa using v0
            by_cases v1 : v ≤ 1099511627776
            · have v1b : decide (v ≤ 1099511627776) = true := by simpa using v1
              have HR := Lib.hid (dgB_iff HALL.out h0 hz v0 v1)
              clear hh0 hone hz HNO HBAD HALL
              go_wp2
              go_quiet (first | (go_at_call 83; exact Calls.quiet_of_same (HN.out _)))
              go_wp2
              go_ret
              exact ⟨by rw [HR.out]; rfl, HB.out.os, HB.out.tape, HB.out.output, HB.out.size, HB.out.block⟩
            · have v1b : decide (v ≤ 1099511627776) = false := by simpa using v1
              have HR := Lib.hid (HNO.out (v ≤ 1099511627776) v1 (fun h => (dgB_yes h).2.2.2.2))
              clear hh0 hone hz HNO HBAD HALL
              go_wp2
              go_quiet (first | (go_at_call 83; exact Calls.quiet_of_same (HN.out _)))
              go_wp2
              go_ret
              exact ⟨by rw [HR.out]; rfl, HB.out.os, HB.out.tape, HB.out.output, HB.out.size, HB.out.block⟩
          · have v0b : decide ((0 : Int) ≤ v) = false := by simpa using v0
            have HR := Lib.hid (HNO.out (0 ≤ v) v0 (fun h => (dgB_yes h).2.2.2.1))
            clear hh0 hone hz HNO HBAD HALL
            go_wp2
            go_quiet (first | (go_at_call 83; exact Calls.quiet_of_same (HN.out _)))
            go_wp2
            go_ret
            exact ⟨by rw [HR.out]; rfl, HB.out.os, HB.out.tape, HB.out.output, HB.out.size, HB.out.block⟩
        · have o1 : ((s.size : Int) == 1) = false := by rw [beq_eq_false_iff_ne]; omega
          have j48 := chr_is2 (s[0]'h0) 48
          change ((s[0]'h0).toNat == (48 : Int)) = _ at j48
          by_cases h48 : s[0]'h0 = 48
          · have j49 : (((s[0]'h0).toNat : Int) != 48) = false := by rw [bne, j48, h48]; rfl
            have j48b : (((s[0]'h0).toNat : Int) == 48) = true := by rw [j48, h48]; rfl
            have HR := Lib.hid (HNO.out (s.size = 1 ∨ s.data.toList.head? ≠ some 48) (by rintro (h | h); exact hone h; exact h (by rw [hh0, h48])) (fun h => (dgB_yes h).2.2.1))
            clear hh0 hone h48 j48 HNO HBAD HALL
            go_wp2
            go_quiet (first | (go_at_call 83; exact Calls.quiet_of_same (HN.out _)))
            go_wp2
            go_ret
            exact ⟨by rw [HR.out]; rfl, HB.out.os, HB.out.tape, HB.out.output, HB.out.size, HB.out.block⟩
          · have j49 : (((s[0]'h0).toNat : Int) != 48) = true := by rw [bne, j48]; simpa using h48
            have j48b : (((s[0]'h0).toNat : Int) == 48) = false := by rw [j48]; simpa using h48
            have hz : s.size = 1 ∨ s.data.toList.head? ≠ some 48 := .inr (by rw [hh0]; simpa using h48)
            clear j48 h48
            by_cases v0 : 0 ≤ v
            · have v0b : decide ((0 : Int) ≤ v) = true := by simpa using v0
              by_cases v1 : v ≤ 1099511627776
              · have v1b : decide (v ≤ 1099511627776) = true := by simpa using v1
                have HR := Lib.hid (dgB_iff HALL.out h0 hz v0 v1)
                clear hh0 hone hz HNO HBAD HALL
                go_wp2
                go_quiet (first | (go_at_call 83; exact Calls.quiet_of_same (HN.out _)))
                go_wp2
                go_ret
                exact ⟨by rw [HR.out]; rfl, HB.out.os, HB.out.tape, HB.out.output, HB.out.size, HB.out.block⟩
              · have v1b : decide (v ≤ 1099511627776) = false := by simpa using v1
                have HR := Lib.hid (HNO.out (v ≤ 1099511627776) v1 (fun h => (dgB_yes h).2.2.2.2))
                clear hh0 hone hz HNO HBAD HALL
                go_wp2
                go_quiet (first | (go_at_call 83; exact Calls.quiet_of_same (HN.out _)))
                go_wp2
                go_ret
                exact ⟨by rw [HR.out]; rfl, HB.out.os, HB.out.tape, HB.out.output, HB.out.size, HB.out.block⟩
            · have v0b : decide ((0 : Int) ≤ v) = false := by simpa using v0
              have HR := Lib.hid (HNO.out (0 ≤ v) v0 (fun h => (dgB_yes h).2.2.2.1))
              clear hh0 hone hz HNO HBAD HALL
              go_wp2
              go_quiet (first | (go_at_call 83; exact Calls.quiet_of_same (HN.out _)))
              go_wp2
              go_ret
              exact ⟨by rw [HR.out]; rfl, HB.out.os, HB.out.tape, HB.out.output, HB.out.size, HB.out.block⟩
      · have m1 : ¬ (0 : Int) < (s.size : Int) := by omega
        have m1b : decide ((0 : Int) < (s.size : Int)) = false := by simpa using m1
        have m1c : decide (0 < s.size) = false := by simpa using h0
        have HR := Lib.hid (HNO.out (1 ≤ s.size) (by omega) (fun h => (dgB_yes h).2.1))
        clear h0 HNO HBAD HALL
        go_wp2
        go_quiet (first | (go_at_call 83; exact Calls.quiet_of_same (HN.out _)))
        go_wp2
        go_ret
        exact ⟨by rw [HR.out]; rfl, HB.out.os, HB.out.tape, HB.out.output, HB.out.size, HB.out.block⟩

/-! ### operator -/
def opL : List Int := [3, 4, 5, 6, 7, 8, 9, 10, 11, 12, 13, 14, 15]
def prN (t : Tk) : Int := if opN t = 0 then 0 else pcP (opN t)
def opSt : List Value := opL.map fun o => .string (sgO o)
def opPr : List Value := opL.map fun o => .int .i64 (pcP o)
theorem op_at (i : Nat) (h : i < 13) : opL.drop i = (3 + i : Int) :: opL.drop (i + 1) ∧ opSt[i]? = some (.string (sgO (3 + i))) ∧ opPr[i]? = some (.int .i64 (pcP (3 + i))) := by
  rcases (show i = 0 ∨ i = 1 ∨ i = 2 ∨ i = 3 ∨ i = 4 ∨ i = 5 ∨ i = 6 ∨ i = 7 ∨ i = 8 ∨ i = 9 ∨ i = 10 ∨ i = 11 ∨ i = 12 by omega) with rfl | rfl | rfl | rfl | rfl | rfl | rfl | rfl | rfl | rfl | rfl | rfl | rfl <;> exact ⟨rfl, rfl, rfl⟩
def fdO (l : List Int) (x : ByteArray) : Int := (l.find? fun o => decide (sgO o = x)).getD 0
theorem fdO_yes {o : Int} {l : List Int} {x : ByteArray} (h : sgO o = x) : fdO (o :: l) x = o := by
  unfold fdO; rw [List.find?_cons]; simp [h]
theorem fdO_no {o : Int} {l : List Int} {x : ByteArray} (h : sgO o ≠ x) : fdO (o :: l) x = fdO l x := by
  unfold fdO; rw [List.find?_cons]; simp [h]
set_option maxRecDepth 100000 in
set_option maxHeartbeats 8000000 in
theorem roperator_any (t : Tk) (av : Int) (w : World) : Calls Tryd.prog 53 #[tkW t av] w fun e w' => e = .returned (.tuple #[.int .i64 (opN t), .int .i64 (prN t)]) ∧ Below w.heap.size w w' := by
  obtain ⟨k, s, v, a⟩ := t
  simp only [tkW]
  obtain ⟨W0, hW0⟩ : ∃ W, w.alloc (.cells #[.int .i64 k, .string s, .int .i64 v, .int .i64 av] TTk) = W := ⟨_, rfl⟩
  have hb0 : Below w.heap.size w W0 := by rw [← hW0]; exact (Below.refl _ w).alloc (Nat.le_refl _) _
  by_cases h3 : k = 3
  · obtain ⟨q1, q2⟩ := ieq h3
    have HO : Hid (opN ⟨k, s, v, a⟩ = opS s) := Lib.hid (if_pos h3)
    obtain ⟨t0, t1, t2, hB⟩ := threeBlocks w (.cells #[.int .i64 k, .string s, .int .i64 v, .int .i64 av] TTk (0, 0)) (.cells opSt.toArray 9 (0, 0)) (.cells opPr.toArray 3 (0, 0))
    have H0 := Lib.hid t0
    have H1 := Lib.hid t1
    have H2 := Lib.hid t2
    have HB := Lib.hid hB
    clear h3 hW0 hb0 t0 t1 t2 hB
    go_enter Tryd.func53, Tryd.ntmps53
    go_wp2
    go_loopw [6] (fun s6 wr => ∃ i : Nat, s6 = .int .i64 (i : Int) ∧ i ≤ 13 ∧ Hid (opS s = fdO (opL.drop i) s) ∧ Hid (wr.heap[w.heap.size]? = some (.cells #[.int .i64 k, .string s, .int .i64 v, .int .i64 av] TTk (0, 0))) ∧ Hid (wr.heap[w.heap.size + 1]? = some (.cells opSt.toArray 9 (0, 0))) ∧ Hid (wr.heap[w.heap.size + 1 + 1]? = some (.cells opPr.toArray 3 (0, 0))) ∧ Hid (Below w.heap.size w wr)) (fun s6 _ => 13 - (intOf s6).toNat)
    case atStart => exact ⟨0, rfl, Nat.zero_le _, Lib.hid rfl, H0, H1, H2, HB⟩
    case round =>
      obtain ⟨i, rfl, hi, HI, G0, G1, G2, HBR⟩ := hrel
      by_cases hlt : i < 13
      · have k1 : (i : Int) < 13 := by omega
        obtain ⟨o1, o2, o3⟩ := op_at i hlt
        have c0 : wr.cell? ⟨w.heap.size, 1, none⟩ = some (.string s) := by rw [Lib.cell_of_heap G0.out]; rfl
        have c1 : wr.cell? ⟨w.heap.size + 1, i, none⟩ = some (.string (sgO (3 + i))) := by rw [Lib.cell_of_heap G1.out]; simpa using o2
        have c2 : wr.cell? ⟨w.heap.size + 1 + 1, i, none⟩ = some (.int .i64 (pcP (3 + i))) := by rw [Lib.cell_of_heap G2.out]; simpa using o3
        have hI := HI.out
        rw [o1] at hI
        obtain ⟨b, hbq⟩ : ∃ b, sgO (3 + i) = b := ⟨_, rfl⟩
        obtain ⟨pr, hpr⟩ : ∃ b, pcP (3 + i) = b := ⟨_, rfl⟩
        rw [hbq] at c1
        rw [hpr] at c2
        by_cases he : b = s
        · obtain ⟨r1, r2, r3⟩ := str_yes he
          have hopn : opN ⟨k, s, v, a⟩ = 3 + (i : Int) := by rw [HO.out, hI, fdO_yes (hbq.trans he)]
          have HR : Hid (opN ⟨k, s, v, a⟩ = 3 + (i : Int) ∧ prN ⟨k, s, v, a⟩ = pr) := Lib.hid ⟨hopn, by unfold prN; rw [hopn, if_neg (by omega), hpr]⟩
          clear hI o1 o2 o3 hbq hpr he hopn HI
          go_wp2
          go_quiet (fail)
          go_wp2
          go_quiet (fail)
          go_wp2
          go_ret2
          exact ⟨by rw [HR.out.1, HR.out.2]; rfl, HBR.out.os, HBR.out.tape, HBR.out.output, HBR.out.size, HBR.out.block⟩
        · obtain ⟨r1, r2, r3⟩ := str_no he
          have HI2 : Hid (opS s = fdO (opL.drop (i + 1)) s) := Lib.hid (by rw [hI, fdO_no (by rw [hbq]; exact he)])
          clear hI o1 o2 o3 hbq hpr he HI
          go_wp2
          go_quiet (fail)
          go_wp2
          go_roundw
          case rel => exact ⟨i + 1, by go_num, by omega, HI2, G0, G1, G2, Lib.hid ⟨HBR.out.os, HBR.out.tape, HBR.out.output, HBR.out.size, HBR.out.block⟩⟩
          case measure => simp [intOf]; omega
      · obtain rfl : i = 13 := by omega
        have hopn : opN ⟨k, s, v, a⟩ = 0 := by rw [HO.out, HI.out]; rfl
        have HR : Hid (opN ⟨k, s, v, a⟩ = 0 ∧ prN ⟨k, s, v, a⟩ = 0) := Lib.hid ⟨hopn, by unfold prN; rw [if_pos hopn]⟩
        clear hopn
        go_wp2
        go_ret2
        exact ⟨by rw [HR.out.1, HR.out.2]; rfl, HBR.out⟩
  · obtain ⟨q1, q2⟩ := ine h3
    have hopn : opN ⟨k, s, v, a⟩ = 0 := if_neg h3
    have HR : Hid (opN ⟨k, s, v, a⟩ = 0 ∧ prN ⟨k, s, v, a⟩ = 0) := Lib.hid ⟨hopn, by unfold prN; rw [if_pos hopn]⟩
    have HB0 := Lib.hid hb0
    have HW0 := Lib.hid hW0
    clear h3 hopn hW0 hb0
    go_enter Tryd.func53, Tryd.ntmps53
    go_wp2
    go_ret2
    exact ⟨by rw [HR.out.1, HR.out.2]; rfl, by rw [HW0.out]; exact HB0.out⟩
end Go.Proofs.YtdgphhdkeikbaaaDoor
