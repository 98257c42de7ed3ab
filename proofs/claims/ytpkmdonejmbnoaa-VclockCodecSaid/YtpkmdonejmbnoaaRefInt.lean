/-
  What the reference's magnitude and Int return.
-/
import Derived.Test.YtpkmdonejmbnoaaEnc
namespace Go.Proofs.Ytpkmdonejmbnoaa
open Go.RowKit

/-- A slice value that owns its row from its head on, and holds the bytes l. -/
def Row8 (B : Nat) (l : List UInt8) (v : Value) (w : World) : Prop := ∃ g cap, v = .slice (some ⟨g, 0, none⟩) l.length cap ∧ w.ownsRow B T8 1 v l.length (Lib.byteCells l)

theorem ownsRow_new (w : World) (B : Nat) (hB : B ≤ w.heap.size) (cs : Array Value) (n : Nat) (hn : cs.size = n) (hm : n ≤ maxLen) : (w.alloc (.cells cs T8)).ownsRow B T8 1 (.slice (some ⟨w.heap.size, 0, none⟩) n n) n cs.toList :=
  ⟨by simp [hn], .inr ⟨w.heap.size, n, cs, rfl, hB, World.alloc_heap_new w _, Nat.le_refl _, hm, by omega, by rw [List.take_of_length_le (by simp; omega)]⟩⟩
theorem ownsRow_some {w : World} {B : Nat} {e : TypeId} {s : Nat} {v : Value} {n : Nat} {xs : List Value} (h : w.ownsRow B e s v n xs) (hv : v ≠ .slice none 0 0) : ∃ g cap, v = .slice (some ⟨g, 0, none⟩) n cap := by
  rcases h.2 with ⟨e, _⟩ | ⟨g, cap, cur, e, _⟩
  · exact absurd e hv
  · exact ⟨g, cap, e⟩
theorem Row8.mk {w : World} {B : Nat} {v : Value} {l : List UInt8} {n : Nat} {xs : List Value} (h : w.ownsRow B T8 1 v n xs) (hv : v ≠ .slice none 0 0) (hn : n = l.length) (hx : xs = Lib.byteCells l) : Row8 B l v w := by
  subst hn; subst hx
  obtain ⟨g, cap, e⟩ := ownsRow_some h hv
  exact ⟨g, cap, e, h⟩
theorem Row8.cell {w : World} {B : Nat} {v : Value} {l : List UInt8} (h : Row8 B l v w) : ∀ g cap, v = .slice (some ⟨g, 0, none⟩) l.length cap → ∀ j (hj : j < l.length), w.cell? ((⟨g, 0, none⟩ : Addr).add j) = some (.int .u8 (l[j].toNat : Int)) := by
  intro g cap e j hj
  obtain ⟨g', cap', e', h⟩ := h
  exact h.cells (g := g) (by rw [e]; rfl) j (.int .u8 (l[j].toNat : Int)) (by simp [Lib.byteCells, hj])
theorem byteCells_one' (l : List UInt8) : ∀ u ∈ Lib.byteCells l, u.oneCell' = true := by
  intro u hu
  simp only [Lib.byteCells, List.mem_map] at hu
  obtain ⟨b, _, rfl⟩ := hu
  rfl
theorem byte_mod (q : Nat) : ((UInt8.ofNat (q % 256)).toNat : Int) = (q : Int) % 256 := by
  rw [ofNat_toNat_lt (by omega)]; omega

set_option maxRecDepth 100000 in
set_option maxHeartbeats 2000000 in
theorem magnitude_any (m : Nat) (w : World) (hm : m ≤ 9223372036854775807) :
    Calls Try.prog 71 #[.int .i64 (m : Int)] w fun e w' => ∃ v, e = .returned v ∧ Row8 w.heap.size (mag m) v w' ∧ Below w.heap.size w w' := by
  obtain ⟨i0, hi, hz0, hz1, hz2⟩ := info_parts info8
  have h8 := mag8 (m := m) (by omega)
  go_enter Try.func71, Try.ntmps71
  go_wp2
  go_loopw [0, 3] (fun n v wr => ∃ (q : Nat) (L : List UInt8), q ≤ 9223372036854775807 ∧ n = .int .i64 (q : Int) ∧ mag q ++ L = mag m ∧ Row8 w.heap.size L v wr ∧ Below w.heap.size w wr) (fun n _ _ => (intOf n).toNat)
  case atStart =>
    refine ⟨m, [], hm, rfl, by simp, ?_, (Below.refl _ w).alloc (Nat.le_refl _) _⟩
    exact Row8.mk (ownsRow_new w _ (Nat.le_refl _) #[] 0 rfl (by decide)) (by simp) rfl rfl
  case round =>
    obtain ⟨q, L, hq, rfl, hL, ⟨g, cap, rfl, hown⟩, hb⟩ := hrel
    have hLl : (mag q).length + L.length = (mag m).length := by rw [← hL]; simp
    have HL := Lib.hid hL
    clear hL
    by_cases h0 : q = 0
    · subst h0
      go_wp2
      go_ret
      have e := HL.out
      rw [mag_zero, List.nil_append] at e
      rw [← e]
      exact ⟨_, rfl, ⟨g, cap, rfl, hown⟩, hb⟩
    · have hpos : 0 < q := by omega
      have hL2 : L.length ≤ 8 := by omega
      have HM := Lib.hid (mag_pos h0)
      have HB := Lib.hid (byte_mod q)
      clear h0
      have hsz := hb.size
      have hcl := hown.alloc (.cells #[.int .u8 ((q : Int) % 256)] T8)
      have hnews : ∀ j u, (Lib.byteCells L)[j]? = some u → (wr.alloc (.cells #[.int .u8 ((q : Int) % 256)] T8)).cell? ((⟨g, 0, none⟩ : Addr).add j) = some u := hcl.cells rfl
      have HW := Lib.hid hnews
      clear hnews
      go_wp2_with (at_builtin; refine wpList_append_own _ rfl _ _ 73 rfl w.heap.size T8 i0 (.int .u8 0) 1 1 Try.underlying73 hi hz0 hz1 hz2 rfl (by decide) _ 1 [.int .u8 ((q : Int) % 256)] rfl (ownsRow_new wr _ hsz #[.int .u8 ((q : Int) % 256)] 1 rfl (by decide)) ⟨g, 0, none⟩ L.length cap (Lib.byteCells L) rfl (by simp [Lib.byteCells]) HW.out (byteCells_one' L) ?c3 ?c4 ?c5 ?_)
      case c3 => unfold maxLen; omega
      case c4 => omega
      case c5 => simp; omega
      intro v' w2 hown' hgrow hnil
      have hv' : v' ≠ .slice none 0 0 := hnil
      obtain ⟨g', cap', rfl⟩ := ownsRow_some hown' hv'
      clear hnil
      go_wp2
      go_roundw
      case rel =>
        refine ⟨q / 256, UInt8.ofNat (q % 256) :: L, by omega, by simp, ?_, Row8.mk hown' hv' (by simp; omega) ?_, ((hb.alloc hsz _).grown hgrow (by simp; omega) (fun k hk => by cases hk; exact hsz))⟩
        · rw [← HL.out, HM.out]; simp
        · simp only [Lib.byteCells, List.map_cons]
          rw [HB.out]
      case measure => simp [intOf]; omega

theorem inv_all : ∀ c : Fin 256, (255 : Int) - (c.val : Int) = (((UInt8.ofNat c.val) ^^^ 255).toNat : Int) := by decide +kernel
theorem inv_byte (c : UInt8) : (255 : Int) - (c.toNat : Int) = ((c ^^^ 255).toNat : Int) := by
  have := inv_all ⟨c.toNat, byte_lt c⟩
  simpa using this
theorem head_all : ∀ k : Fin 9, (128 : Int) + (k.val : Int) = (((UInt8.ofNat (128 + k.val)) ^^^ 0).toNat : Int) ∧ (127 : Int) - (k.val : Int) = (((UInt8.ofNat (128 + k.val)) ^^^ 255).toNat : Int) := by decide +kernel
theorem map_xor_zero (l : List UInt8) : l.map (· ^^^ 0) = l := by
  conv => rhs; rw [← List.map_id l]
  apply List.map_congr_left
  intro x _
  exact UInt8.xor_zero

set_option maxRecDepth 100000 in
set_option maxHeartbeats 2000000 in
theorem refInt_any (n : Int) (w : World) :
    Calls Try.prog 65 #[.int .i64 n] w fun e w' => e = .returned (.tuple #[.string (strOf (intL n)), .int .i64 (intE n)]) ∧ Below w.heap.size w w' := by
  obtain ⟨i0, hi, hz0, hz1, hz2⟩ := info_parts info8
  by_cases hn : InR n
  · unfold intL intE
    rw [if_pos hn, if_pos hn]
    have hr := hn
    unfold InR at hr
    obtain ⟨r1, r2⟩ := hr
    have hml := magOf_le hn
    have h8 := mag8 (m := magOf n) (by omega)
    clear hn
    by_cases h0 : 0 ≤ n
    · have HE := Lib.hid (show encInt n = encM (magOf n) 0 by unfold encInt; rw [show invOf n = 0 from by unfold invOf; rw [if_neg (by omega)]])
      obtain ⟨m, rfl⟩ := Int.eq_ofNat_of_zero_le h0
      have hmn : magOf (m : Int) = m := by unfold magOf; rw [if_neg (by omega)]; omega
      rw [hmn] at HE h8 hml
      have hk := (head_all ⟨(mag m).length, by omega⟩).1
      have HK := Lib.hid hk
      clear hmn hk
      go_enter Try.func65, Try.ntmps65
      go_wp2_with fail
      refine (magnitude_any m _ (by omega)).mono ?_
      rintro e w1 ⟨v, rfl, ⟨g, cap, rfl, hown⟩, hb⟩
      have hsz := hb.size
      have hcl := hown.alloc (.cells #[.int .u8 (128 + ((mag m).length : Int))] T8)
      have HW := Lib.hid (hcl.cells (g := g) rfl)
      go_wp2_with (at_builtin; refine wpList_append_own _ rfl _ _ 73 rfl w.heap.size T8 i0 (.int .u8 0) 1 1 Try.underlying73 hi hz0 hz1 hz2 rfl (by decide) _ 1 [.int .u8 (128 + ((mag m).length : Int))] rfl (ownsRow_new w1 _ hsz #[.int .u8 (128 + ((mag m).length : Int))] 1 rfl (by decide)) ⟨g, 0, none⟩ (mag m).length cap (Lib.byteCells (mag m)) rfl (by simp [Lib.byteCells]) HW.out (byteCells_one' _) ?c3 ?c4 ?c5 ?_)
      case c3 => unfold maxLen; omega
      case c4 => omega
      case c5 => simp; omega
      intro v' w2 hown' hgrow hnil
      have hrow : Row8 w.heap.size (encM m 0) v' w2 := Row8.mk hown' hnil (by rw [encM_length]; omega) (by simp only [encM, Lib.byteCells, List.map_cons, map_xor_zero]; rw [← HK.out])
      obtain ⟨g', cap', rfl, hown2⟩ := hrow
      have hconv := run_convert_bytes_back (P := Try.prog) w2 73 9 T8 ⟨g', 0, none⟩ cap' (encM m 0) Try.underlying73 Try.underlying5 Try.underlying9 (Row8.cell ⟨g', cap', rfl, hown2⟩ g' cap' rfl)
      clear hnil hown'
      go_wp2
      go_ret2
      rw [HE.out]
      exact ⟨rfl, ((hb.alloc hsz _).grown hgrow (by simp; omega) (fun k hk => by cases hk; exact hsz))⟩
    · have HE := Lib.hid (show encInt n = encM (magOf n) 255 by unfold encInt; rw [show invOf n = 255 from by unfold invOf; rw [if_pos (by omega)]])
      obtain ⟨m, rfl⟩ : ∃ m : Nat, n = -(m : Int) - 1 := ⟨(-n - 1).toNat, by omega⟩
      have hmn : magOf (-(m : Int) - 1) = m := by unfold magOf; rw [if_pos (by omega)]; omega
      rw [hmn] at HE h8 hml
      have HK := Lib.hid (head_all ⟨(mag m).length, by omega⟩).2
      have hneg : -(-(m : Int) - 1) - 1 = m := by omega
      have HN := Lib.hid hneg
      clear hmn hneg
      have hlt0 : ¬ 0 ≤ -(m : Int) - 1 := h0
      go_enter Try.func65, Try.ntmps65
      go_wp2_with fail
      rw [HN.out]
      refine (magnitude_any m _ (by omega)).mono ?_
      rintro e w1 ⟨v, rfl, ⟨g, cap, rfl, hown⟩, hb⟩
      have hsz := hb.size
      have hgl := hown.lt g rfl
      go_wp2
      go_loopw [6, 7] (fun v i wr => ∃ k g' cap' : Nat, k ≤ (mag m).length ∧ i = .int .i64 k ∧ v = .slice (some ⟨g', 0, none⟩) (k + 1) cap' ∧ wr.ownsRow w1.heap.size T8 1 (.slice (some ⟨g', 0, none⟩) (k + 1) cap') (k + 1) (Lib.byteCells ((encM m 255).take (k + 1))) ∧ wr.ownsRow w.heap.size T8 1 (.slice (some ⟨g, 0, none⟩) (mag m).length cap) (mag m).length (Lib.byteCells (mag m)) ∧ Below w.heap.size w wr ∧ w1.heap.size ≤ wr.heap.size) (fun _ i _ => (mag m).length - (intOf i).toNat)
      case atStart =>
        refine ⟨0, w1.heap.size, 1, Nat.zero_le _, rfl, rfl, ?_, hown.alloc _, hb.alloc hsz _, by simp⟩
        have := ownsRow_new w1 _ (Nat.le_refl _) #[.int .u8 (127 - ((mag m).length : Int))] 1 rfl (by decide)
        simp only [encM, Lib.byteCells, List.map_cons, List.take_succ_cons, List.take_zero, List.map_nil]
        rw [← HK.out]
        exact this
      case round =>
        obtain ⟨k, g', cap', hk, rfl, rfl, ho, hm, hbw, hsw⟩ := hrel
        by_cases hlt : k < (mag m).length
        · have ck : wr.cell? ⟨g, k, none⟩ = some (.int .u8 ((mag m)[k].toNat : Int)) := by
            have := hm.cells (g := g) rfl k (.int .u8 ((mag m)[k].toNat : Int)) (by simp [Lib.byteCells, hlt])
            have e : (⟨g, 0, none⟩ : Addr).add k = ⟨g, k, none⟩ := by unfold Addr.add; split <;> simp_all
            rwa [e] at this
          obtain ⟨x, hx⟩ : ∃ x, (mag m)[k] = x := ⟨_, rfl⟩
          rw [hx] at ck
          have HX := Lib.hid (show (encM m 255).take (k + 1 + 1) = (encM m 255).take (k + 1) ++ [x ^^^ 255] by
            rw [List.take_add_one (l := encM m 255) (i := k + 1)]
            congr 1
            unfold encM
            rw [List.getElem?_cons_succ, List.getElem?_map, List.getElem?_eq_getElem hlt, hx]
            rfl)
          have HV := Lib.hid (inv_byte x)
          have hx8 := byte_lt x
          clear hx
          go_wp2_with (at_builtin; refine wpList_append_own _ rfl _ _ 73 rfl w1.heap.size T8 i0 (.int .u8 0) 1 1 Try.underlying73 hi hz0 hz1 hz2 rfl (by decide) _ (k + 1) _ rfl (ho.alloc _) ⟨wr.heap.size, 0, none⟩ 1 1 [.int .u8 (255 - (x.toNat : Int))] rfl rfl ?c1 ?c2 ?c3 ?c4 ?c5 ?_)
          case c1 =>
            intro j u hj
            match j, hj with
            | 0, hj => simp at hj; subst hj; simp [Addr.add]
          case c2 => intro u hu; simp at hu; subst hu; rfl
          case c3 => unfold maxLen; omega
          case c4 => omega
          case c5 => simp; omega
          intro v' w2 hown' hgrow hnil
          obtain ⟨g2, cap2, hv2⟩ := ownsRow_some hown' hnil
          subst hv2
          have hrow : w2.ownsRow w1.heap.size T8 1 (.slice (some ⟨g2, 0, none⟩) (k + 1 + 1) cap2) (k + 1 + 1) (Lib.byteCells ((encM m 255).take (k + 1 + 1))) := by
            rw [HX.out, Lib.byteCells_append]
            simp only [Lib.byteCells, List.map_cons, List.map_nil]
            rw [← HV.out]
            exact hown'
          have hg' := ho.lt g' rfl
          have hgg : (some g : Option Nat) ≠ some g' := by intro e; cases e; omega
          clear hnil hown'
          go_wp2
          go_roundw
          case rel =>
            refine ⟨k + 1, g2, cap2, by omega, by go_num, rfl, hrow, (hm.alloc _).kept hgrow (.inr hgg), ((hbw.alloc (by omega) _).grown hgrow (by simp; omega) (fun j hj => by cases hj; exact Nat.le_trans hsz hg'.1)), by have := hgrow.size; simp at this; omega⟩
          case measure => simp [intOf]; omega
        · have hkl : k = (mag m).length := by omega
          have hall : (encM m 255).take (k + 1) = encM m 255 := List.take_of_length_le (by rw [encM_length]; omega)
          have hfull : (encM m 255).length = k + 1 := by rw [encM_length]; omega
          rw [hall] at ho
          have hconv := run_convert_bytes_back (P := Try.prog) wr 73 9 T8 ⟨g', 0, none⟩ cap' (encM m 255) Try.underlying73 Try.underlying5 Try.underlying9 (Row8.cell ⟨g', cap', rfl, by rw [hfull]; exact ho⟩ g' cap' rfl)
          have HF := Lib.hid hfull
          clear hall hfull
          rw [HF.out] at hconv
          subst hkl
          go_wp2
          go_ret2
          rw [HE.out]
          exact ⟨rfl, hbw⟩
  · unfold intL intE
    rw [if_neg hn, if_neg hn]
    unfold InR at hn
    by_cases h1 : n < -4611686018427387904
    · clear hn
      go_enter Try.func65, Try.ntmps65
      go_wp2
      go_ret2
      exact ⟨rfl, Below.refl _ _⟩
    · have h2 : 4611686018427387904 < n := by omega
      clear hn
      go_enter Try.func65, Try.ntmps65
      go_wp2
      go_ret2
      exact ⟨rfl, Below.refl _ _⟩

theorem row_length {w : World} {B n : Nat} {v : Value} {L : List UInt8} (h : w.ownsRow B T8 1 v n (Lib.byteCells L)) : n = L.length := by
  have := h.1
  rw [Lib.byteCells_length] at this
  omega

end Go.Proofs.Ytpkmdonejmbnoaa
