/-
  What the reference's in, text and Print return.
-/
import Derived.TacticsIn
import Derived.TacticsInMore
import Derived.Test.YtfgaihajopfmfaaGreatDoorHeldTop
import Derived.Test.YtfgaihajopfmfaaGreatDoorExRDec
namespace Go.Proofs.YtfgaihajopfmfaaGreatDoor
set_option linter.unusedSimpArgs false
set_option linter.unusedVariables false
open Go.RowKit Go.Shelf

def inT (least oa : Int) (t : ByteArray) : ByteArray := if pcE oa < least then ⟨#[40]⟩ ++ t ++ ⟨#[41]⟩ else t
theorem inT_un {o : Int} (h : o = 1 ∨ o = 2) (oa : Int) (t : ByteArray) : inT 6 oa t = paB 0 o oa t := by
  have := pc_un h
  unfold inT paB
  by_cases h2 : pcE oa < 6
  · rw [if_pos h2, if_pos (by omega)]
  · rw [if_neg h2, if_neg (by omega)]
theorem inT_l (o oa : Int) (t : ByteArray) : inT (if pcE o = 3 then 4 else pcE o) oa t = paB 0 o oa t := by
  unfold inT paB
  by_cases h3 : pcE o = 3
  · rw [if_pos h3]
    by_cases h2 : pcE oa < 4
    · rw [if_pos h2, if_pos (by omega)]
    · rw [if_neg h2, if_neg (by omega)]
  · rw [if_neg h3]
    by_cases h2 : pcE oa < pcE o
    · rw [if_pos h2, if_pos (by omega)]
    · rw [if_neg h2, if_neg (by omega)]
theorem inT_r (o oa : Int) (t : ByteArray) : inT (pcE o + 1) oa t = paB 1 o oa t := by
  unfold inT paB
  by_cases h2 : pcE oa < pcE o + 1
  · rw [if_pos h2, if_pos (by omega)]
  · rw [if_neg h2, if_neg (by omega)]
/-- text's contract for a tree. -/
def TextC (x : Ex) : Prop := ∀ (sr : Value) (W : World), KX W x sr → Calls Tryz.prog 40 #[exV x sr] W fun e W' => e = .returned (.string (txE x)) ∧ Below W.heap.size W W'

set_option maxRecDepth 100000 in
set_option maxHeartbeats 4000000 in
theorem rin_any (x : Ex) (hx : prE x = 0) (hsz : (txE x).size ≤ 1000000) (HT : TextC x) (least : Int) (sr : Value) (w : World) (hK : KX w x sr) :
    Calls Tryz.prog 88 #[exV x sr, .int .i64 least] w fun e w' => e = .returned (.string (inT least x.o (txE x))) ∧ Below w.heap.size w w' := by
  obtain ⟨a, c, sf, rfl, h1, h2, _⟩ := KA.inv hK
  obtain ⟨n, hn⟩ : ∃ n, x.es.length = n := ⟨_, rfl⟩
  rw [hn] at hK ⊢
  obtain ⟨w1, hw1⟩ : ∃ X, w.alloc (.cells #[.int .i64 x.k, .int .i64 x.o, .string x.s, .int .i64 x.v, .slice a n c] TX) = X := ⟨_, rfl⟩
  have hb1 : Below w.heap.size w w1 := by rw [← hw1]; exact below_allocW w _
  have hx1 : AtX w1 w.heap.size 0 x (.slice a n c) := by rw [← hw1]; exact boxX w x.k x.o x.s x.v _ x.es
  have HP := Lib.hid (rPrec_any x a n c w1 hx)
  have HW := Lib.hid hw1
  have HX1 := Lib.hid hx1
  have HB1 := Lib.hid hb1
  have HK := Lib.hid hK
  have HTX := Lib.hid HT
  obtain ⟨P, hP⟩ : ∃ P, pcE x.o = P := ⟨_, rfl⟩
  obtain ⟨t, ht⟩ : ∃ t, txE x = t := ⟨_, rfl⟩
  rw [hP] at HP
  have HR : Hid (inT least x.o t = if P < least then ⟨#[40]⟩ ++ t ++ ⟨#[41]⟩ else t) := Lib.hid (by unfold inT; rw [hP])
  rw [ht] at hsz ⊢
  have HTE := Lib.hid ht
  simp only [exV] at HP ⊢
  have z0 : (⟨#[40]⟩ : ByteArray).size = 1 := rfl
  have z3 : (⟨#[41]⟩ : ByteArray).size = 1 := rfl
  have z1 : (⟨#[40]⟩ : ByteArray).size + t.size ≤ 9223372036854775807 := by rw [z0]; omega
  have z2 : (⟨#[40]⟩ ++ t : ByteArray).size + (⟨#[41]⟩ : ByteArray).size ≤ 9223372036854775807 := by rw [ByteArray.size_append, z0, z3]; omega
  clear hw1 hx1 hb1 hK hP ht HT hn h1 z0 z3
  by_cases hl : P < least
  · have HR2 : Hid (inT least x.o t = ⟨#[40]⟩ ++ t ++ ⟨#[41]⟩) := Lib.hid (by rw [HR.out, if_pos hl])
    go_enter Tryz.func88, Tryz.ntmps88
    go_wp2_with fail
    rw [HW.out]
    refine HP.out.mono ?_
    rintro e w2 ⟨rfl, b2⟩
    have HX2 := Lib.hid (AtX.later HX1.out b2)
    have HB2 := Lib.hid (HB1.out.trans (b2.mono HB1.out.size))
    obtain ⟨r0, r1, r2, r3, r4⟩ := HX2.out
    simp only [Nat.zero_add] at r1 r2 r3 r4
    have HIN := Lib.hid (HTX.out (.slice a n c) w2 (HK.out.carry HB2.out))
    rw [HTE.out] at HIN
    simp only [exV] at HIN
    clear b2
    go_wp2_with fail
    refine HIN.out.mono ?_
    rintro e w4 ⟨rfl, b4⟩
    have HB4 := Lib.hid (HB2.out.trans (b4.mono HB2.out.size))
    have c1 := catS ⟨#[40]⟩ t z1 w4
    have c2 := catS (⟨#[40]⟩ ++ t) ⟨#[41]⟩ z2 w4
    clear b4
    go_wp2
    go_ret
    exact ⟨by rw [HR2.out]; rfl, HB4.out⟩
  · have HR2 : Hid (inT least x.o t = t) := Lib.hid (by rw [HR.out, if_neg hl])
    go_enter Tryz.func88, Tryz.ntmps88
    go_wp2_with fail
    rw [HW.out]
    refine HP.out.mono ?_
    rintro e w2 ⟨rfl, b2⟩
    have HX2 := Lib.hid (AtX.later HX1.out b2)
    have HB2 := Lib.hid (HB1.out.trans (b2.mono HB1.out.size))
    obtain ⟨r0, r1, r2, r3, r4⟩ := HX2.out
    simp only [Nat.zero_add] at r1 r2 r3 r4
    have HIN := Lib.hid (HTX.out (.slice a n c) w2 (HK.out.carry HB2.out))
    rw [HTE.out] at HIN
    simp only [exV] at HIN
    clear b2
    go_wp2_with fail
    refine HIN.out.mono ?_
    rintro e w4 ⟨rfl, b4⟩
    have HB4 := Lib.hid (HB2.out.trans (b4.mono HB2.out.size))
    clear b4
    go_wp2
    go_ret
    exact ⟨by rw [HR2.out]; rfl, HB4.out⟩

/-- What is read while the text of an operation is put together. -/
abbrev RxS (b tb : Nat) (o : Int) (sl : Value) (ba off : Nat) (x0 x1 : Ex) (r0 r1 : Value) (w w' : World) : Prop := w'.cell? ⟨b, 1, none⟩ = some (.int .i64 o) ∧ w'.cell? ⟨b, 4, none⟩ = some sl ∧ w'.cell? ⟨tb, o.toNat, none⟩ = some (.string (sgB o)) ∧ ElS ba off x0 r0 w' ∧ ElS ba (off + 5) x1 r1 w' ∧ KX w' x0 r0 ∧ KX w' x1 r1 ∧ Below w.heap.size w w'
theorem RxS.keep {b tb : Nat} {o : Int} {sl : Value} {ba off : Nat} {x0 x1 : Ex} {r0 r1 : Value} {w w' w2 : World} (h : RxS b tb o sl ba off x0 x1 r0 r1 w w') (hb : Below w'.heap.size w' w2) : RxS b tb o sl ba off x0 x1 r0 r1 w w2 := by
  obtain ⟨h0, h1, h2, h3, h4, h5, h6, h7⟩ := h
  exact ⟨cell_laterZ hb h0, cell_laterZ hb h1, cell_laterZ hb h2, h3.keep hb, h4.keep hb, h5.carry hb, h6.carry hb, h7.trans (hb.mono h7.size)⟩
theorem RxS.drew {b tb : Nat} {o : Int} {sl : Value} {ba off : Nat} {x0 x1 : Ex} {r0 r1 : Value} {w w' : World} (h : RxS b tb o sl ba off x0 x1 r0 r1 w w') : RxS b tb o sl ba off x0 x1 r0 r1 w w'.drew := h.keep ((Below.refl _ _).drew)
abbrev SGS : Array Value := #[.string ⟨#[]⟩, .string ⟨#[]⟩, .string ⟨#[]⟩, .string ⟨#[43]⟩, .string ⟨#[45]⟩, .string ⟨#[42]⟩, .string ⟨#[47]⟩, .string ⟨#[37]⟩, .string ⟨#[61, 61]⟩, .string ⟨#[33, 61]⟩, .string ⟨#[60]⟩, .string ⟨#[60, 61]⟩, .string ⟨#[62]⟩, .string ⟨#[62, 61]⟩, .string ⟨#[38, 38]⟩, .string ⟨#[124, 124]⟩]
theorem sgs_at {o : Int} (h1 : 3 ≤ o) (h2 : o ≤ 15) : SGS[o.toNat]? = some (.string (sgB o)) := by
  rcases op_cases h1 h2 with rfl | rfl | rfl | rfl | rfl | rfl | rfl | rfl | rfl | rfl | rfl | rfl | rfl <;> rfl

set_option maxRecDepth 100000 in
set_option maxHeartbeats 8000000 in
theorem rtext_any (e : Ex) : prE e = 0 → szE e ≤ 100 → TextC e := by
  induction e using Ex.ind with
  | h k o s v es ih =>
  intro hP hL sl w hK
  obtain ⟨a, c, sf, rfl, h1, h2, hc⟩ := KA.inv hK
  have h1 : es.length ≤ c := h1
  have hb0 : Below w.heap.size w (w.alloc (.cells #[.int .i64 k, .int .i64 o, .string s, .int .i64 v, .slice a es.length c] TX)) := below_allocW w _
  obtain ⟨x0, x1, x2, x3, x4⟩ := boxX w k o s v (.slice a es.length c) es
  have HB := Lib.hid hb0
  have HK := Lib.hid hK
  obtain ⟨W, hW⟩ : ∃ W, w.alloc (.cells #[.int .i64 k, .int .i64 o, .string s, .int .i64 v, .slice a es.length c] TX) = W := ⟨_, rfl⟩
  rw [hW] at HB x0 x1 x2 x3 x4
  have HW := Lib.hid hW
  simp only [Ex.k, Ex.o, Ex.s, Ex.v, Nat.zero_add] at x0 x1 x2 x3 x4
  have HIN : Hid (∀ i, i < es.length → ∀ least sr W, KX W (ga es i) sr → Calls Tryz.prog 88 #[exV (ga es i) sr, .int .i64 least] W fun e w' => e = .returned (.string (inT least (ga es i).o (txE (ga es i)))) ∧ Below W.heap.size W w') := Lib.hid (fun i hi least sr W hk => by
    have hsi : szE (ga es i) ≤ 100 := by have := szE_arg (ga_mem hi); simp only [szE] at hL; omega
    have hpi := prE_arg hP _ (ga_mem hi)
    exact rin_any (ga es i) hpi (txE_short _ hsi hpi) (ih (ga es i) (ga_mem hi) hpi hsi) least sr W hk)
  have hp0 := prP_zero.1 (prE_zero.1 hP).1
  have HP := Lib.hid hP
  have HSZ := Lib.hid (txE_short _ hL hP)
  simp only [exV, Ex.k, Ex.o, Ex.s, Ex.v, Ex.es]
  clear hK hc ih hW hb0 hP hL
  rcases hp0 with ⟨rfl, rfl, rfl, hv0, hv1, hn⟩ | ⟨rfl, rfl, hnm, rfl, hn⟩ | ⟨rfl, ho, rfl, rfl, hn⟩ | ⟨rfl, ho1, ho2, rfl, rfl, hn⟩
  · obtain ⟨u, rfl⟩ := Int.eq_ofNat_of_zero_le hv0
    have HD := Lib.hid (rDecimal_any u (by omega) W)
    have HR : Hid (txE (.mk 1 0 .empty (u : Int) es) = dcB (u : Int)) := Lib.hid (by simp [txE])
    clear hn
    go_enter Tryz.func40, Tryz.ntmps40
    go_wp2_with (rw [HW.out])
    refine HD.out.mono ?_
    rintro x w4 ⟨rfl, b4⟩
    have HB4 := Lib.hid (HB.out.trans (b4.mono HB.out.size))
    clear b4
    go_wp2
    go_ret
    exact ⟨by rw [HR.out]; rfl, HB4.out⟩
  · have HR : Hid (txE (.mk 2 0 s 0 es) = s) := Lib.hid (by simp [txE])
    clear hn
    go_enter Tryz.func40, Tryz.ntmps40
    go_wp2_with (rw [HW.out])
    go_ret
    exact ⟨by rw [HR.out]; rfl, HB.out⟩
  · have hlt : 0 < es.length := by rw [hn]; omega
    have HT0 := Lib.hid (txL_0 es hlt)
    obtain ⟨sr, hcr⟩ := KA.at_ (show KA anyB W es _ from HK.out.carry HB.out)
    obtain ⟨hK0, b, off, rfl, _, hbl, y0, y1, y2, y3, y4⟩ := hcr 0 hlt
    simp only [Nat.zero_mul, Nat.add_zero] at y0 y1 y2 y3 y4
    have HC := Lib.hid (HIN.out 0 hlt 6 (sr 0) W hK0)
    rw [inT_un ho] at HC
    obtain ⟨t, ht⟩ : ∃ t, paB 0 o (ga es 0).o (txE (ga es 0)) = t := ⟨_, rfl⟩
    rw [ht] at HC
    have HR : Hid (txE (.mk 3 o .empty 0 es) = sgB o ++ t) := Lib.hid (by rw [← ht]; simp [txE, ← HT0.out])
    have hsz := HSZ.out
    rw [HR.out, ByteArray.size_append] at hsz
    have k1 : (0 : Int) < (es.length : Int) := by omega
    simp only [exV] at HC
    clear hcr hK0 ht HSZ hn
    rcases ho with rfl | rfl
    · go_enter Tryz.func40, Tryz.ntmps40
      go_wp2_with (rw [HW.out])
      refine HC.out.mono ?_
      rintro x w4 ⟨rfl, b4⟩
      have HB4 := Lib.hid (HB.out.trans (b4.mono HB.out.size))
      have c1 := catS (sgB 1) t (by omega) w4
      rw [show sgB 1 = ⟨#[45]⟩ from rfl] at c1 HR
      clear b4
      go_wp2
      go_ret
      exact ⟨by rw [HR.out]; rfl, HB4.out⟩
    · go_enter Tryz.func40, Tryz.ntmps40
      go_wp2_with (rw [HW.out])
      refine HC.out.mono ?_
      rintro x w4 ⟨rfl, b4⟩
      have HB4 := Lib.hid (HB.out.trans (b4.mono HB.out.size))
      have c1 := catS (sgB 2) t (by omega) w4
      rw [show sgB 2 = ⟨#[33]⟩ from rfl] at c1 HR
      clear b4
      go_wp2
      go_ret
      exact ⟨by rw [HR.out]; rfl, HB4.out⟩
  · have hlt0 : 0 < es.length := by rw [hn]; omega
    have hlt1 : 1 < es.length := by rw [hn]; omega
    have HT0 := Lib.hid (txL_0 es hlt0)
    have HT1 := Lib.hid (txL_1 es hlt1)
    obtain ⟨sr, hcr⟩ := KA.at_ (show KA anyB W es _ from HK.out.carry HB.out)
    obtain ⟨hK0, b, off, rfl, _, hbl, y0, y1, y2, y3, y4⟩ := hcr 0 hlt0
    obtain ⟨hK1, b', off', e', _, _, v0, v1, v2, v3, v4⟩ := hcr 1 hlt1
    injection e' with e'
    injection e' with e1 e2
    subst e1 e2
    simp only [Nat.zero_mul, Nat.add_zero, Nat.one_mul] at y0 y1 y2 y3 y4 v0 v1 v2 v3 v4
    obtain ⟨r0, hr0⟩ : ∃ r, sr 0 = r := ⟨_, rfl⟩
    obtain ⟨r1, hr1⟩ : ∃ r, sr 1 = r := ⟨_, rfl⟩
    rw [hr0] at hK0 y4
    rw [hr1] at hK1 v4
    obtain ⟨W2, hW2⟩ : ∃ X, W.alloc (.cells SGS TS) = X := ⟨_, rfl⟩
    have hb2 : Below W.heap.size W W2 := by rw [← hW2]; exact below_allocW W _
    have htb : W2.cell? ⟨W.heap.size, o.toNat, none⟩ = some (.string (sgB o)) := by rw [← hW2, Lib.cell_of_heap (World.alloc_heap_new _ _)]; exact sgs_at ho1 ho2
    have hrx : RxS w.heap.size W.heap.size o (.slice (some ⟨b, off, none⟩) es.length c) b off (ga es 0) (ga es 1) r0 r1 w W2 := ⟨cell_laterZ hb2 x1, cell_laterZ hb2 x4, htb, ElS.keep ⟨y0, y1, y2, y3, y4⟩ hb2, ElS.keep ⟨v0, v1, v2, v3, v4⟩ hb2, hK0.carry hb2, hK1.carry hb2, HB.out.trans (hb2.mono HB.out.size)⟩
    have z0 := cell_laterZ hb2 x0
    have z1 := cell_laterZ hb2 x1
    have z2 := cell_laterZ hb2 x2
    have z3 := cell_laterZ hb2 x3
    have z4 := cell_laterZ hb2 x4
    have HW2 := Lib.hid hW2
    have HRX := Lib.hid hrx
    obtain ⟨N, hN⟩ : ∃ N, pcE o = N := ⟨_, rfl⟩
    have HPC := Lib.hid (rPrec_any (.mk 4 o .empty 0 es) (some ⟨b, off, none⟩) es.length c W2 HP.out)
    have ePC : pcE (Ex.mk 4 o .empty 0 es).o = N := hN
    rw [ePC] at HPC
    simp only [exV, Ex.k, Ex.o, Ex.s, Ex.v] at HPC
    have hN1 := pc_op ho1 ho2
    rw [hN] at hN1
    have nw : IntKind.i64.wrap (N + 1) = N + 1 := by rw [IntKind.wrap_i64]; omega
    have HR : Hid (txE (.mk 4 o .empty 0 es) = paB 0 o (ga es 0).o (txE (ga es 0)) ++ ⟨#[32]⟩ ++ sgB o ++ ⟨#[32]⟩ ++ paB 1 o (ga es 1).o (txE (ga es 1))) := Lib.hid (by simp only [txE, ← HT0.out, ← HT1.out]; rfl)
    obtain ⟨u0, hu0⟩ : ∃ u, paB 0 o (ga es 0).o (txE (ga es 0)) = u := ⟨_, rfl⟩
    obtain ⟨u1, hu1⟩ : ∃ u, paB 1 o (ga es 1).o (txE (ga es 1)) = u := ⟨_, rfl⟩
    have HF1 : Hid (inT (N + 1) (ga es 1).o (txE (ga es 1)) = u1) := Lib.hid (by rw [← hu1, ← inT_r, hN])
    have hsz := HSZ.out
    rw [hu0, hu1] at HR
    rw [HR.out] at hsz
    simp only [ByteArray.size_append] at hsz
    have s1 : (⟨#[32]⟩ : ByteArray).size = 1 := rfl
    rw [s1] at hsz
    have g1 : u0.size + (⟨#[32]⟩ : ByteArray).size ≤ 9223372036854775807 := by rw [s1]; omega
    have g2 : (u0 ++ (⟨#[32]⟩ : ByteArray)).size + (sgB o).size ≤ 9223372036854775807 := by simp only [ByteArray.size_append, s1]; omega
    have g3 : (u0 ++ (⟨#[32]⟩ : ByteArray) ++ sgB o).size + (⟨#[32]⟩ : ByteArray).size ≤ 9223372036854775807 := by simp only [ByteArray.size_append, s1]; omega
    have g4 : (u0 ++ (⟨#[32]⟩ : ByteArray) ++ sgB o ++ (⟨#[32]⟩ : ByteArray)).size + u1.size ≤ 9223372036854775807 := by simp only [ByteArray.size_append, s1]; omega
    have m1 : ¬ 9223372036854775807 < u0.size + (⟨#[32]⟩ : ByteArray).size := Nat.not_lt.2 g1
    have m2 : ¬ 9223372036854775807 < (u0 ++ (⟨#[32]⟩ : ByteArray)).size + (sgB o).size := Nat.not_lt.2 g2
    have m3 : ¬ 9223372036854775807 < (u0 ++ (⟨#[32]⟩ : ByteArray) ++ sgB o).size + (⟨#[32]⟩ : ByteArray).size := Nat.not_lt.2 g3
    have m4 : ¬ 9223372036854775807 < (u0 ++ (⟨#[32]⟩ : ByteArray) ++ sgB o ++ (⟨#[32]⟩ : ByteArray)).size + u1.size := Nat.not_lt.2 g4
    have x5 : ¬ 9223372036854775807 < u0.size + 1 := by omega
    have x6 : ¬ 9223372036854775807 < u0.size + 1 + (sgB o).size := by omega
    have x7 : ¬ 9223372036854775807 < u0.size + 1 + (sgB o).size + 1 := by omega
    have x8 : ¬ 9223372036854775807 < u0.size + 1 + (sgB o).size + 1 + u1.size := by omega
    have x9 : ¬ 9223372036854775807 < u0.size + (⟨#[32]⟩ : ByteArray).size + (sgB o).size := by rw [s1]; omega
    have xa : ¬ 9223372036854775807 < u0.size + (⟨#[32]⟩ : ByteArray).size + (sgB o).size + (⟨#[32]⟩ : ByteArray).size := by rw [s1]; omega
    have xb : ¬ 9223372036854775807 < u0.size + (⟨#[32]⟩ : ByteArray).size + (sgB o).size + (⟨#[32]⟩ : ByteArray).size + u1.size := by rw [s1]; omega
    have n1 : u0.size + 1 ≤ 9223372036854775807 := by omega
    have n2 : u0.size + 1 + (sgB o).size ≤ 9223372036854775807 := by omega
    have n3 : u0.size + 1 + (sgB o).size + 1 ≤ 9223372036854775807 := by omega
    have n4 : u0.size + 1 + (sgB o).size + 1 + u1.size ≤ 9223372036854775807 := by omega
    have o0 : (0 : Int) ≤ o := by omega
    have o16 : o < 16 := by omega
    have oN : o.toNat < 16 := by omega
    have j0 : (0 : Int) < (es.length : Int) := by omega
    have j1 : (1 : Int) < (es.length : Int) := by omega
    clear hcr hK0 hK1 hr0 hr1 hW2 hb2 htb hrx hsz s1 hn ePC HSZ
    go_enter Tryz.func40, Tryz.ntmps40
    go_wp2_with (first | rw [HW.out] | rw [HW2.out])
    refine HPC.out.mono ?_
    rintro x w4 ⟨rfl, b4⟩
    have HL := Lib.hid (RxS.keep HRX.out b4)
    have p1 := catS u0 ⟨#[32]⟩ g1
    have p2 := catS _ (sgB o) g2
    have p3 := catS _ ⟨#[32]⟩ g3
    have p4 := catS _ u1 g4
    clear b4 z0 z1 z2 z3 z4 y0 y1 y2 y3 y4 v0 v1 v2 v3 v4 x0 x1 x2 x3 x4
    by_cases h3 : N = 3
    · obtain ⟨q1, q2⟩ := ieq h3
      have HF : Hid (inT 4 (ga es 0).o (txE (ga es 0)) = u0) := Lib.hid (by rw [← hu0, ← inT_l, hN, if_pos h3])
      have HC0 := Lib.hid (fun W' (h : RxS w.heap.size W.heap.size o (.slice (some ⟨b, off, none⟩) es.length c) b off (ga es 0) (ga es 1) r0 r1 w W') => HIN.out 0 hlt0 4 r0 W' h.2.2.2.2.2.1)
      have HC1 := Lib.hid (fun W' (h : RxS w.heap.size W.heap.size o (.slice (some ⟨b, off, none⟩) es.length c) b off (ga es 0) (ga es 1) r0 r1 w W') => HIN.out 1 hlt1 (N + 1) r1 W' h.2.2.2.2.2.2.1)
      rw [HF.out] at HC0
      rw [HF1.out] at HC1
      simp only [exV] at HC0 HC1
      clear h3 hu0 hu1 hN HF HF1
      go_wp2_with fail
      go_region_held3 (fun w' => RxS w.heap.size W.heap.size o (.slice (some ⟨b, off, none⟩) es.length c) b off (ga es 0) (ga es 1) r0 r1 w w')
        (first | assumption | exact RxS.drew HL.out | exact RxS.keep (by assumption) (by assumption))
        (first | (go_at_call 88; (with_reducible refine (HC0.out _ (by assumption)).mono ?_); rintro x w6 ⟨rfl, b6⟩) | (go_at_call 88; (with_reducible refine (HC1.out _ (by assumption)).mono ?_); rintro x w7 ⟨rfl, b7⟩))
      have hbb : RxS w.heap.size W.heap.size o (.slice (some ⟨b, off, none⟩) es.length c) b off (ga es 0) (ga es 1) r0 r1 w w7 := by assumption
      have HB7 : Hid (Below w.heap.size w w7) := Lib.hid hbb.2.2.2.2.2.2.2
      clear hbb
      go_wp2
      go_ret
      exact ⟨by rw [HR.out]; rfl, HB7.out⟩
    · obtain ⟨q1, q2⟩ := ine h3
      have HF : Hid (inT N (ga es 0).o (txE (ga es 0)) = u0) := Lib.hid (by rw [← hu0, ← inT_l, hN, if_neg h3])
      have HC0 := Lib.hid (fun W' (h : RxS w.heap.size W.heap.size o (.slice (some ⟨b, off, none⟩) es.length c) b off (ga es 0) (ga es 1) r0 r1 w W') => HIN.out 0 hlt0 N r0 W' h.2.2.2.2.2.1)
      have HC1 := Lib.hid (fun W' (h : RxS w.heap.size W.heap.size o (.slice (some ⟨b, off, none⟩) es.length c) b off (ga es 0) (ga es 1) r0 r1 w W') => HIN.out 1 hlt1 (N + 1) r1 W' h.2.2.2.2.2.2.1)
      rw [HF.out] at HC0
      rw [HF1.out] at HC1
      simp only [exV] at HC0 HC1
      clear h3 hu0 hu1 hN HF HF1
      go_wp2_with fail
      go_region_held3 (fun w' => RxS w.heap.size W.heap.size o (.slice (some ⟨b, off, none⟩) es.length c) b off (ga es 0) (ga es 1) r0 r1 w w')
        (first | assumption | exact RxS.drew HL.out | exact RxS.keep (by assumption) (by assumption))
        (first | (go_at_call 88; (with_reducible refine (HC0.out _ (by assumption)).mono ?_); rintro x w6 ⟨rfl, b6⟩) | (go_at_call 88; (with_reducible refine (HC1.out _ (by assumption)).mono ?_); rintro x w7 ⟨rfl, b7⟩))
      have hbb : RxS w.heap.size W.heap.size o (.slice (some ⟨b, off, none⟩) es.length c) b off (ga es 0) (ga es 1) r0 r1 w w7 := by assumption
      have HB7 : Hid (Below w.heap.size w w7) := Lib.hid hbb.2.2.2.2.2.2.2
      clear hbb
      go_wp2
      go_ret
      exact ⟨by rw [HR.out]; rfl, HB7.out⟩

end Go.Proofs.YtfgaihajopfmfaaGreatDoor
