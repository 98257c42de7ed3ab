/-
  The printer: precedences. The printer: texts. The printer: the text of an expression. What the program's Print returns. How long a text can be.
-/
import Derived.Test.YtdgphhdkeikbaaaGreatDoorExItoa
import Derived.Deep.RegionHeld3
import Derived.Test.YtdgphhdkeikbaaaGreatDoorExDevC
import Derived.Test.YtdgphhdkeikbaaaGreatDoorExDevA
import Derived.Test.YtdgphhdkeikbaaaGreatDoorHeldTail
import Derived.OrdersHeld
import Derived.RegionTactic
/-! ### ExPrec: The printer: precedences. -/
namespace Go.Proofs.YtdgphhdkeikbaaaGreatDoor
set_option linter.unusedSimpArgs false
set_option linter.unusedVariables false
open Go.RowKit

theorem prE_arg {k o : Int} {s : ByteArray} {v : Int} {es : List Ex} (h : prE (.mk k o s v es) = 0) : ∀ a ∈ es, prE a = 0 := (prE_zero.1 h).2

def pcE (o : Int) : Int := if 1 ≤ o ∧ o ≤ 15 then pcO o else 7
theorem TabO.look0 {m : Nat} {w : World} (h : TabO m w) (c : Bool) : (Instr.lookup TM (.map (some m)) (.int .i64 0) c).run Tryz.prog w = .ok (if c = true then .tuple #[.agg #[.string ⟨#[]⟩, .int .i64 0, .int .i64 0, .int .i64 0, .nilFunc], .bool false] else .agg #[.string ⟨#[]⟩, .int .i64 0, .int .i64 0, .int .i64 0, .nilFunc]) w := by
  obtain ⟨l, T, hl⟩ := h
  have h0 : lkM l 0 = none := lkM_none (by rw [hl]; rfl)
  have := run_lookM (w := w) (b := m) (l := l) 0 c T.m
  rw [this, h0]
  rfl
theorem TabO.look1 {m : Nat} {w : World} (h : TabO m w) {k : Int} (h1 : 1 ≤ k) (h2 : k ≤ 15) : ∃ f, AppF m w k f ∧ (Instr.lookup TM (.map (some m)) (.int .i64 k) true).run Tryz.prog w = .ok (.tuple #[opA k f, .bool true]) w ∧ (Instr.lookup TM (.map (some m)) (.int .i64 k) false).run Tryz.prog w = .ok (opA k f) w := by
  obtain ⟨f, hf, hlk⟩ := h.look h1 h2
  have h0 : (Instr.lookup TM (.map (some m)) (.int .i64 k) false).run Tryz.prog w = .ok (opA k f) w := hlk 0
  obtain ⟨l, T, hl⟩ := h
  refine ⟨f, hf, ?_, h0⟩
  have e1 := run_lookM (w := w) (b := m) (l := l) k true T.m
  have e2 := run_lookM (w := w) (b := m) (l := l) k false T.m
  rw [e2] at h0
  have h0 := (Result.ok.inj h0).1
  rw [e1]
  cases hk : lkM l k with
  | none =>
    exfalso
    rw [hk] at h0
    have hp : pcO k ≠ 0 := by unfold pcO; repeat' split <;> omega
    simp only [Option.getD_none, opA, Bool.false_eq_true, if_false] at h0
    injection h0 with h0
    have h5 := congrArg (fun a : Array Value => a[1]?) h0
    have h6 : Value.int .i64 0 = Value.int .i64 (pcO k) := by simpa using h5
    injection h6 with _ h6
    exact hp h6.symm
  | some v => rw [hk] at h0; simp at h0; simp [h0]
theorem AppF.isF {b : Nat} {W : World} {k : Int} {f : Value} (h : AppF b W k f) : ∃ n fr, f = .func n #[] fr := by
  cases h <;> exact ⟨_, _, rfl⟩
abbrev TPr : TypeId := 56
set_option maxHeartbeats 4000000 in
theorem prec_any (m : Nat) (e : Ex) (sl : Value) (w : World) (hM : TabO m w) (ho : e.o = 0 ∨ (1 ≤ e.o ∧ e.o ≤ 15)) (hsl : ∃ a n c, sl = .slice a n c) :
    Calls Tryz.prog 95 #[.agg #[.map (some m)], exV e sl] w fun x w' => x = .returned (.int .i64 (pcE e.o)) ∧ Below w.heap.size w w' := by
  obtain ⟨sa, sn, sc, rfl⟩ := hsl
  obtain ⟨k, o, s, v, es⟩ := e
  simp only [exV, Ex.k, Ex.o, Ex.s, Ex.v, Ex.es] at *
  have HBB := Lib.hid (fun o p q => (threeBlocks w o p q).2.2.2)
  obtain ⟨W, hW⟩ : ∃ W, (w.alloc (.cells #[.map (some m)] TPr (0, 0))).alloc (.cells #[.int .i64 k, .int .i64 o, .string s, .int .i64 v, .slice sa sn sc] TX (0, 0)) = W := ⟨_, rfl⟩
  have hM2 : TabO m W := by rw [← hW]; exact hM.below (twoBlocks w _ _).2.2
  have hc : W.cell? ⟨w.heap.size + 1, 1, none⟩ = some (.int .i64 o) := by
    have := (twoBlocks w (.cells #[.map (some m)] TPr (0, 0)) (.cells #[.int .i64 k, .int .i64 o, .string s, .int .i64 v, .slice sa sn sc] TX (0, 0))).2.1
    rw [hW] at this
    simp [World.cell?, this]
  clear hM
  rcases ho with rfl | ⟨h1, h2⟩
  · have hl := hM2.look0 true
    rw [← hW] at hl
    simp only [if_true] at hl
    clear hM2 hc hW
    go_enter Tryz.func95, Tryz.ntmps95
    go_wp2
    go_ret
    exact ⟨rfl, HBB.out _ _ _⟩
  · obtain ⟨f, hf, hl, _⟩ := hM2.look1 h1 h2
    obtain ⟨n, fr, rfl⟩ := hf.isF
    have hp : pcE o = pcO o := by unfold pcE; rw [if_pos ⟨h1, h2⟩]
    rw [hp]
    rw [← hW] at hl
    simp only [opA] at hl
    clear h1 h2 hp hM2 hf hc hW
    go_enter Tryz.func95, Tryz.ntmps95
    go_wp2
    go_ret
    exact ⟨rfl, HBB.out _ _ _⟩

end Go.Proofs.YtdgphhdkeikbaaaGreatDoor

/-! ### ExPrint: The printer: texts. -/
namespace Go.Proofs.YtdgphhdkeikbaaaGreatDoor
set_option linter.unusedSimpArgs false
set_option linter.unusedVariables false
open Go.RowKit

def paB (i : Nat) (o oa : Int) (t : ByteArray) : ByteArray := if pcE oa < pcE o ∨ (pcE oa = pcE o ∧ (i = 1 ∨ pcE o = 3)) then ⟨#[40]⟩ ++ t ++ ⟨#[41]⟩ else t
/-- What is read while a text is put together. -/
abbrev TxS (b m : Nat) (e : Ex) (sl : Value) (w w' : World) : Prop := w'.cell? ⟨b, 0, none⟩ = some (.map (some m)) ∧ w'.cell? ⟨b + 1, 0, none⟩ = some (.int .i64 e.k) ∧ w'.cell? ⟨b + 1, 1, none⟩ = some (.int .i64 e.o) ∧ w'.cell? ⟨b + 1, 2, none⟩ = some (.string e.s) ∧ w'.cell? ⟨b + 1, 3, none⟩ = some (.int .i64 e.v) ∧ w'.cell? ⟨b + 1, 4, none⟩ = some sl ∧ KX w' e sl ∧ TabO m w' ∧ Below w.heap.size w w'
abbrev ElS (b off : Nat) (x : Ex) (sr : Value) (w' : World) : Prop := w'.cell? ⟨b, off, none⟩ = some (.int .i64 x.k) ∧ w'.cell? ⟨b, off + 1, none⟩ = some (.int .i64 x.o) ∧ w'.cell? ⟨b, off + 2, none⟩ = some (.string x.s) ∧ w'.cell? ⟨b, off + 3, none⟩ = some (.int .i64 x.v) ∧ w'.cell? ⟨b, off + 4, none⟩ = some sr
theorem ElS.keep {b off : Nat} {x : Ex} {sr : Value} {w' w2 : World} (h : ElS b off x sr w') (hb : Below w'.heap.size w' w2) : ElS b off x sr w2 := ⟨cell_laterZ hb h.1, cell_laterZ hb h.2.1, cell_laterZ hb h.2.2.1, cell_laterZ hb h.2.2.2.1, cell_laterZ hb h.2.2.2.2⟩
theorem TxS.keep {b m : Nat} {e : Ex} {sl : Value} {w w' w2 : World} (h : TxS b m e sl w w') (hb : Below w'.heap.size w' w2) : TxS b m e sl w w2 := by
  obtain ⟨h0, h1, h2, h3, h4, h5, h6, h7, h8⟩ := h
  exact ⟨cell_laterZ hb h0, cell_laterZ hb h1, cell_laterZ hb h2, cell_laterZ hb h3, cell_laterZ hb h4, cell_laterZ hb h5, h6.carry hb, h7.below hb, h8.trans (hb.mono h8.size)⟩
theorem TxS.drew {b m : Nat} {e : Ex} {sl : Value} {w w' : World} (h : TxS b m e sl w w') : TxS b m e sl w w'.drew := h.keep ((Below.refl _ _).drew)
theorem txS_start (m : Nat) (k o : Int) (s : ByteArray) (v : Int) (es : List Ex) (a : Option Addr) (c : Nat) (w : World) (hK : KX w (.mk k o s v es) (.slice a es.length c)) (hM : TabO m w) : TxS w.heap.size m (.mk k o s v es) (.slice a es.length c) w ((w.alloc (.cells #[.map (some m)] TPr (0, 0))).alloc (.cells #[.int .i64 k, .int .i64 o, .string s, .int .i64 v, .slice a es.length c] TX (0, 0))) := by
  obtain ⟨t0, t1, hb⟩ := twoBlocks w (.cells #[.map (some m)] TPr (0, 0)) (.cells #[.int .i64 k, .int .i64 o, .string s, .int .i64 v, .slice a es.length c] TX (0, 0))
  generalize (w.alloc (.cells #[.map (some m)] TPr (0, 0))).alloc (.cells #[.int .i64 k, .int .i64 o, .string s, .int .i64 v, .slice a es.length c] TX (0, 0)) = W at t0 t1 hb ⊢
  refine ⟨?_, ?_, ?_, ?_, ?_, ?_, hK.carry hb, hM.below hb, hb⟩
  · simp [World.cell?, t0]
  all_goals simp [World.cell?, t1, Ex.k, Ex.o, Ex.s, Ex.v]
def okO (e : Ex) : Prop := e.o = 0 ∨ (1 ≤ e.o ∧ e.o ≤ 15)
theorem prE_okO {e : Ex} (h : prE e = 0) : okO e := by
  obtain ⟨k, o, s, v, es⟩ := e
  rcases prP_zero.1 (prE_zero.1 h).1 with h | h | h | h
  · exact .inl h.2.1
  · exact .inl h.2.1
  · exact .inr ⟨by show 1 ≤ o; omega, by show o ≤ 15; omega⟩
  · exact .inr ⟨by show 1 ≤ o; omega, by show o ≤ 15; omega⟩
set_option maxRecDepth 100000 in
set_option maxHeartbeats 4000000 in
theorem arg_any (m i : Nat) (e : Ex) (sl : Value) (w : World) (t : ByteArray) (hK : KX w e sl) (hM : TabO m w) (hP : prE e = 0) (hi : i < e.es.length) (hi2 : i ≤ 1) (ht : t.size ≤ 1000000000)
    (H : ∀ sr W, KX W (ga e.es i) sr → TabO m W → Below w.heap.size w W → Calls Tryz.prog 29 #[.agg #[.map (some m)], exV (ga e.es i) sr] W fun x w' => x = .returned (.string t) ∧ Below W.heap.size W w') :
    Calls Tryz.prog 69 #[.agg #[.map (some m)], exV e sl, .int .i64 (i : Int)] w fun x w' => x = .returned (.string (paB i e.o (ga e.es i).o t)) ∧ Below w.heap.size w w' := by
  obtain ⟨k, o, s, v, es⟩ := e
  obtain ⟨a, c, sf, rfl, h1, h2, hc⟩ := KA.inv hK
  have h1 : es.length ≤ c := h1
  have HS := Lib.hid (txS_start m k o s v es a c w hK hM)
  have hoa := prE_okO ((prE_zero.1 hP).2 (ga es i) (ga_mem hi))
  have hoe := prE_okO hP
  change i < es.length at hi
  change Calls Tryz.prog 69 #[.agg #[.map (some m)], .agg #[.int .i64 k, .int .i64 o, .string s, .int .i64 v, .slice a es.length c], .int .i64 (i : Int)] w fun x w' => x = .returned (.string (paB i o (ga es i).o t)) ∧ Below w.heap.size w w'
  obtain ⟨W, hW⟩ : ∃ W, (w.alloc (.cells #[.map (some m)] TPr (0, 0))).alloc (.cells #[.int .i64 k, .int .i64 o, .string s, .int .i64 v, .slice a es.length c] TX (0, 0)) = W := ⟨_, rfl⟩
  rw [hW] at HS
  have HW := Lib.hid hW
  have HH := Lib.hid H
  have HOA := Lib.hid hoa
  have HOE := Lib.hid hoe
  clear hW hK hM hc H hoa hoe hP
  have k1 : (i : Int) < (es.length : Int) := by omega
  obtain ⟨g0, g1, g2, g3, g4, g5, g6, g7, g8⟩ := HS.out
  obtain ⟨sr, hcr⟩ := KA.at_ (show KA anyB W es _ from g6)
  obtain ⟨hKj, b, off, rfl, _, hbl, y0, y1, y2, y3, y4⟩ := hcr i hi
  obtain ⟨a2, c2, _, hsr, _, _, _⟩ := KA.inv hKj
  obtain ⟨n2, hn2⟩ : ∃ n, (ga es i).es.length = n := ⟨_, rfl⟩
  rw [hn2] at hsr
  rw [hsr] at hKj y4
  have HL : Hid (ElS b (off + i * 5) (ga es i) (.slice a2 n2 c2) W ∧ TxS w.heap.size m (.mk k o s v es) (.slice (some ⟨b, off, none⟩) es.length c) w W) := Lib.hid ⟨⟨y0, y1, y2, y3, y4⟩, HS.out⟩
  have HKJ : Hid (∀ W', ElS b (off + i * 5) (ga es i) (.slice a2 n2 c2) W' ∧ TxS w.heap.size m (.mk k o s v es) (.slice (some ⟨b, off, none⟩) es.length c) w W' → KX W' (ga es i) (.slice a2 n2 c2)) := Lib.hid (fun W' h => by
    obtain ⟨sr', hcr'⟩ := KA.at_ (show KA anyB W' es _ from h.2.2.2.2.2.2.2.1)
    obtain ⟨hk', b', off', e', _, _, z0, z1, z2, z3, z4⟩ := hcr' i hi
    injection e' with e'
    injection e' with e1 e2
    subst e1 e2
    rw [h.1.2.2.2.2] at z4
    injection z4 with z4
    rw [z4]
    exact hk')
  have HIN := Lib.hid (fun W' (h : ElS b (off + i * 5) (ga es i) (.slice a2 n2 c2) W' ∧ TxS w.heap.size m (.mk k o s v es) (.slice (some ⟨b, off, none⟩) es.length c) w W') => HH.out (.slice a2 n2 c2) W' (HKJ.out W' h) h.2.2.2.2.2.2.2.2.1 h.2.2.2.2.2.2.2.2.2)
  have HPA := Lib.hid (fun W' (h : ElS b (off + i * 5) (ga es i) (.slice a2 n2 c2) W' ∧ TxS w.heap.size m (.mk k o s v es) (.slice (some ⟨b, off, none⟩) es.length c) w W') => prec_any m (ga es i) (.slice a2 n2 c2) W' h.2.2.2.2.2.2.2.2.1 HOA.out ⟨_, _, _, rfl⟩)
  have HPE := Lib.hid (fun W' (h : ElS b (off + i * 5) (ga es i) (.slice a2 n2 c2) W' ∧ TxS w.heap.size m (.mk k o s v es) (.slice (some ⟨b, off, none⟩) es.length c) w W') => prec_any m (.mk k o s v es) (.slice (some ⟨b, off, none⟩) es.length c) W' h.2.2.2.2.2.2.2.2.1 HOE.out ⟨_, _, _, rfl⟩)
  simp only [exV] at HIN HPA
  change Hid (∀ W', ElS b (off + i * 5) (ga es i) (.slice a2 n2 c2) W' ∧ TxS w.heap.size m (.mk k o s v es) (.slice (some ⟨b, off, none⟩) es.length c) w W' → Calls Tryz.prog 95 #[.agg #[.map (some m)], .agg #[.int .i64 (Ex.mk k o s v es).k, .int .i64 (Ex.mk k o s v es).o, .string (Ex.mk k o s v es).s, .int .i64 (Ex.mk k o s v es).v, .slice (some ⟨b, off, none⟩) es.length c]] W' fun x w' => x = .returned (.int .i64 (pcE o)) ∧ Below W'.heap.size W' w') at HPE
  change Hid (∀ W', ElS b (off + i * 5) (ga es i) (.slice a2 n2 c2) W' ∧ TxS w.heap.size m (.mk k o s v es) (.slice (some ⟨b, off, none⟩) es.length c) w W' → Calls Tryz.prog 29 #[.agg #[.map (some m)], .agg #[.int .i64 (ga es i).k, .int .i64 (ga es i).o, .string (ga es i).s, .int .i64 (ga es i).v, .slice a2 n2 c2]] W' fun x w' => x = .returned (.string t) ∧ Below W'.heap.size W' w') at HIN
  clear hcr g0 g1 g2 g3 g4 g5 g6 g7 g8 y0 y1 y2 y3 y4 hKj
  go_enter Tryz.func69, Tryz.ntmps69
  go_wp2_with fail
  rw [HW.out]
  go_region_held3 (fun w' => ElS b (off + i * 5) (ga es i) (.slice a2 n2 c2) w' ∧ TxS w.heap.size m (.mk k o s v es) (.slice (some ⟨b, off, none⟩) es.length c) w w')
    (first | exact ⟨HL.out.1.keep ((Below.refl _ _).drew), TxS.drew HL.out.2⟩ | exact ⟨ElS.keep (And.left (by assumption : ElS b (off + i * 5) (ga es i) (.slice a2 n2 c2) _ ∧ _)) (by assumption), TxS.keep (And.right (by assumption : ElS b (off + i * 5) (ga es i) (.slice a2 n2 c2) _ ∧ _)) (by assumption)⟩)
    (first | (go_at_call 29; (with_reducible refine (HIN.out _ (by assumption)).mono ?_); rintro x w6 ⟨rfl, b6⟩))
  have HL6 : Hid (ElS b (off + i * 5) (ga es i) (.slice a2 n2 c2) w6 ∧ TxS w.heap.size m (.mk k o s v es) (.slice (some ⟨b, off, none⟩) es.length c) w w6) := Lib.hid (by assumption)
  obtain ⟨oa, hoa⟩ : ∃ x, (ga es i).o = x := ⟨_, rfl⟩
  obtain ⟨pa, hpa⟩ : ∃ x, pcE (ga es i).o = x := ⟨_, rfl⟩
  obtain ⟨pe, hpe⟩ : ∃ x, pcE o = x := ⟨_, rfl⟩
  rw [hpa] at HPA
  rw [hpe] at HPE
  have HR : Hid (paB i o (ga es i).o t = if pa < pe ∨ (pa = pe ∧ (i = 1 ∨ pe = 3)) then ⟨#[40]⟩ ++ t ++ ⟨#[41]⟩ else t) := Lib.hid (by unfold paB; rw [hpa, hpe])
  clear hoa hpa hpe
  go_wp2_with fail
  go_region_held3 (fun w' => ElS b (off + i * 5) (ga es i) (.slice a2 n2 c2) w' ∧ TxS w.heap.size m (.mk k o s v es) (.slice (some ⟨b, off, none⟩) es.length c) w w')
    (first | exact ⟨HL6.out.1.keep ((Below.refl _ _).drew), TxS.drew HL6.out.2⟩ | exact ⟨ElS.keep (And.left (by assumption : ElS b (off + i * 5) (ga es i) (.slice a2 n2 c2) _ ∧ _)) (by assumption), TxS.keep (And.right (by assumption : ElS b (off + i * 5) (ga es i) (.slice a2 n2 c2) _ ∧ _)) (by assumption)⟩)
    (first | (go_at_call 95; (with_reducible refine (HPA.out _ (by assumption)).mono ?_); rintro x w7 ⟨rfl, b7⟩) | (go_at_call 95; (with_reducible refine (HPE.out _ (by assumption)).mono ?_); rintro x w8 ⟨rfl, b8⟩))
  have hbb : TxS w.heap.size m (.mk k o s v es) (.slice (some ⟨b, off, none⟩) es.length c) w w8 := And.right (by assumption : ElS b (off + i * 5) (ga es i) (.slice a2 n2 c2) w8 ∧ _)
  have HB : Hid (Below w.heap.size w w8) := Lib.hid hbb.2.2.2.2.2.2.2.2
  clear hbb
  have z1 : (⟨#[40]⟩ : ByteArray).size + t.size ≤ 9223372036854775807 := by show 1 + t.size ≤ _; omega
  have z2 : ((⟨#[40]⟩ : ByteArray) ++ t).size + (⟨#[41]⟩ : ByteArray).size ≤ 9223372036854775807 := by rw [ByteArray.size_append]; show 1 + t.size + 1 ≤ _; omega
  have z3 : 1 + t.size ≤ 9223372036854775807 := by omega
  have z4 : 1 + t.size + 1 ≤ 9223372036854775807 := by omega
  by_cases c1 : pa < pe
  · skip
    have HR2 : Hid (paB i o (ga es i).o t = ⟨#[40]⟩ ++ t ++ ⟨#[41]⟩) := Lib.hid (by rw [HR.out, if_pos (by omega)])
    skip
    go_wp2
    go_ret
    exact ⟨by rw [HR2.out]; first | rfl | simp, HB.out⟩
  · by_cases c2 : pa = pe
    · obtain ⟨q1, q2⟩ := ieq c2
      by_cases c3 : i = 1
      · obtain ⟨p1, p2⟩ := ieq (show (i : Int) = 1 by omega)
        have HR2 : Hid (paB i o (ga es i).o t = ⟨#[40]⟩ ++ t ++ ⟨#[41]⟩) := Lib.hid (by rw [HR.out, if_pos (by omega)])
        clear c2 c3
        go_wp2
        go_ret
        exact ⟨by rw [HR2.out]; first | rfl | simp, HB.out⟩
      · obtain ⟨p1, p2⟩ := ine (show ¬ (i : Int) = 1 by omega)
        by_cases c4 : pe = 3
        · obtain ⟨r1, r2⟩ := ieq c4
          have HR2 : Hid (paB i o (ga es i).o t = ⟨#[40]⟩ ++ t ++ ⟨#[41]⟩) := Lib.hid (by rw [HR.out, if_pos (by omega)])
          clear c2 c3 c4
          go_wp2
          go_ret
          exact ⟨by rw [HR2.out]; first | rfl | simp, HB.out⟩
        · obtain ⟨r1, r2⟩ := ine c4
          have HR2 : Hid (paB i o (ga es i).o t = t) := Lib.hid (by rw [HR.out, if_neg (by omega)])
          clear c2 c3 c4
          go_wp2
          go_ret
          exact ⟨by rw [HR2.out]; first | rfl | simp, HB.out⟩
    · obtain ⟨q1, q2⟩ := ine c2
      have HR2 : Hid (paB i o (ga es i).o t = t) := Lib.hid (by rw [HR.out, if_neg (by omega)])
      clear c2
      go_wp2
      go_ret
      exact ⟨by rw [HR2.out]; first | rfl | simp, HB.out⟩

end Go.Proofs.YtdgphhdkeikbaaaGreatDoor

/-! ### ExText: The printer: the text of an expression. -/
namespace Go.Proofs.YtdgphhdkeikbaaaGreatDoor
set_option linter.unusedSimpArgs false
set_option linter.unusedVariables false
open Go.RowKit Go.Shelf Go.Sort

def TabI (w : World) : Prop := Lib.TabIs Tryz.prog w "internal/strconv.uint64pow10" .u64 Lib.pow10Tab
theorem below_growN (w : World) (k : Nat) (os : Array Obj) : Below w.heap.size w (grow (w.drewN k) os) :=
  ⟨rfl, rfl, rfl, by simp [grow], fun i hi => heap_grow_old (w.drewN k) os hi⟩
def dcB (n : Int) : ByteArray := ⟨(Lib.itoa n).toArray⟩
theorem itoa_any (n : Int) (h0 : 0 ≤ n) (h1 : n ≤ 1099511627776) (w : World) (hT : TabI w) : Calls Tryz.prog 68 #[.int .i64 n] w fun e w' => e = .returned (.string (dcB n)) ∧ Below w.heap.size w w' := by
  refine (Any.strconv_Itoa Tryz.itoaM n (by omega) (by omega) w hT).mono ?_
  rintro _ _ ⟨rfl, k, os, rfl⟩
  exact ⟨rfl, below_growN w k os⟩
mutual
def txE : Ex → ByteArray
  | .mk k o s v es => if k = 1 then dcB v else if k = 2 then s else if k = 3 then sgB o ++ paB 0 o (ga es 0).o ((txL es).headD .empty) else paB 0 o (ga es 0).o ((txL es).headD .empty) ++ ⟨#[32]⟩ ++ sgB o ++ ⟨#[32]⟩ ++ paB 1 o (ga es 1).o ((txL es).tail.headD .empty)
def txL : List Ex → List ByteArray
  | [] => []
  | a :: r => txE a :: txL r
end
theorem txL_0 (es : List Ex) (h : 0 < es.length) : (txL es).headD .empty = txE (ga es 0) := by
  cases es with
  | nil => simp at h
  | cons a r => simp [txL, ga]
theorem txL_1 (es : List Ex) (h : 1 < es.length) : (txL es).tail.headD .empty = txE (ga es 1) := by
  match es, h with
  | a :: b :: r, _ => simp [txL, ga]
theorem TabI.below {w w' : World} (h : TabI w) (hb : Below w.heap.size w w') : TabI w' := by
  unfold TabI Lib.TabIs World.var? at *
  cases hg : Tryz.prog.globalNamed "internal/strconv.uint64pow10" with
  | none => rw [hg] at h; simp at h
  | some g =>
    rw [hg] at h
    simp only [Option.bind_some] at h ⊢
    cases ho : w.heap[g]? with
    | none => rw [ho] at h; simp at h
    | some ob =>
      have hlt := (Array.getElem?_eq_some_iff.1 ho).1
      rw [hb.block g hlt]
      exact h
theorem catS (a b : ByteArray) (h : a.size + b.size ≤ 9223372036854775807) (W : World) : (binOp .add 9 (.string a) (.string b)).run Tryz.prog W = .ok (.string (a ++ b)) W := by
  have h1 := run_string_add_sum (P := Tryz.prog) W a b h
  have hu := Tryz.underlying9
  first
    | (simp [binOp, h1, hu]; done)
    | (unfold binOp; simp [run_underlying hu, h1]; done)
    | (go_simp)
theorem fieldZ (W : World) : (Instr.field TOp (.agg #[.string ⟨#[]⟩, .int .i64 0, .int .i64 0, .int .i64 0, .nilFunc]) 0).run Tryz.prog W = .ok (.string ⟨#[]⟩) W := by kernel_rfl
theorem fieldO (a : ByteArray) (b c d : Int) (f : Fn) (fr : Array Value) (W : World) : (Instr.field TOp (.agg #[.string a, .int .i64 b, .int .i64 c, .int .i64 d, .func f #[] fr]) 0).run Tryz.prog W = .ok (.string a) W := by kernel_rfl
set_option maxRecDepth 100000 in
set_option maxHeartbeats 8000000 in
theorem text_any (m : Nat) (e : Ex) : ∀ (sl : Value) (w : World), KX w e sl → TabO m w → TabI w → prE e = 0 → (∀ x : Ex, szE x ≤ szE e → prE x = 0 → (txE x).size ≤ 1000000) →
    Calls Tryz.prog 29 #[.agg #[.map (some m)], exV e sl] w fun x w' => x = .returned (.string (txE e)) ∧ Below w.heap.size w w' := by
  induction e using Ex.ind with
  | h k o s v es ih =>
  intro sl w hK hM hI hP hL
  obtain ⟨a, c, sf, rfl, h1, h2, hc⟩ := KA.inv hK
  have h1 : es.length ≤ c := h1
  have HS := Lib.hid (txS_start m k o s v es a c w hK hM)
  have HI := Lib.hid (hI.below (twoBlocks w (.cells #[.map (some m)] TPr (0, 0)) (.cells #[.int .i64 k, .int .i64 o, .string s, .int .i64 v, .slice a es.length c] TX (0, 0))).2.2)
  have HA := Lib.hid (fun i (hi : i < es.length) (hi2 : i ≤ 1) W (hKW : KX W (.mk k o s v es) (.slice a es.length c)) (hMW : TabO m W) (hIW : TabI W) => arg_any m i (.mk k o s v es) (.slice a es.length c) W (txE (ga es i)) hKW hMW hP hi hi2 (by have := hL (ga es i) (by have := szE_arg (ga_mem hi); simp only [szE]; omega) (prE_arg hP _ (ga_mem hi)); omega) (fun sr W' k1 k2 k3 => ih (ga es i) (ga_mem hi) sr W' k1 k2 (hIW.below k3) (prE_arg hP _ (ga_mem hi)) (fun x hx hpx => hL x (by have := szE_arg (ga_mem hi); simp only [szE] at *; omega) hpx)))
  obtain ⟨W, hW⟩ : ∃ W, (w.alloc (.cells #[.map (some m)] TPr (0, 0))).alloc (.cells #[.int .i64 k, .int .i64 o, .string s, .int .i64 v, .slice a es.length c] TX (0, 0)) = W := ⟨_, rfl⟩
  rw [hW] at HS HI
  have HW := Lib.hid hW
  have hp0 := prP_zero.1 (prE_zero.1 hP).1
  clear hK hM hI hc ih hW
  change Calls Tryz.prog 29 #[.agg #[.map (some m)], .agg #[.int .i64 k, .int .i64 o, .string s, .int .i64 v, .slice a es.length c]] w _
  obtain ⟨g0, g1, g2, g3, g4, g5, g6, g7, g8⟩ := HS.out
  change W.cell? ⟨w.heap.size + 1, 0, none⟩ = some (.int .i64 k) at g1
  change W.cell? ⟨w.heap.size + 1, 1, none⟩ = some (.int .i64 o) at g2
  change W.cell? ⟨w.heap.size + 1, 2, none⟩ = some (.string s) at g3
  change W.cell? ⟨w.heap.size + 1, 3, none⟩ = some (.int .i64 v) at g4
  have HB := Lib.hid g8
  rcases hp0 with ⟨rfl, rfl, rfl, hv0, hv1, hn⟩ | ⟨rfl, rfl, hnm, rfl, hn⟩ | ⟨rfl, ho, rfl, rfl, hn⟩ | ⟨rfl, ho1, ho2, rfl, rfl, hn⟩
  · have HN := Lib.hid hn
    clear hn
    have hl := g7.look0 false
    have hfl := fieldZ
    have HIT := Lib.hid (itoa_any v hv0 hv1 W HI.out)
    have HR : Hid (txE (.mk 1 0 .empty v es) = dcB v) := Lib.hid (by simp [txE])
    rw [← HW.out] at hl
    simp only [Bool.false_eq_true, if_false] at hl
    clear hL hP g6 g7 g8 HA
    go_enter Tryz.func29, Tryz.ntmps29
    go_wp2_with fail
    rw [HW.out]
    refine HIT.out.mono ?_
    rintro x w4 ⟨rfl, b4⟩
    have HB4 := Lib.hid (HB.out.trans (b4.mono HB.out.size))
    clear b4
    go_wp2
    go_ret
    exact ⟨by rw [HR.out]; rfl, HB4.out⟩
  · have HN := Lib.hid hn
    clear hn
    have hl := g7.look0 false
    have hfl := fieldZ
    have HR : Hid (txE (.mk 2 0 s 0 es) = s) := Lib.hid (by simp [txE])
    rw [← HW.out] at hl
    simp only [Bool.false_eq_true, if_false] at hl
    clear hL hP g6 g7 g8 HA
    go_enter Tryz.func29, Tryz.ntmps29
    go_wp2
    go_ret
    exact ⟨by rw [HR.out]; rfl, by rw [HW.out]; exact HB.out⟩
  · have HN := Lib.hid hn
    clear hn
    have hoo : 1 ≤ o ∧ o ≤ 15 := by omega
    obtain ⟨f, hf, _, hl⟩ := g7.look1 hoo.1 hoo.2
    obtain ⟨fn, fr, rfl⟩ := hf.isF
    have hfl := fun W => fieldO (sgB o) (pcO o) (tkO o) (gvO o) fn fr W
    have HT0 := Lib.hid (txL_0 es (by rw [HN.out]; omega))
    have HR : Hid (txE (.mk 3 o .empty 0 es) = sgB o ++ paB 0 o (ga es 0).o (txE (ga es 0))) := Lib.hid (by simp [txE, ← HT0.out])
    have HC := Lib.hid (HA.out 0 (by rw [HN.out]; omega) (by omega) W g6 g7 HI.out)
    obtain ⟨u, hu⟩ : ∃ u, paB 0 o (ga es 0).o (txE (ga es 0)) = u := ⟨_, rfl⟩
    have hsz := hL (.mk 3 o .empty 0 es) (Nat.le_refl _) hP
    rw [HR.out, hu, ByteArray.size_append] at hsz
    rw [hu] at HR
    change Hid (Calls Tryz.prog 69 #[.agg #[.map (some m)], .agg #[.int .i64 3, .int .i64 o, .string .empty, .int .i64 0, .slice a es.length c], .int .i64 0] W fun x w' => x = .returned (.string (paB 0 o (ga es 0).o (txE (ga es 0)))) ∧ Below W.heap.size W w') at HC
    rw [hu] at HC
    rw [← HW.out] at hl
    simp only [opA] at hl
    have hsz2 : (sgB o).size + u.size ≤ 9223372036854775807 := by omega
    clear hL hP g6 g7 g8 HA hoo hf hu hsz
    go_enter Tryz.func29, Tryz.ntmps29
    go_wp2_with fail
    try rw [HW.out]
    refine HC.out.mono ?_
    rintro x w4 ⟨rfl, b4⟩
    have HB4 := Lib.hid (HB.out.trans (b4.mono HB.out.size))
    clear b4
    go_wp2
    go_ret
    exact ⟨by rw [HR.out]; rfl, HB4.out⟩
  · have HN := Lib.hid hn
    clear hn
    have hoo : 1 ≤ o ∧ o ≤ 15 := by omega
    obtain ⟨f, hf, _, hl⟩ := g7.look1 hoo.1 hoo.2
    obtain ⟨fn, fr, rfl⟩ := hf.isF
    have hfl := fun W => fieldO (sgB o) (pcO o) (tkO o) (gvO o) fn fr W
    have HT0 := Lib.hid (txL_0 es (by rw [HN.out]; omega))
    have HT1 := Lib.hid (txL_1 es (by rw [HN.out]; omega))
    have HR : Hid (txE (.mk 4 o .empty 0 es) = paB 0 o (ga es 0).o (txE (ga es 0)) ++ ⟨#[32]⟩ ++ sgB o ++ ⟨#[32]⟩ ++ paB 1 o (ga es 1).o (txE (ga es 1))) := Lib.hid (by simp only [txE, ← HT0.out, ← HT1.out]; rfl)
    have HC0 := Lib.hid (fun W' (h : TxS w.heap.size m (.mk 4 o .empty 0 es) (.slice a es.length c) w W' ∧ TabI W') => HA.out 0 (by rw [HN.out]; omega) (by omega) W' h.1.2.2.2.2.2.2.1 h.1.2.2.2.2.2.2.2.1 h.2)
    have HC1 := Lib.hid (fun W' (h : TxS w.heap.size m (.mk 4 o .empty 0 es) (.slice a es.length c) w W' ∧ TabI W') => HA.out 1 (by rw [HN.out]; omega) (by omega) W' h.1.2.2.2.2.2.2.1 h.1.2.2.2.2.2.2.2.1 h.2)
    simp only [exV, show ((0 : Nat) : Int) = 0 from rfl, show ((1 : Nat) : Int) = 1 from rfl] at HC0 HC1
    obtain ⟨u0, hu0⟩ : ∃ u, paB 0 o (ga es 0).o (txE (ga es 0)) = u := ⟨_, rfl⟩
    obtain ⟨u1, hu1⟩ : ∃ u, paB 1 o (ga es 1).o (txE (ga es 1)) = u := ⟨_, rfl⟩
    have e0 : paB 0 (Ex.mk 4 o .empty 0 es).o (ga (Ex.mk 4 o .empty 0 es).es 0).o (txE (ga es 0)) = u0 := hu0
    have e1 : paB 1 (Ex.mk 4 o .empty 0 es).o (ga (Ex.mk 4 o .empty 0 es).es 1).o (txE (ga es 1)) = u1 := hu1
    rw [e0] at HC0
    rw [e1] at HC1
    have hsz := hL (.mk 4 o .empty 0 es) (Nat.le_refl _) hP
    rw [hu0, hu1] at HR
    rw [HR.out] at hsz
    simp only [ByteArray.size_append] at hsz
    have s1 : (⟨#[32]⟩ : ByteArray).size = 1 := rfl
    rw [s1] at hsz
    have z1 : u0.size + (⟨#[32]⟩ : ByteArray).size ≤ 9223372036854775807 := by rw [s1]; omega
    have z2 : (u0 ++ (⟨#[32]⟩ : ByteArray)).size + (sgB o).size ≤ 9223372036854775807 := by simp only [ByteArray.size_append, s1]; omega
    have z3 : (u0 ++ (⟨#[32]⟩ : ByteArray) ++ sgB o).size + (⟨#[32]⟩ : ByteArray).size ≤ 9223372036854775807 := by simp only [ByteArray.size_append, s1]; omega
    have z4 : (u0 ++ (⟨#[32]⟩ : ByteArray) ++ sgB o ++ (⟨#[32]⟩ : ByteArray)).size + u1.size ≤ 9223372036854775807 := by simp only [ByteArray.size_append, s1]; omega
    have x1 : ¬ 9223372036854775807 < u0.size + (⟨#[32]⟩ : ByteArray).size := Nat.not_lt.2 z1
    have x2 : ¬ 9223372036854775807 < (u0 ++ (⟨#[32]⟩ : ByteArray)).size + (sgB o).size := Nat.not_lt.2 z2
    have x3 : ¬ 9223372036854775807 < (u0 ++ (⟨#[32]⟩ : ByteArray) ++ sgB o).size + (⟨#[32]⟩ : ByteArray).size := Nat.not_lt.2 z3
    have x4 : ¬ 9223372036854775807 < (u0 ++ (⟨#[32]⟩ : ByteArray) ++ sgB o ++ (⟨#[32]⟩ : ByteArray)).size + u1.size := Nat.not_lt.2 z4
    have x5 : ¬ 9223372036854775807 < u0.size + 1 := by omega
    have x6 : ¬ 9223372036854775807 < u0.size + 1 + (sgB o).size := by omega
    have x7 : ¬ 9223372036854775807 < u0.size + 1 + (sgB o).size + 1 := by omega
    have x8 : ¬ 9223372036854775807 < u0.size + 1 + (sgB o).size + 1 + u1.size := by omega
    have x9 : ¬ 9223372036854775807 < u0.size + (⟨#[32]⟩ : ByteArray).size + (sgB o).size := by rw [s1]; omega
    have xa : ¬ 9223372036854775807 < u0.size + (⟨#[32]⟩ : ByteArray).size + (sgB o).size + (⟨#[32]⟩ : ByteArray).size := by rw [s1]; omega
    have xb : ¬ 9223372036854775807 < u0.size + (⟨#[32]⟩ : ByteArray).size + (sgB o).size + (⟨#[32]⟩ : ByteArray).size + u1.size := by rw [s1]; omega
    have y1 : u0.size + 1 ≤ 9223372036854775807 := by omega
    have y2 : u0.size + 1 + (sgB o).size ≤ 9223372036854775807 := by omega
    have y3 : u0.size + 1 + (sgB o).size + 1 ≤ 9223372036854775807 := by omega
    have y4 : u0.size + 1 + (sgB o).size + 1 + u1.size ≤ 9223372036854775807 := by omega
    have HL : Hid (TxS w.heap.size m (.mk 4 o .empty 0 es) (.slice a es.length c) w W ∧ TabI W) := Lib.hid ⟨HS.out, HI.out⟩
    rw [← HW.out] at hl
    simp only [opA] at hl
    clear hL hP g6 g7 g8 HA hoo hf hu0 hu1 hsz e0 e1 s1
    go_enter Tryz.func29, Tryz.ntmps29
    go_wp2_with fail
    try rw [HW.out]
    have q1 := catS u0 ⟨#[32]⟩ z1
    have q2 := catS _ (sgB o) z2
    have q3 := catS _ ⟨#[32]⟩ z3
    have q4 := catS _ u1 z4
    clear hl hfl g0 g1 g2 g3 g4 g5
    go_region_held3 (fun w' => TxS w.heap.size m (.mk 4 o .empty 0 es) (.slice a es.length c) w w' ∧ TabI w')
      (first | assumption | exact ⟨TxS.drew HL.out.1, HL.out.2.below ((Below.refl _ _).drew)⟩ | exact ⟨TxS.keep (And.left (by assumption : TxS w.heap.size m (.mk 4 o .empty 0 es) (.slice a es.length c) w _ ∧ TabI _)) (by assumption), TabI.below (And.right (by assumption : TxS w.heap.size m (.mk 4 o .empty 0 es) (.slice a es.length c) w _ ∧ TabI _)) (by assumption)⟩)
      (first | (go_at_call 69; (with_reducible refine (HC0.out _ (by assumption)).mono ?_); rintro x w6 ⟨rfl, b6⟩) | (go_at_call 69; (with_reducible refine (HC1.out _ (by assumption)).mono ?_); rintro x w7 ⟨rfl, b7⟩))
    have hbb : TxS w.heap.size m (.mk 4 o .empty 0 es) (.slice a es.length c) w w7 := And.left (by assumption : TxS w.heap.size m (.mk 4 o .empty 0 es) (.slice a es.length c) w w7 ∧ TabI w7)
    have HB7 : Hid (Below w.heap.size w w7) := Lib.hid hbb.2.2.2.2.2.2.2.2
    clear hbb
    go_wp2
    go_ret
    exact ⟨by rw [HR.out]; rfl, HB7.out⟩
end Go.Proofs.YtdgphhdkeikbaaaGreatDoor

/-! ### ExPr: What the program's Print returns. -/
namespace Go.Proofs.YtdgphhdkeikbaaaGreatDoor
set_option linter.unusedSimpArgs false
set_option linter.unusedVariables false
open Go.RowKit

def txF (e : Ex) : ByteArray := if ckE e = 0 then txE e else .empty
abbrev PrS (b : Nat) (e : Ex) (sl : Value) (w w' : World) : Prop := w'.cell? ⟨b, 0, none⟩ = some (.int .i64 e.k) ∧ w'.cell? ⟨b, 1, none⟩ = some (.int .i64 e.o) ∧ w'.cell? ⟨b, 2, none⟩ = some (.string e.s) ∧ w'.cell? ⟨b, 3, none⟩ = some (.int .i64 e.v) ∧ w'.cell? ⟨b, 4, none⟩ = some sl ∧ KX w' e sl ∧ TabI w' ∧ Below w.heap.size w w'
theorem prS_keep {b : Nat} {e : Ex} {sl : Value} {w w' w2 : World} (h : PrS b e sl w w') (hb : Below w'.heap.size w' w2) : PrS b e sl w w2 := by
  obtain ⟨h0, h1, h2, h3, h4, h5, h6, h7⟩ := h
  exact ⟨cell_laterZ hb h0, cell_laterZ hb h1, cell_laterZ hb h2, cell_laterZ hb h3, cell_laterZ hb h4, h5.carry hb, h6.below hb, h7.trans (hb.mono h7.size)⟩
theorem prS_drew {b : Nat} {e : Ex} {sl : Value} {w w' : World} (h : PrS b e sl w w') : PrS b e sl w w'.drew := prS_keep h ((Below.refl _ _).drew)
set_option maxRecDepth 100000 in
set_option maxHeartbeats 4000000 in
theorem Print_any (e : Ex) (sl : Value) (w : World) (hK : KX w e sl) (hI : TabI w) (hf : fitE e) (hL : ∀ x : Ex, szE x ≤ 100 → prE x = 0 → (txE x).size ≤ 1000000) :
    Calls Tryz.prog 14 #[exV e sl] w fun x w' => x = .returned (.tuple #[.string (txF e), .int .i64 (ckE e)]) ∧ Below w.heap.size w w' := by
  obtain ⟨sa, sc, sf, rfl, s1, s2, sx⟩ := KA.inv hK
  obtain ⟨W, hW⟩ : ∃ W, w.alloc (.cells #[.int .i64 e.k, .int .i64 e.o, .string e.s, .int .i64 e.v, .slice sa e.es.length sc] TX) = W := ⟨_, rfl⟩
  have hb0 : Below w.heap.size w W := by rw [← hW]; exact (Below.refl _ w).alloc (Nat.le_refl _) _
  have HX0 : Hid (AtX W w.heap.size 0 e (.slice sa e.es.length sc)) := Lib.hid (by rw [← hW]; exact boxX w e.k e.o e.s e.v _ e.es)
  have HIN := Lib.hid (check_any e _ W (hK.carry hb0) hf)
  have HB0 := Lib.hid hb0
  have HW := Lib.hid hW
  have HK0 := Lib.hid (hK.carry hb0)
  have HI0 := Lib.hid (hI.below hb0)
  have HL := Lib.hid hL
  simp only [exV] at HIN ⊢
  clear hb0 hK hf hI hW sx hL
  go_enter Tryz.func14, Tryz.ntmps14
  go_wp2_with fail
  rw [HW.out]
  refine HIN.out.mono ?_
  rintro x w4 ⟨rfl, b4⟩
  have HB4 := Lib.hid (HB0.out.trans (b4.mono HB0.out.size))
  have HX4 := Lib.hid (HX0.out.keep (b4.block _ HX0.out.lt))
  have HK4 := Lib.hid (HK0.out.carry b4)
  have HI4 := Lib.hid (HI0.out.below b4)
  clear b4 HIN HX0 HK0 HI0
  by_cases h : ckE e = 0
  · obtain ⟨q1, q2⟩ := ieq h
    have HE : Hid (txF e = txE e) := Lib.hid (by unfold txF; rw [if_pos h])
    have HC := Lib.hid (ckE_ok.1 h)
    have HQ := Lib.hid h
    have HS : Hid (PrS w.heap.size e (.slice sa e.es.length sc) w w4) := Lib.hid (by
      obtain ⟨x0, x1, x2, x3, x4⟩ := HX4.out
      simp only [Nat.zero_add] at x1 x2 x3 x4
      exact ⟨x0, x1, x2, x3, x4, HK4.out, HI4.out, HB4.out⟩)
    have HOP : Hid (∀ W : World, Calls Tryz.prog 28 #[] W fun x w' => x = .returned (.map (some W.heap.size)) ∧ TabO W.heap.size w' ∧ Below W.heap.size W w') := Lib.hid (fun W => operators_any W)
    have HTX := Lib.hid (fun m W (h : PrS w.heap.size e (.slice sa e.es.length sc) w W) (ht : TabO m W) => text_any m e (.slice sa e.es.length sc) W h.2.2.2.2.2.1 ht h.2.2.2.2.2.2.1 HC.out.2.2 (fun x hx hp => HL.out x (Nat.le_trans hx HC.out.1) hp))
    simp only [exV] at HTX
    rw [h] at q1 q2 ⊢
    clear h HX4 HK4 HI4 HB4 q1 q2
    go_wp2_with fail
    go_region_held3 (fun w' => PrS w.heap.size e (.slice sa e.es.length sc) w w')
      (first | assumption | exact prS_drew HS.out | exact prS_keep (by assumption) (by assumption))
      (first | (go_at_call 28; (with_reducible refine (HOP.out _).mono ?_); rintro x w6 ⟨rfl, ht, b6⟩) | (go_at_call 29; (with_reducible refine (HTX.out _ _ (by assumption) (by first | assumption | simpa using ht)).mono ?_); rintro x w7 ⟨rfl, b7⟩))
    have HB7 : Hid (Below w.heap.size w w7) := Lib.hid (by assumption : PrS w.heap.size e (.slice sa e.es.length sc) w w7).2.2.2.2.2.2.2
    go_wp2
    go_ret2
    exact ⟨by rw [HE.out, HQ.out]; rfl, HB7.out⟩
  · obtain ⟨q1, q2⟩ := ine h
    have HE : Hid (txF e = .empty) := Lib.hid (by unfold txF; rw [if_neg h])
    clear h
    go_wp2
    go_ret2
    exact ⟨by rw [HE.out]; rfl, HB4.out⟩

end Go.Proofs.YtdgphhdkeikbaaaGreatDoor

/-! ### ExTxB: How long a text can be. -/
namespace Go.Proofs.YtdgphhdkeikbaaaGreatDoor
set_option linter.unusedSimpArgs false
set_option linter.unusedVariables false
open Go.RowKit

theorem decLen : ∀ (k u : Nat), u < 10 ^ (k + 1) → (Lib.decDigits u).length ≤ k + 1 := by
  intro k
  induction k with
  | zero => intro u h; rw [Lib.decDigits, dif_pos (by simpa using h)]; simp
  | succ k ih =>
    intro u h
    by_cases h1 : u < 10
    · rw [Lib.decDigits, dif_pos h1]; simp
    · rw [Lib.decDigits, dif_neg h1, List.length_append]
      have := ih (u / 10) (by rw [Nat.pow_succ] at h; omega)
      simp only [List.length_cons, List.length_nil]
      omega
theorem dcB_size {v : Int} (h0 : 0 ≤ v) (h1 : v ≤ 1099511627776) : (dcB v).size ≤ 13 := by
  obtain ⟨u, rfl⟩ := Int.eq_ofNat_of_zero_le h0
  have := decLen 12 u (by omega)
  show (Lib.itoa (u : Int)).toArray.size ≤ 13
  rw [Lib.itoa_nonneg]
  simpa using this
theorem ite_size {c : Prop} [Decidable c] {a b : ByteArray} (ha : a.size ≤ 2) (hb : b.size ≤ 2) : (if c then a else b).size ≤ 2 := by
  by_cases h : c
  · rw [if_pos h]; exact ha
  · rw [if_neg h]; exact hb
theorem sgB_size (o : Int) : (sgB o).size ≤ 2 := by
  unfold sgB
  iterate 14 (refine ite_size (by decide) ?_)
  decide
theorem nmB_size {s : ByteArray} (h : nmB s = true) : s.size ≤ 30 := by
  unfold nmB at h
  have : s.size = s.data.toList.length := (Array.length_toList (xs := s.data)).symm
  rw [this]
  cases hl : s.data.toList with
  | nil => simp
  | cons a r => rw [hl] at h; simp at h; simp; omega
theorem paB_size (i : Nat) (o oa : Int) (t : ByteArray) : (paB i o oa t).size ≤ t.size + 2 := by
  unfold paB
  split
  · rw [ByteArray.size_append, ByteArray.size_append]; show 1 + t.size + 1 ≤ _; omega
  · omega
theorem txE_size (e : Ex) : prE e = 0 → (txE e).size ≤ 60 * szE e := by
  induction e using Ex.ind with
  | h k o s v es ih =>
  intro hP
  have ha := prE_arg hP
  rcases prP_zero.1 (prE_zero.1 hP).1 with ⟨rfl, rfl, rfl, hv0, hv1, hn⟩ | ⟨rfl, rfl, hnm, rfl, hn⟩ | ⟨rfl, ho, rfl, rfl, hn⟩ | ⟨rfl, ho1, ho2, rfl, rfl, hn⟩
  · have := dcB_size hv0 hv1
    simp only [txE, szE, if_true]
    omega
  · have := nmB_size hnm
    have h2 : ¬ (2 : Int) = 1 := by decide
    simp only [txE, szE, if_neg h2, if_true]
    omega
  · match es, hn, ih, ha with
    | [x], _, ih, ha =>
      have h1 := ih x (by simp) (ha x (by simp))
      have h2 := paB_size 0 o (ga [x] 0).o (txE x)
      have h3 := sgB_size o
      have e1 : txE (.mk 3 o .empty 0 [x]) = sgB o ++ paB 0 o (ga [x] 0).o (txE x) := by simp [txE, txL]
      rw [e1, ByteArray.size_append]
      simp only [szE, szL]
      omega
  · match es, hn, ih, ha with
    | [x, y], _, ih, ha =>
      have h1 := ih x (by simp) (ha x (by simp))
      have h1' := ih y (by simp) (ha y (by simp))
      have h2 := paB_size 0 o (ga [x, y] 0).o (txE x)
      have h2' := paB_size 1 o (ga [x, y] 1).o (txE y)
      have h3 := sgB_size o
      have e1 : txE (.mk 4 o .empty 0 [x, y]) = paB 0 o (ga [x, y] 0).o (txE x) ++ ⟨#[32]⟩ ++ sgB o ++ ⟨#[32]⟩ ++ paB 1 o (ga [x, y] 1).o (txE y) := by simp [txE, txL]
      rw [e1]
      simp only [ByteArray.size_append, szE, szL]
      have s1 : (⟨#[32]⟩ : ByteArray).size = 1 := rfl
      omega
theorem txE_short (e : Ex) (h : szE e ≤ 100) (hp : prE e = 0) : (txE e).size ≤ 1000000 := Nat.le_trans (txE_size e hp) (by omega)

end Go.Proofs.YtdgphhdkeikbaaaGreatDoor
