/-
  What the program's Extends and Least of partialorder return; the extensions are listed in ascending order.
-/
import Derived.Test.YtbfeiegjhcjbnaaPoLinMath
namespace Go.Proofs.Ytbfeiegjhcjbnaa
open Go.RowKit

theorem ext_iff {N : Nat} {f : Nat → Nat → Bool} (hL : Low2 N f) (hi : ∀ i, f i i = false) {x : List Nat} : x ∈ extN N f N [] ↔ OrdAll N f x ∧ x.length = N := by
  constructor
  · intro h
    obtain ⟨h1, h2⟩ := ext_sound hL N [] x (OrdAll.nil _ _) h
    exact ⟨h1, by simpa using h2⟩
  · rintro ⟨h1, h2⟩
    have := ext_complete hi x [] h1
    rw [h2] at this
    exact this
theorem ord_next {N : Nat} {f : Nat → Nat → Bool} {out s : List Nat} {u : Nat} (h : OrdAll N f (out ++ u :: s)) (hi : ∀ i, f i i = false) : u < N ∧ freeF N f out u = true := by
  have h1 : OrdP N f (out ++ [u]) := by
    have := h (out.length + 1)
    rw [show out ++ u :: s = (out ++ [u]) ++ s by simp, List.take_append_of_le_length (by simp), List.take_of_length_le (by simp)] at this
    exact this
  have hnd := List.nodup_append.1 h1.nodup
  refine ⟨h1.lt u (by simp), free_of (fun hm => hnd.2.2 u hm u (by simp) rfl) (fun a ha => ?_)⟩
  have h2 := h1.down a u ha (by simp)
  rcases List.mem_append.1 h2 with h2 | h2
  · exact h2
  · simp at h2
    rw [h2, hi u] at ha
    cases ha
theorem po_irr {n : Int} {es : List (Int × Int)} (hp : poE n es = 0) : ∀ i, relG (gN es) i i = false := by
  obtain ⟨N, rfl, hN, hk, hok, ho, ht, _⟩ := po_ok hp
  intro i
  cases e : relG (gN es) i i with
  | false => rfl
  | true =>
    have h1 := (loopK_false.1 ho) i (gN_low hok i i e).1
    rw [e] at h1
    cases h1
/-- What Extends returns. -/
def exB (n : Int) (es : List (Int × Int)) (os : List Int) : Bool := decide (poE n es = 0) && (extN n.toNat (relG (gN es)) n.toNat []).any fun x => decide (intsOf x = os)
theorem intsOf_append (a b : List Nat) : intsOf (a ++ b) = intsOf a ++ intsOf b := by simp [intsOf]
theorem intsOf_inj {a b : List Nat} (h : intsOf a = intsOf b) : a = b := by
  unfold intsOf at h
  exact List.map_inj_right (fun x y h => by omega) |>.1 h
theorem exB_no {n : Int} {es : List (Int × Int)} {os : List Int} {N : Nat} (hp : poE n es = 0) (hn : n = (N : Int)) {out : List Nat} {k : Nat} (hk : k < os.length) (ho : intsOf out = os.take k) (hb : ∀ u : Nat, os[k]?.getD 0 = (u : Int) → u < N → freeF N (relG (gN es)) out u = true → False) : exB n es os = false := by
  cases e : exB n es os with
  | false => rfl
  | true =>
    exfalso
    obtain ⟨N', rfl, _, _, hok, _⟩ := po_ok hp
    obtain rfl : N' = N := by omega
    unfold exB at e
    rw [decide_eq_true hp, Bool.true_and, List.any_eq_true, Int.toNat_natCast] at e
    obtain ⟨x, hx, hd⟩ := e
    simp at hd
    obtain ⟨h1, _⟩ := (ext_iff (gN_low hok) (po_irr hp)).1 hx
    have hkx : k < x.length := by rw [← intsOf_length, hd]; exact hk
    have h2 : x = x.take k ++ x[k] :: x.drop (k + 1) := by simp
    have h3 : x.take k = out := by
      refine intsOf_inj ?_
      rw [ho, ← hd]
      unfold intsOf
      rw [List.map_take]
    rw [h3] at h2
    rw [h2] at h1
    obtain ⟨h4, h5⟩ := ord_next h1 (po_irr hp)
    refine hb x[k] ?_ h4 h5
    rw [← hd]
    simp [intsOf, hkx]
theorem exB_end {n : Int} {es : List (Int × Int)} {os : List Int} {out : List Nat} (hp : poE n es = 0) (ho : intsOf out = os) (hO : OrdAll n.toNat (relG (gN es)) out) : exB n es os = decide ((os.length : Int) = n) := by
  obtain ⟨N, rfl, _, _, hok, _⟩ := po_ok hp
  rw [Int.toNat_natCast] at hO
  unfold exB
  rw [decide_eq_true hp, Bool.true_and, Int.toNat_natCast]
  by_cases hl : (os.length : Int) = (N : Int)
  · rw [decide_eq_true hl, List.any_eq_true]
    refine ⟨out, (ext_iff (gN_low hok) (po_irr hp)).2 ⟨hO, ?_⟩, by simpa using ho⟩
    rw [← intsOf_length, ho]
    omega
  · rw [decide_eq_false hl, List.any_eq_false]
    intro x hx
    obtain ⟨_, h2⟩ := (ext_iff (gN_low hok) (po_irr hp)).1 hx
    simp
    intro e
    refine hl ?_
    rw [← e, intsOf_length, h2]

set_option maxRecDepth 100000 in
set_option maxHeartbeats 4000000 in
theorem extends_any (n : Int) (ad : Option Addr) (cap : Nat) (es : List (Int × Int)) (ao : Option Addr) (co : Nat) (os : List Int) (w : World) (hE : EdgesA w.heap.size w ad es) (hl : es.length ≤ 9223372036854775807) (hO : IntsA w.heap.size w ao os) (hlo : os.length ≤ 9223372036854775807) :
    Calls Try.prog 16 #[.int .i64 n, .slice ad es.length cap, .slice ao os.length co] w fun e w' => e = .returned (.bool (exB n es os)) ∧ Below w.heap.size w w' := by
  have H := strictOrder_any n ad cap es w hE hl
  by_cases hp : poE n es = 0
  · obtain ⟨N, rfl, hN, _, hok, _⟩ := po_ok hp
    have hL := gN_low hok
    have HH : Hid (Calls Try.prog 39 #[.int .i64 (N : Int), .slice ad es.length cap] w fun e w' => ∃ (A : Nat) (g : Nat → Nat), e = .returned (.tuple #[matV A N, .int .i64 0]) ∧ Below w.heap.size w w' ∧ MatK w.heap.size A N N g (relG (gN es)) w') := Lib.hid (H.mono (by
      rintro e w1 ⟨v, rfl, b1, ⟨h, _⟩ | ⟨N', A, g, h1, h2, h3, rfl, h5⟩⟩
      · exact absurd hp h
      · obtain rfl : N = N' := by omega
        exact ⟨A, g, by rw [hp], b1, h5⟩))
    have HNO : Hid (∀ (out : List Nat) (k : Nat), k < os.length → intsOf out = os.take k → (∀ u : Nat, os[k]?.getD 0 = (u : Int) → u < N → freeF N (relG (gN es)) out u = true → False) → exB (N : Int) es os = false) := Lib.hid (fun out k h1 h2 h3 => exB_no hp rfl h1 h2 h3)
    have HEND : Hid (∀ out : List Nat, intsOf out = os → OrdAll N (relG (gN es)) out → exB (N : Int) es os = decide ((os.length : Int) = (N : Int))) := Lib.hid (fun out h1 h2 => exB_end hp h1 (by rw [Int.toNat_natCast]; exact h2))
    generalize relG (gN es) = f at *
    generalize exB (N : Int) es os = z at *
    have HO := Lib.hid hO
    clear H hE hO hp hok
    go_enter Try.func16, Try.ntmps16
    go_wp2_with fail
    refine HH.out.mono ?_
    rintro e w1 ⟨A, g, rfl, b1, hm⟩
    have HEL := Lib.hid (elements_any _ A N g f w1 hm hN)
    have HM := Lib.hid hm
    have HB1 := Lib.hid b1
    clear hm b1
    simp only [matV]
    go_wp2_with fail
    refine HEL.out.mono ?_
    rintro e w2 ⟨G, rfl, hn, b2⟩
    have HM2 := Lib.hid (HM.out.below b2 (Nat.le_refl _))
    have HB2 := Lib.hid (HB1.out.trans (b2.mono HB1.out.size))
    have HN2 := Lib.hid hn
    clear hn b2
    go_wp2_with fail
    go_loopw [9, 24] (fun lv x wr => ∃ (k : Nat) (out : List Nat) (G c B0 : Nat), k ≤ os.length ∧ x = .int .i64 k ∧ lv = .slice (some ⟨G, 0, none⟩) N c ∧ Hid (intsOf out = os.take k ∧ OrdAll N f out) ∧ Hid (NumAt B0 G N c (lefV N f out) wr) ∧ Hid (MatK w.heap.size A N N g f wr) ∧ Hid (Below w.heap.size w wr)) (fun _ x _ => os.length - (intOf x).toNat)
    case atStart => exact ⟨0, [], G, N, _, Nat.zero_le _, rfl, rfl, Lib.hid ⟨rfl, OrdAll.nil _ _⟩, HN2, HM2, HB2⟩
    case round =>
      obtain ⟨k, out, G', c', B0, hk, rfl, rfl, HX, HNk, HMk, HBk⟩ := hrel
      by_cases hkt : k < os.length
      · have k1 : (k : Int) < (os.length : Int) := by omega
        obtain ⟨b, off, rfl, hb, hc⟩ := HO.out k hkt
        have p1 : wr.cell? ⟨b, off + k, none⟩ = some (.int .i64 (os[k]?.getD 0)) := (HBk.out.cell (p := ⟨b, off + k, none⟩) hb).trans hc
        have hno := HNO.out out k hkt HX.out.1
        have hsn : os.take (k + 1) = os.take k ++ [os[k]?.getD 0] := by
          rw [List.take_succ_eq_append_getElem hkt]
          simp [hkt]
        generalize os[k]?.getD 0 = y at *
        have HIS := isElement_any (N : Int) y wr
        clear hc
        by_cases hy : 0 ≤ y ∧ y < (N : Int)
        · obtain ⟨u, rfl⟩ : ∃ u : Nat, y = (u : Int) := ⟨y.toNat, by omega⟩
          have hu : u < N := by omega
          have u1 : (u : Int) < (N : Int) := hy.2
          have p2 := HNk.out.cell hu
          rw [decide_eq_true hy] at HIS
          have HIS := Lib.hid HIS
          have hlf := lefV_free (N := N) (f := f) (out := out) (j := u)
          cases hf : freeF N f out u with
          | true =>
            rw [hf] at hlf
            have hz : lefV N f out u = 0 := by simpa using hlf
            rw [hz] at p2
            have HWT := Lib.hid (without_any _ A N B0 G' c' u g f out wr HMk.out HNk.out hN hL HX.out.2.whole hu hf)
            have HX' : Hid (intsOf (out ++ [u]) = os.take (k + 1) ∧ OrdAll N f (out ++ [u])) := Lib.hid ⟨by rw [intsOf_append, HX.out.1, hsn]; rfl, HX.out.2.snoc hL hu hf⟩
            clear hno hsn hlf hz hf hy
            go_wp2_with fail
            refine HIS.out.mono ?_
            rintro e w4 ⟨rfl, rfl⟩
            go_wp2_with fail
            refine HWT.out.mono ?_
            rintro e w4 ⟨G4, c4, rfl, hn4, b4⟩
            have HN4 := Lib.hid hn4
            have HM4 := Lib.hid (HMk.out.below b4 (Nat.le_refl _))
            have HB4 := Lib.hid (HBk.out.trans (b4.mono HBk.out.size))
            clear hn4 b4
            go_wp2
            go_roundw
            case rel => exact ⟨k + 1, out ++ [u], G4, c4, _, by omega, by go_num, rfl, HX', HN4, HM4, HB4⟩
            case measure => simp [intOf]; omega
          | false =>
            rw [hf] at hlf
            have hz : (lefV N f out u != 0) = true := by simpa using hlf
            generalize lefV N f out u = l at *
            obtain rfl : z = false := hno (fun u' e _ h2 => by
              obtain rfl : u = u' := by omega
              rw [hf] at h2
              cases h2)
            clear hno hsn hlf hf hy
            go_wp2_with fail
            refine HIS.out.mono ?_
            rintro e w4 ⟨rfl, rfl⟩
            go_wp2
            go_ret
            exact ⟨rfl, HBk.out⟩
        · rw [decide_eq_false hy] at HIS
          have HIS := Lib.hid HIS
          obtain rfl : z = false := hno (fun u' e h1 _ => hy ⟨by omega, by omega⟩)
          clear hno hsn hy
          go_wp2_with fail
          refine HIS.out.mono ?_
          rintro e w4 ⟨rfl, rfl⟩
          go_wp2
          go_ret
          exact ⟨rfl, HBk.out⟩
      · obtain rfl : k = os.length := by omega
        have hz := HEND.out out (by rw [HX.out.1, List.take_length]) HX.out.2
        have hd : decide ((os.length : Int) = (N : Int)) = ((os.length : Int) == (N : Int)) := rfl
        have HZ := Lib.hid hz
        clear hz
        go_wp2
        go_ret
        exact ⟨by rw [HZ.out, hd]; rfl, HBk.out⟩
  · have HH : Hid (Calls Try.prog 39 #[.int .i64 n, .slice ad es.length cap] w fun e w' => e = .returned (.tuple #[.slice none 0 0, .int .i64 (poE n es)]) ∧ Below w.heap.size w w') := Lib.hid (H.mono (by
      rintro e w1 ⟨v, rfl, b1, ⟨_, rfl⟩ | ⟨N', A, g, h1, h2, h3, rfl, h5⟩⟩
      · exact ⟨rfl, b1⟩
      · exact absurd h3 hp))
    have hz : exB n es os = false := by unfold exB; rw [decide_eq_false hp]; rfl
    have hpb : (poE n es != 0) = true := by simp [hp]
    rw [hz]
    clear H hE hO hz
    go_enter Try.func16, Try.ntmps16
    go_wp2_with fail
    refine HH.out.mono ?_
    rintro e w1 ⟨rfl, b1⟩
    go_wp2
    go_ret
    exact ⟨rfl, b1⟩

/-- Extends of values that are known. -/
theorem extends_at (n : Int) (v : Value) (es : List (Int × Int)) (ad : Option Addr) (cap : Nat) (x : List Nat) (w : World) (hE : EdgesA w.heap.size w ad es) (hl : es.length ≤ 9223372036854775807) (h : IntsC w v x) :
    Calls Try.prog 16 #[.int .i64 n, .slice ad es.length cap, v] w fun e w' => e = .returned (.bool (exB n es (intsOf x))) ∧ Below w.heap.size w w' := by
  obtain ⟨a, c, rfl, hI, hn⟩ := h
  exact extends_any n ad cap es a c (intsOf x) w hE hl hI hn
/-- What Least returns. -/
def leastL (n : Int) (es : List (Int × Int)) : List Nat := ((exsL n es 1)[0]?).getD []
theorem exs_some {n : Int} {es : List (Int × Int)} (hp : poE n es = 0) : ∃ x, x ∈ extN n.toNat (relG (gN es)) n.toNat [] := by
  have hi := po_irr hp
  obtain ⟨N, rfl, _, _, hok, _, ht, _⟩ := po_ok hp
  rw [Int.toNat_natCast]
  exact ext_exists (gN_low hok) ht hi N [] (OrdAll.nil _ _) (by simp)
theorem exs_one {n : Int} {es : List (Int × Int)} (hp : poE n es = 0) : exsE n es 1 = 0 ∧ 0 < (exsL n es 1).length := by
  have hE : exsE n es 1 = 0 := by unfold exsE; rw [if_pos hp, if_neg (by omega)]
  refine ⟨hE, ?_⟩
  obtain ⟨x, hx⟩ := exs_some hp
  unfold exsL
  rw [if_pos hE, List.length_take]
  have := List.length_pos_of_mem hx
  have h1 : (1 : Int).toNat = 1 := rfl
  omega
theorem least_any (n : Int) (ad : Option Addr) (cap : Nat) (es : List (Int × Int)) (w : World) (hE : EdgesA w.heap.size w ad es) (hl : es.length ≤ 9223372036854775807) :
    Calls Try.prog 25 #[.int .i64 n, .slice ad es.length cap] w (RetIC (leastL n es) (poE n es) w) := by
  have HX := myExtensions n 1 ad cap es w hE hl
  by_cases hp : poE n es = 0
  · obtain ⟨h1, h2⟩ := exs_one hp
    have hq : leastL n es = (exsL n es 1)[0] := by unfold leastL; rw [List.getElem?_eq_getElem h2]; rfl
    rw [hq, hp]
    rw [h1] at HX
    clear hq h1 hp
    generalize exsL n es 1 = M at *
    have HX := Lib.hid HX
    have hM := listsOf_length M
    clear hE
    go_enter Try.func25, Try.ntmps25
    go_wp2_with fail
    refine HX.out.mono ?_
    rintro e w1 ⟨v, rfl, ⟨a, c, rfl, hL, _⟩, b1⟩
    obtain ⟨b, off, a', c', rfl, _, hc, hI, hn⟩ := hL 0 (by rw [hM]; exact h2)
    have hel : elL (listsOf M) 0 = intsOf M[0] := by simp [elL, listsOf, h2]
    rw [hel] at hc hI hn
    rw [Nat.add_zero] at hc
    have hK : Hid (IntsC w1 (.slice a' (intsOf M[0]).length c') M[0]) := Lib.hid ⟨a', c', rfl, hI, hn⟩
    have HB := Lib.hid b1
    have h3 : (0 : Int) < (M.length : Int) := by omega
    rw [hM]
    generalize (intsOf M[0]).length = q at *
    clear hL hI hn b1 hel
    go_wp2
    go_ret2
    exact ⟨_, rfl, hK.out, HB.out⟩
  · have h1 : exsE n es 1 = poE n es := by unfold exsE; rw [if_neg hp]
    have h2 : leastL n es = [] := by unfold leastL exsL; rw [if_neg (by rw [h1]; exact hp)]; rfl
    have hpb : (poE n es != 0) = true := by simp [hp]
    rw [h2]
    rw [h1] at HX
    have HX := Lib.hid HX
    clear hE h1 h2
    go_enter Try.func25, Try.ntmps25
    go_wp2_with fail
    refine HX.out.mono ?_
    rintro e w1 ⟨v, rfl, _, b1⟩
    go_wp2
    go_ret2
    exact ⟨_, rfl, ⟨none, 0, rfl, fun j hj => by simp [intsOf] at hj, by simp [intsOf]⟩, b1⟩

end Go.Proofs.Ytbfeiegjhcjbnaa
