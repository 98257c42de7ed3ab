/-
  What the reference's free and Least of partialorder return.
-/
import Derived.Test.YtbfeiegjhcjbnaaRefChk
import Derived.Test.YtbfeiegjhcjbnaaPoExtends
namespace Go.Proofs.Ytbfeiegjhcjbnaa
open Go.RowKit

def UsedAt (B U N : Nat) (out : List Nat) (W : World) : Prop := W.ownsRow B TBool 1 (.slice (some ⟨U, 0, none⟩) N N) N (boolsV N fun j => out.contains j)
theorem UsedAt.cell {B U N : Nat} {out : List Nat} {W : World} (h : UsedAt B U N out W) {j : Nat} (hj : j < N) : W.cell? ⟨U, j, none⟩ = some (.bool (out.contains j)) := by
  rw [World.ownsRow.cellAt h j (by omega), boolsV_get _ hj]
def frB (g : List (Nat × Nat)) (out : List Nat) (x : Nat) : Bool := g.all fun e => !(e.2 == x && !out.contains e.1)
theorem free_frB {N : Nat} {g : List (Nat × Nat)} {out : List Nat} {x : Nat} (hg : ∀ e, e ∈ g → e.1 < N ∧ e.2 < N) : freeF N (relG g) out x = (!out.contains x && frB g out x) := by
  have h : frB g out x = true ↔ (List.range N).all (fun a => !relG g a x || out.contains a) = true := by
    unfold frB
    rw [List.all_eq_true, List.all_eq_true]
    constructor
    · intro h a _
      cases e : relG g a x with
      | false => rfl
      | true =>
        have := h _ (relG_iff.1 e)
        simpa using this
    · rintro h ⟨a, b⟩ he
      by_cases hb : b = x
      · subst hb
        have h1 := h a (by simpa using (hg _ he).1)
        rw [relG_iff.2 he] at h1
        simpa using h1
      · simp [hb]
  unfold freeF
  rw [Bool.eq_iff_iff, Bool.and_eq_true, Bool.and_eq_true, h]

set_option maxRecDepth 100000 in
set_option maxHeartbeats 4000000 in
theorem free_any (B U N x : Nat) (ad : Option Addr) (cap : Nat) (es : List (Int × Int)) (out : List Nat) (w : World) (hE : EdgesA w.heap.size w ad es) (hk : es.length ≤ 2000) (hok : OkE N es) (hU : UsedAt B U N out w) (hx : x < N) :
    Calls Try.prog 59 #[.slice ad es.length cap, .slice (some ⟨U, 0, none⟩) N N, .int .i64 (x : Int)] w fun e w' => e = .returned (.bool (freeF N (relG (gN es)) out x)) ∧ w = w' := by
  rw [free_frB (gN_lt hok)]
  have HE := Lib.hid hE
  have HOK := Lib.hid hok
  have HU := Lib.hid hU
  have c0 := hU.cell hx
  have x1 : (x : Int) < (N : Int) := by omega
  clear hE hok hU
  cases hox : out.contains x with
  | true =>
    rw [hox] at c0
    clear hox
    go_enter Try.func59, Try.ntmps59
    go_wp2
    go_ret
    exact ⟨rfl, rfl⟩
  | false =>
    rw [hox] at c0
    clear hox
    have HZ : Hid (∀ k u v : Nat, (gN es)[k]? = some (u, v) → v = x → out.contains u = false → frB (gN es) out x = false) := Lib.hid (fun k u v h1 h2 h3 => by
      unfold frB
      rw [List.all_eq_false]
      refine ⟨(u, v), List.mem_of_getElem? h1, ?_⟩
      subst h2
      show ¬ (!(v == v && !out.contains u)) = true
      rw [h3]
      simp)
    have HEND : Hid (frB ((gN es).take es.length) out x = true → frB (gN es) out x = true) := Lib.hid (fun h => by
      rwa [← gN_length, List.take_length] at h)
    have HN : Hid (∀ k u v : Nat, (gN es)[k]? = some (u, v) → ¬ (v = x ∧ out.contains u = false) → frB ((gN es).take k) out x = true → frB ((gN es).take (k + 1)) out x = true) := Lib.hid (fun k u v h1 h2 h3 => by
      obtain ⟨hlt, hg⟩ := List.getElem?_eq_some_iff.1 h1
      unfold frB at *
      rw [List.take_succ_eq_append_getElem hlt, List.all_append, h3, hg]
      by_cases e : v = x
      · have : out.contains u = true := by
          cases e2 : out.contains u with
          | true => rfl
          | false => exact absurd ⟨e, e2⟩ h2
        simp only [List.all_cons, List.all_nil, this]
        simp
      · simp [e])
    go_enter Try.func59, Try.ntmps59
    go_wp2
    go_loopw [7] (fun i wr => ∃ k : Nat, k ≤ es.length ∧ i = .int .i64 k ∧ Hid (frB ((gN es).take k) out x = true) ∧ w = wr) (fun i _ => es.length - (intOf i).toNat)
    case atStart => exact ⟨0, Nat.zero_le _, rfl, Lib.hid (by rw [List.take_zero]; rfl), rfl⟩
    case round =>
      obtain ⟨k, hk', rfl, HF, rfl⟩ := hrel
      by_cases hlt : k < es.length
      · have k1 : (k : Int) < (es.length : Int) := by omega
        obtain ⟨b, off, rfl, hb, hc⟩ := HE.out.some_ (by omega)
        obtain ⟨p1, p2⟩ := hc k hlt
        obtain ⟨u, v, hev, huN, hvN, hge⟩ := HOK.out.at_ hlt
        rw [hev] at p1 p2
        simp only [] at p1 p2
        have c1 := HU.out.cell huN
        have u1 : (u : Int) < (N : Int) := by omega
        have hz := HZ.out k u v hge
        have hn := HN.out k u v hge
        clear hc hev hge
        by_cases hvx : v = x
        · have e1 : ((v : Int) == (x : Int)) = true := by rw [hvx]; simp
          cases hou : out.contains u with
          | false =>
            rw [hou] at c1
            have HR := Lib.hid (hz hvx hou)
            clear hz hn hou hvx
            go_wp2
            go_ret
            exact ⟨by rw [HR.out]; rfl, rfl⟩
          | true =>
            rw [hou] at c1
            have HR := Lib.hid (hn (fun h => by rw [hou] at h; cases h.2) HF.out)
            clear hz hn hou hvx
            go_wp2
            go_roundw
            case rel => exact ⟨k + 1, by omega, by go_num, HR, trivial⟩
            case measure => simp [intOf]; omega
        · have e1 : ((v : Int) == (x : Int)) = false := beq_eq_false_iff_ne.2 (by omega)
          have HR := Lib.hid (hn (fun h => hvx h.1) HF.out)
          clear hz hn hvx
          go_wp2
          go_roundw
          case rel => exact ⟨k + 1, by omega, by go_num, HR, trivial⟩
          case measure => simp [intOf]; omega
      · obtain rfl : k = es.length := by omega
        have HR := Lib.hid (HEND.out HF.out)
        go_wp2
        go_ret
        exact ⟨by rw [HR.out]; rfl, rfl⟩

/-! ### The least extension -/

def lenOf : Value → Nat
  | .slice _ n _ => n
  | _ => 0
theorem sel_first {N u : Nat} {p : Nat → Bool} (hu : u < N) (hp : p u = true) (hm : ∀ v, v < u → p v = false) : ∃ r, selN N p = u :: r := by
  have h : ∃ r, List.range N = List.range u ++ u :: r := by
    refine ⟨(List.range N).drop (u + 1), ?_⟩
    apply List.ext_getElem
    · simp; omega
    · intro i h1 h2
      by_cases h3 : i < u
      · rw [List.getElem_append_left (by simpa using h3)]
        simp
      · rw [List.getElem_append_right (by simpa using h3)]
        by_cases h4 : i = u
        · subst h4; simp
        · rw [List.getElem_cons]
          simp
          split <;> omega
  obtain ⟨r, hr⟩ := h
  refine ⟨r.filter p, ?_⟩
  unfold selN
  rw [hr, List.filter_append, List.filter_cons, if_pos hp]
  have : (List.range u).filter p = [] := by
    rw [List.filter_eq_nil_iff]
    intro v hv
    rw [hm v (by simpa using hv)]
    simp
  rw [this]
  rfl
theorem ext_head {N u m : Nat} {f : Nat → Nat → Bool} {out : List Nat} (hu : u < N) (hp : freeF N f out u = true) (hm : ∀ v, v < u → freeF N f out v = false) (hne : ∃ x, x ∈ extN N f m (out ++ [u])) : (extN N f (m + 1) out)[0]? = (extN N f m (out ++ [u]))[0]? := by
  obtain ⟨r, hr⟩ := sel_first hu hp hm
  obtain ⟨x, hx⟩ := hne
  rw [extN_succ, hr]
  unfold extL
  rw [List.flatMap_cons, List.getElem?_append_left (List.length_pos_of_mem hx)]

theorem least_free {N : Nat} {p : Nat → Bool} (h : ∃ v, v < N ∧ p v = true) : ∃ u, u < N ∧ p u = true ∧ ∀ v, v < u → p v = false := by
  obtain ⟨v, hv, hp⟩ := h
  have hm := mem_selN.2 ⟨hv, hp⟩
  cases hs : selN N p with
  | nil => rw [hs] at hm; cases hm
  | cons u r =>
    have hu : u ∈ selN N p := by rw [hs]; exact List.mem_cons_self ..
    obtain ⟨h1, h2⟩ := mem_selN.1 hu
    refine ⟨u, h1, h2, fun x hx => ?_⟩
    cases e : p x with
    | false => rfl
    | true =>
      have h3 := mem_selN.2 (show x < N ∧ p x = true from ⟨by omega, e⟩)
      have hpw := selN_pair N p
      rw [hs] at h3 hpw
      rcases List.mem_cons.1 h3 with h3 | h3
      · omega
      · have := (List.pairwise_cons.1 hpw).1 x h3
        omega
theorem natV_snoc (l : List Nat) (x : Nat) : natV (l ++ [x]) = natV l ++ [.int .i64 (x : Int)] := by simp [natV]
theorem own_apart {W : World} {B C n m U cap s t : Nat} {v : Value} {S T : TypeId} {xs ys : List Value} (h : W.ownsRow B T s v n xs) (h2 : W.ownsRow C S t (.slice (some ⟨U, 0, none⟩) m cap) m ys) (hST : S ≠ T) : v.ownBlock = none ∨ v.ownBlock ≠ some U := by
  by_cases e : v.ownBlock = some U
  · exfalso
    obtain ⟨_, c, hc⟩ := own_nilType h U e
    obtain ⟨c2, hc2⟩ := own_typeS h2
    rw [hc] at hc2
    injection hc2 with hc2
    injection hc2 with _ hc2 _
    exact hST hc2.symm
  · exact .inr e

set_option maxRecDepth 100000 in
set_option maxHeartbeats 8000000 in
theorem refLeast_any (n : Int) (ad : Option Addr) (cap : Nat) (es : List (Int × Int)) (w : World) (hE : EdgesA w.heap.size w ad es) (hl : es.length ≤ 9223372036854775807) :
    Calls Try.prog 26 #[.int .i64 n, .slice ad es.length cap] w (RetIC (leastL n es) (poE n es) w) := by
  have HCK := refCheck_any n ad cap es w hE hl
  by_cases hp : poE n es = 0
  · have hi := po_irr hp
    obtain ⟨o1, _⟩ := exs_one hp
    obtain ⟨N, hnN, hN, hk, hok, _, ht, _⟩ := po_ok hp
    have hL := gN_low hok
    have hq : Hid (∀ out : List Nat, (extN N (relG (gN es)) N [])[0]? = some out → leastL n es = out) := Lib.hid (fun out h => by
      unfold leastL exsL
      rw [if_pos o1, hnN, Int.toNat_natCast, show (1 : Int).toNat = 1 from rfl]
      have : ((extN N (relG (gN es)) N []).take 1)[0]? = some out := by rw [List.getElem?_take, if_pos (by omega), h]
      rw [this]
      rfl)
    rw [hp] at HCK ⊢
    subst hnN
    generalize leastL (N : Int) es = LL at *
    obtain ⟨i0, ji, jz0, jz1, jz2⟩ := info_parts infoBool
    obtain ⟨i1, ki, kz0, kz1, kz2⟩ := info_parts infoI
    have HCK := Lib.hid HCK
    have HE := Lib.hid hE
    have HOK := Lib.hid hok
    have HSTEP : Hid (∀ out : List Nat, OrdAll N (relG (gN es)) out → out.length < N → ∃ u, u < N ∧ freeF N (relG (gN es)) out u = true ∧ (∀ v, v < u → freeF N (relG (gN es)) out v = false) ∧ OrdAll N (relG (gN es)) (out ++ [u]) ∧ (extN N (relG (gN es)) (N - out.length) out)[0]? = (extN N (relG (gN es)) (N - (out ++ [u]).length) (out ++ [u]))[0]?) := Lib.hid (fun out h1 h2 => by
      obtain ⟨x, hx, hxo⟩ := some_left h2
      obtain ⟨u, hu, hf, hm⟩ := least_free (free_exists hL ht hi out _ x hx hxo (Nat.lt_succ_self _))
      have hs := h1.snoc hL hu hf
      refine ⟨u, hu, hf, hm, hs, ?_⟩
      have hlen : (out ++ [u]).length = out.length + 1 := by simp
      rw [hlen, show N - out.length = (N - (out.length + 1)) + 1 by omega]
      exact ext_head hu hf hm (ext_exists hL ht hi _ _ hs (by rw [hlen]; omega)))
    clear hE hok hp o1 hi ht
    go_enter Try.func26, Try.ntmps26
    go_wp2_with fail
    refine HCK.out.mono ?_
    rintro e w1 ⟨rfl, b1⟩
    have HB1 := Lib.hid b1
    clear b1 HCK
    go_wp2_with (at_make; refine wpList_make_full _ rfl (.tmp 16) (.tmp 16) 58 rfl w1.heap.size TBool i0 (.bool false) 1 Try.underlying58 ji jz0 jz1 .i64 .i64 _ _ N rfl rfl rfl rfl (by rw [jz2]; omega) (by unfold maxLen; omega) (Nat.le_refl _) ?_)
    intro w2 ho2 hg2
    rw [boolsV_false] at ho2
    have HU2 : Hid (UsedAt w1.heap.size w1.heap.size N [] w2) := Lib.hid ho2
    have HB2 : Hid (Below w1.heap.size w1 w2) := Lib.hid ((Below.refl _ w1).grown hg2 (Nat.le_refl _) (fun j hj => by cases hj))
    obtain ⟨U, hUU⟩ : ∃ U, w1.heap.size = U := ⟨_, rfl⟩
    rw [hUU] at HU2 HB2 ⊢
    clear ho2 hg2
    generalize hfe : relG (gN es) = f at *
    go_wp2_with fail
    go_loopw [8] (fun v wr => ∃ out : List Nat, out.length ≤ N ∧ Hid (OrdAll N f out ∧ (extN N f N [])[0]? = (extN N f (N - out.length) out)[0]?) ∧ (∃ a' c', v = .slice a' out.length c') ∧ Hid (OwnN U out v wr) ∧ Hid (UsedAt U U N out wr) ∧ Hid (Below U w1 wr)) (fun v _ => N - lenOf v)
    case atStart => exact ⟨[], Nat.zero_le _, Lib.hid ⟨OrdAll.nil _ _, rfl⟩, ⟨none, 0, rfl⟩, Lib.hid (OwnN.nil _ _), HU2, HB2⟩
    case round =>
      obtain ⟨out, hout, HX, ⟨a', c', rfl⟩, HO, HU, HB⟩ := hrel
      by_cases hlt : out.length < N
      · have k1 : (out.length : Int) < (N : Int) := by omega
        obtain ⟨u, hu, hf, hm, hs, hh⟩ := HSTEP.out out HX.out.1 hlt
        have HX' : Hid (OrdAll N f (out ++ [u]) ∧ (extN N f N [])[0]? = (extN N f (N - (out ++ [u]).length) (out ++ [u]))[0]?) := Lib.hid ⟨hs, HX.out.2.trans hh⟩
        have HM := Lib.hid hm
        have hbb : Below w.heap.size w wr := HB1.out.trans (by rw [← hUU] at HB; exact HB.out.mono HB1.out.size)
        have HEr := Lib.hid ((HE.out.below hbb).mono hbb.size)
        have HFR : Hid (∀ x : Nat, x < N → Calls Try.prog 59 #[.slice ad es.length cap, .slice (some ⟨U, 0, none⟩) N N, .int .i64 (x : Int)] wr fun e w' => e = .returned (.bool (freeF N f out x)) ∧ wr = w') := Lib.hid (fun x hx => by
          have := free_any U U N x ad cap es out wr HEr.out hk HOK.out HU.out hx
          rwa [hfe] at this)
        clear hs hh hm hbb
        go_wp2_with fail
        go_loopw [9] (fun x wx => ∃ j : Nat, j ≤ u ∧ x = .int .i64 j ∧ wr = wx) (fun x _ => N - (intOf x).toNat)
        case atStart => exact ⟨0, Nat.zero_le _, rfl, rfl⟩
        case round =>
          obtain ⟨j, hj, rfl, rfl⟩ := hrel
          have hc := HFR.out j (by omega)
          by_cases hju : j < u
          · rw [HM.out j hju] at hc
            have HC := Lib.hid hc
            clear hc
            go_wp2_with fail
            refine HC.out.mono ?_
            rintro e w4 ⟨rfl, rfl⟩
            go_wp2
            go_roundw
            case rel => exact ⟨j + 1, by omega, by go_num, trivial⟩
            case measure => simp [intOf]; omega
          · obtain rfl : j = u := by omega
            rw [hf] at hc
            have HC := Lib.hid hc
            have j1 : (j : Int) < (N : Int) := by omega
            have c1 := HU.out.cell hu
            have c2 : wr.frozen? ⟨U, j, none⟩ = false := World.ownsRow.frozenAt HU.out j
            obtain ⟨s1, s2⟩ := World.ownsRow.stored HU.out j (.bool true)
            rw [boolsV_set (q := fun i => (out ++ [j]).contains i) (by simp) (fun i hij => by simp [hij])] at s1
            have hap := own_apart HO.out HU.out (by decide)
            have ho := World.ownsRow.kept HO.out s2 hap
            have hb5 : Below U w1 (wr.setCell ⟨U, j, none⟩ (.bool true)) := HB.out.setCell (p := ⟨U, j, none⟩) (Nat.le_refl _) _
            have HU5 := Lib.hid s1
            have HO5 := Lib.hid ho
            have HB5 := Lib.hid hb5
            have hsz := hb5.size
            have HAP : Hid ((Value.slice (some ⟨U, 0, none⟩) N N).ownBlock = none ∨ (Value.slice (some ⟨U, 0, none⟩) N N).ownBlock ≠ (Value.slice a' out.length c').ownBlock) := Lib.hid (.inr (fun e => by
              rcases hap with h | h
              · rw [h] at e; simp [Value.ownBlock] at e
              · exact h e.symm))
            have hUw : U ≤ (wr.setCell ⟨U, j, none⟩ (.bool true)).heap.size := by omega
            have HNC : Hid (∀ (t : Nat) (x : Value), [Value.int .i64 (j : Int)][t]? = some x → ((wr.setCell ⟨U, j, none⟩ (.bool true)).alloc (.cells #[.int .i64 (j : Int)] TI)).cell? ((⟨wr.heap.size, 0, none⟩ : Addr).add t) = some x) := Lib.hid (by
              have h := newCell (wr.setCell ⟨U, j, none⟩ (.bool true)) (.int .i64 (j : Int)) TI
              rwa [show (wr.setCell ⟨U, j, none⟩ (.bool true)).heap.size = wr.heap.size by simp] at h)
            clear hc s1 s2 ho hb5 hap
            go_wp2_with fail
            refine HC.out.mono ?_
            rintro e w4 ⟨rfl, rfl⟩
            go_wp2_with (at_builtin; refine wpList_append_own _ rfl _ _ 23 rfl U TI i1 (.int .i64 0) 1 8 Try.underlying23 ki kz0 kz1 kz2 rfl (by decide) _ _ _ rfl (World.ownsRow.alloc HO5.out _) ⟨wr.heap.size, 0, none⟩ 1 1 [.int .i64 (j : Int)] rfl rfl HNC.out (one_one _) ?qc4 ?qc5 ?qc6 ?_)
            case qc4 => unfold maxLen; omega
            case qc5 => omega
            case qc6 => simp at hUw ⊢; omega
            intro v' w6 hown' hgrow hnil
            have ho6 : OwnN U (out ++ [j]) v' w6 := by
              unfold OwnN
              rw [natV_snoc, List.length_append]
              exact hown'
            obtain ⟨a6, c6, e6, _, _⟩ := own_sliceS ho6
            have hu6 : UsedAt U U N (out ++ [j]) w6 := (World.ownsRow.alloc HU5.out (.cells #[.int .i64 (j : Int)] TI)).kept hgrow HAP.out
            have hb6 : Below U w1 w6 := (HB5.out.alloc hUw _).grown hgrow (by simp at hUw ⊢; omega) (fun i hi => (World.ownsRow.lt HO5.out i hi).1)
            have HO6 := Lib.hid ho6
            have HU6 := Lib.hid hu6
            have HB6 := Lib.hid hb6
            have HE6 := Lib.hid e6
            clear hown' hgrow hnil ho6 hu6 hb6 e6
            go_wp2
            go_roundw
            case rel => exact ⟨out ++ [j], by rw [List.length_append]; simp; omega, HX', ⟨a6, c6, HE6.out⟩, HO6, HU6, HB6⟩
            case measure =>
              rw [HE6.out]
              simp [lenOf]
              omega
      · obtain hN' : out.length = N := by omega
        have hz : LL = out := hq.out out (by rw [HX.out.2, hN', Nat.sub_self]; rfl)
        subst hz
        have hno : ¬ (LL.length : Int) < (N : Int) := by omega
        have HKN : Hid (IntsC wr (.slice a' N c') LL) := Lib.hid (by have h := HO.out.known; rwa [hN'] at h)
        go_wp2
        go_ret2
        have hle : w.heap.size ≤ w1.heap.size := HB1.out.size
        subst hUU
        exact ⟨_, rfl, HKN.out, HB1.out.trans (HB.out.mono hle)⟩
  · have h2 : leastL n es = [] := by unfold leastL exsL exsE; rw [if_neg hp, if_neg hp]; rfl
    have hpb : (poE n es != 0) = true := by simp [hp]
    rw [h2]
    have HCK := Lib.hid HCK
    clear hE h2
    go_enter Try.func26, Try.ntmps26
    go_wp2_with fail
    refine HCK.out.mono ?_
    rintro e w1 ⟨rfl, b1⟩
    go_wp2
    go_ret2
    exact ⟨_, rfl, ⟨none, 0, rfl, fun j hj => by simp [intsOf] at hj, by simp [intsOf]⟩, b1⟩

end Go.Proofs.Ytbfeiegjhcjbnaa
