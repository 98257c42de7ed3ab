/-
  What the reference's Closure of digraph returns.
-/
import Derived.Test.YtcggmonnajggcaaComponents
import Derived.Test.YtcggmonnajggcaaClosPlain
namespace Go.Proofs.Ytcggmonnajggcaa
open Go.RowKit

abbrev TE : TypeId := 40
theorem infoE : (Try.prog.info? TE).map (fun i => (i.zero, i.size, i.bytes)) = some (some (.agg #[.int .i64 0, .int .i64 0]), 2, 16) := by kernel_rfl

/-- The cells of a list of edges. -/
def edV (l : List (Nat × Nat)) : List Value := l.flatMap fun e => [.int .i64 (e.1 : Int), .int .i64 (e.2 : Int)]
theorem edV_snoc (l : List (Nat × Nat)) (i k : Nat) : edV (l ++ [(i, k)]) = edV l ++ [.int .i64 (i : Int), .int .i64 (k : Int)] := by simp [edV]
theorem own_typeS {B n g cap s : Nat} {T : TypeId} {xs : List Value} {w : World} (h : w.ownsRow B T s (.slice (some ⟨g, 0, none⟩) n cap) n xs) : ∃ c, w.heap[g]? = some (.cells c T (0, 0)) := by
  rcases h.2 with ⟨e, _⟩ | ⟨g', cap', cur, e, _, hg, _⟩
  · cases e
  · cases e
    exact ⟨_, hg⟩
theorem newCell2 (w : World) (u v : Value) (T : TypeId) : ∀ (j : Nat) (x : Value), [u, v][j]? = some x → (w.alloc (.cells #[u, v] T)).cell? ((⟨w.heap.size, 0, none⟩ : Addr).add j) = some x := by
  intro j x hj
  match j, hj with
  | 0, hj => simp at hj; subst hj; simp [Addr.add]
  | 1, hj => simp at hj; subst hj; simp [Addr.add]
theorem two_one (a b : Int) : ∀ u ∈ [Value.int .i64 a, Value.int .i64 b], u.oneCell' = true := by
  intro u hu
  simp at hu
  rcases hu with rfl | rfl <;> rfl

/-- A slice value that is not nil, that owns its row and holds the edges l. -/
def RowE (B : Nat) (l : List (Nat × Nat)) (v : Value) (w : World) : Prop := ∃ g cap, v = .slice (some ⟨g, 0, none⟩) l.length cap ∧ w.ownsRow B TE 2 v l.length (edV l)
theorem RowE.empty (w : World) (B : Nat) (hB : B ≤ w.heap.size) : RowE B [] (.slice (some ⟨w.heap.size, 0, none⟩) 0 0) (w.alloc (.cells #[] TE)) := ⟨_, _, rfl, World.ownsRow_lit w #[] 0 hB (by decide) rfl⟩
theorem RowE.grown {B : Nat} {l : List (Nat × Nat)} {v : Value} {w w' : World} (h : RowE B l v w) (hg : w.grownBy w' none) : RowE B l v w' := by
  obtain ⟨g, cap, e, h⟩ := h
  exact ⟨g, cap, e, h.kept hg (by cases v.ownBlock <;> simp)⟩
/-- A store into a row of marks keeps it. -/
theorem RowE.marked {B C G N : Nat} {l : List (Nat × Nat)} {m : List Bool} {v : Value} {w w' : World} (h : RowE B l v w) (hM : MarksAt C G N m w) (hg : w.grownBy w' (some G)) : RowE B l v w' := by
  obtain ⟨g, cap, rfl, h⟩ := h
  refine ⟨g, cap, rfl, h.kept hg (.inr ?_)⟩
  intro e
  simp [Value.ownBlock] at e
  subst e
  obtain ⟨c1, h1⟩ := own_typeS h
  obtain ⟨c2, h2⟩ := own_typeS hM
  rw [h1] at h2
  simp [TE, TBool] at h2

/-- What Closure returns. -/
def GivesE (l : List (Nat × Nat)) (x : Int) (w : World) (e : Ending) (w' : World) : Prop := ∃ v, e = .returned (.tuple #[v, .int .i64 x]) ∧ RowE w.heap.size l v w' ∧ Below w.heap.size w w'
noncomputable def cloE (n : Int) (es : List (Int × Int)) : Int := if chkE n es = 0 then (if 2000 < (closK n.toNat (gN es) n.toNat).length then 4 else 0) else 1
noncomputable def cloL (n : Int) (es : List (Int × Int)) : List (Nat × Nat) := if cloE n es = 0 then closK n.toNat (gN es) n.toNat else []

/-- The list and the error that belong to nodes that are good. -/
def CloR (N : Nat) (g : List (Nat × Nat)) (L : List (Nat × Nat)) (z : Int) : Prop := ((closK N g N).length ≤ 2000 ∧ L = closK N g N ∧ z = 0) ∨ (2000 < (closK N g N).length ∧ L = [] ∧ z = 4)

set_option maxRecDepth 100000 in
set_option maxHeartbeats 8000000 in
theorem closure_ok (n₀ N : Nat) (ad : Option Addr) (cap : Nat) (es : List (Int × Int)) (w : World) (hE : EdgesA n₀ w ad es) (hn₀ : n₀ ≤ w.heap.size) (hc : chkE (N : Int) es = 0) (hl : es.length ≤ 2000) (hN : N ≤ 200) (hok : OkE N es) (L : List (Nat × Nat)) (z : Int) (hL : CloR N (gN es) L z) :
    Calls Try.prog 28 #[.int .i64 (N : Int), .slice ad es.length cap] w (GivesE L z w) := by
  have HL := Lib.hid hL
  obtain ⟨i0, hi, hz0, hz1, hz2⟩ := info_parts infoBool
  obtain ⟨i3, ki, kz0, kz1, kz2⟩ := info_parts infoE
  have a0 : Below w.heap.size w (w.alloc (.cells #[] TE)) := (Below.refl _ w).alloc (Nat.le_refl _) _
  have hck := check_calm w.heap.size (N : Int) ad cap es (w.alloc (.cells #[] TE)) ((hE.mono hn₀).below a0) (by omega)
  rw [hc] at hck
  have HCK := Lib.hid hck
  have HE := Lib.hid (hE.mono hn₀)
  have HOK := Lib.hid hok
  have hr0 := RowE.empty w w.heap.size (Nat.le_refl _)
  clear hE hn₀ hc hck hok hL
  obtain ⟨g0, hg0⟩ : ∃ g : List (Nat × Nat), gN es = g := ⟨_, rfl⟩
  rw [hg0] at HL
  have HG0 := Lib.hid hg0
  clear hg0
  go_enter Try.func28, Try.ntmps28
  go_wp2_with fail
  refine HCK.out.mono ?_
  rintro e w1 ⟨rfl, b1, z1⟩
  have c1 : Below w.heap.size w w1 := a0.trans (b1.mono (by simp))
  have r1 : RowE w.heap.size [] (.slice (some ⟨w.heap.size, 0, none⟩) 0 0) w1 := hr0.grown (below_grown b1)
  have HR1 := Lib.hid r1
  clear z1 b1 a0 hr0 r1
  go_wp2
  go_loopw [6, 7] (fun o i wr => ∃ (k : Nat) (v : Value), k ≤ N ∧ i = .int .i64 k ∧ v = o ∧ Hid (RowE w.heap.size (closK N g0 k) v wr) ∧ Below w.heap.size w wr) (fun _ i _ => N - (intOf i).toNat)
  case atStart => exact ⟨0, _, Nat.zero_le _, rfl, rfl, HR1, c1⟩
  case round =>
    obtain ⟨k, o, hk, rfl, rfl, HR, hb⟩ := hrel
    by_cases hlt : k < N
    · have s1 := hb.size
      go_wp2_with (at_make; refine wpList_make_full _ rfl (.tmp 24) (.tmp 24) 50 rfl w.heap.size TBool i0 (.bool false) 1 Try.underlying50 hi hz0 hz1 .i64 .i64 _ _ N rfl rfl rfl rfl (by rw [hz2]; omega) (by unfold maxLen; omega) s1 ?_)
      intro w2 ho2 hg2
      rw [madeFalse, ← thereK_zero N g0 k] at ho2
      obtain ⟨G, hG⟩ : ∃ G, wr.heap.size = G := ⟨_, rfl⟩
      have HR2 : Hid (RowE w.heap.size (closK N g0 k) o w2) := Lib.hid (HR.out.grown hg2)
      have c2 : Below w.heap.size w w2 := hb.grown hg2 s1 (fun j hj => by cases hj)
      rw [hG] at ho2 ⊢
      have hGB : w.heap.size ≤ G := by omega
      have HM2 : Hid (MarksAt w.heap.size G N (thereK N g0 k 0) w2) := Lib.hid ho2
      clear ho2 hg2 hG s1
      go_wp2
      go_loopw [9] (fun i wx => ∃ q : Nat, q ≤ es.length ∧ i = .int .i64 q ∧ Hid (MarksAt w.heap.size G N (thereK N g0 k q) wx) ∧ Hid (RowE w.heap.size (closK N g0 k) o wx) ∧ Below w.heap.size w wx) (fun i _ => es.length - (intOf i).toNat)
      case atStart => exact ⟨0, Nat.zero_le _, rfl, HM2, HR2, c2⟩
      case round =>
        obtain ⟨q, hq, rfl, HMx, HRx, hbr⟩ := hrel
        by_cases hlq : q < es.length
        · obtain ⟨bl, off, rfl, hbb, hcc⟩ := HE.out.some_ (by omega)
          obtain ⟨d1, d2⟩ := hcc q hlq
          obtain ⟨u, v, hev, hu, hv, hge⟩ := HOK.out.at_ hlq
          rw [hev] at d1 d2
          rw [HG0.out] at hge
          have e1 := (hbr.cell (p := ⟨bl, off + q * 2, none⟩) hbb).trans d1
          have e2 := (hbr.cell (p := ⟨bl, off + q * 2 + 1, none⟩) hbb).trans d2
          simp only [] at e1 e2
          have q2 : (q : Int) < (es.length : Int) := by omega
          have q4 : (0 : Int) ≤ (q : Int) := by omega
          have v1 : (v : Int) < (N : Int) := by omega
          clear hcc d1 d2 hev
          by_cases hui : u = k
          · have hub : ((u : Int) == (k : Int)) = true := by rw [beq_iff_eq]; omega
            obtain ⟨x, hx⟩ : ∃ x, (thereK N g0 k q)[v]? = some x := ⟨_, List.getElem?_eq_getElem (by rw [thereK_length]; exact hv)⟩
            have e3 := HMx.out.cell hv hx
            cases x
            · have hge' : g0[q]? = some (k, v) := by rw [← hui]; exact hge
              have HMI := Lib.hid (mixK_all (N := N) hge')
              have hsx := hbr.size
              have hre := reached_any w.heap.size N v (some ⟨bl, off, none⟩) cap es wr (HE.out.below hbr) hsx hl hN hv HOK.out
              rw [HG0.out] at hre
              have HRE := Lib.hid hre
              obtain ⟨H, hH⟩ : ∃ H, wr.heap.size = H := ⟨_, rfl⟩
              rw [hH] at HRE
              have hHB : w.heap.size ≤ H := by omega
              have hGH : G < H := by have := HMx.out.lt_size; omega
              have HH := Lib.hid hH
              have HX := Lib.hid hx
              clear hge hge' hx hui hre hH hsx
              go_wp2_with fail
              refine HRE.out.mono ?_
              rintro e w3 ⟨rfl, m3, b3⟩
              have hg3 : wr.grownBy w3 none := by have := HH.out; subst this; exact below_grown b3
              have HM3 : Hid (MarksAt w.heap.size G N (mixK N (thereK N g0 k q) (reachB N g0 v) 0) w3) := Lib.hid (by rw [mixK_zero _ (thereK_length N g0 k q)]; exact HMx.out.kept hg3 (.inr (by simp [Value.ownBlock])))
              have HR3 := Lib.hid (HRx.out.grown hg3)
              have HT3 := Lib.hid m3
              have hb3 : Below w.heap.size w w3 := hbr.trans (b3.mono hHB)
              clear m3 b3 hg3 e1 e2 e3
              go_wp2
              go_loopw [11] (fun j wy => ∃ p : Nat, p ≤ N ∧ j = .int .i64 p ∧ Hid (MarksAt w.heap.size G N (mixK N (thereK N g0 k q) (reachB N g0 v) p) wy) ∧ Hid (MarksAt H H N (reachB N g0 v) wy) ∧ Hid (RowE w.heap.size (closK N g0 k) o wy) ∧ Below w.heap.size w wy) (fun j _ => N - (intOf j).toNat)
              case atStart => exact ⟨0, Nat.zero_le _, rfl, HM3, HT3, HR3, hb3⟩
              case round =>
                obtain ⟨p, hp, rfl, HMy, HTy, HRy, hby⟩ := hrel
                by_cases hlp : p < N
                · obtain ⟨a, ha⟩ : ∃ a, (thereK N g0 k q)[p]? = some a := ⟨_, List.getElem?_eq_getElem (by rw [thereK_length]; exact hlp)⟩
                  obtain ⟨b, hbp⟩ : ∃ b, (reachB N g0 v)[p]? = some b := ⟨_, List.getElem?_eq_getElem (by rw [reachB_length]; exact hlp)⟩
                  have t1 := HMy.out.cell hlp (mixK_self hlp ha)
                  have t2 := HTy.out.cell hlp hbp
                  have t3 := HMy.out.free p
                  have HMS : Hid (MarksAt w.heap.size G N (mixK N (thereK N g0 k q) (reachB N g0 v) (p + 1)) (wr.setCell ⟨G, p, none⟩ (.bool (a || b)))) := Lib.hid (by rw [← mixK_set hlp ha hbp]; exact HMy.out.store p (a || b))
                  have hst := (World.ownsRow.stored HMy.out p (.bool (a || b))).2
                  have HTS : Hid (MarksAt H H N (reachB N g0 v) (wr.setCell ⟨G, p, none⟩ (.bool (a || b)))) := Lib.hid (HTy.out.kept hst (.inr (by simp [Value.ownBlock]; omega)))
                  have HRS : Hid (RowE w.heap.size (closK N g0 k) o (wr.setCell ⟨G, p, none⟩ (.bool (a || b)))) := Lib.hid (HRy.out.marked HMy.out hst)
                  have hbs := hby.setCell (p := ⟨G, p, none⟩) hGB (.bool (a || b))
                  have p1 : (p : Int) < (N : Int) := by omega
                  clear ha hbp hst
                  cases a
                  · simp only [Bool.false_or] at HMS HTS HRS hbs
                    go_wp2
                    go_roundw
                    case rel => exact ⟨p + 1, by omega, by go_num, HMS, HTS, HRS, hbs⟩
                    case measure => simp [intOf]; omega
                  · simp only [Bool.true_or] at HMS HTS HRS hbs
                    go_wp2
                    go_roundw
                    case rel => exact ⟨p + 1, by omega, by go_num, HMS, HTS, HRS, hbs⟩
                    case measure => simp [intOf]; omega
                · have hpN : p = N := by omega
                  have HMN : Hid (MarksAt w.heap.size G N (thereK N g0 k (q + 1)) wr) := Lib.hid (by rw [← HMI.out, ← hpN]; exact hpN ▸ HMy.out)
                  clear hpN
                  go_wp2
                  go_roundw
                  case rel => exact ⟨q + 1, by omega, by go_num, HMN, HRy, hby⟩
                  case measure => simp [intOf]; omega
            · have HTK : Hid (thereK N g0 k (q + 1) = thereK N g0 k q) := Lib.hid (thereK_old hge hv hx)
              clear hge hx hui
              go_wp2
              go_roundw
              case rel => exact ⟨q + 1, by omega, by go_num, by rw [HTK.out]; exact HMx, HRx, hbr⟩
              case measure => simp [intOf]; omega
          · have hub : ((u : Int) == (k : Int)) = false := by rw [beq_eq_false_iff_ne]; omega
            have HTK : Hid (thereK N g0 k (q + 1) = thereK N g0 k q) := Lib.hid (thereK_pass hge hui)
            clear hge hui
            go_wp2
            go_roundw
            case rel => exact ⟨q + 1, by omega, by go_num, by rw [HTK.out]; exact HMx, HRx, hbr⟩
            case measure => simp [intOf]; omega
        · have HTA : Hid (thereK N g0 k q = (List.range N).map (clB g0 k)) := Lib.hid (thereK_all N g0 k q (by rw [← HG0.out, gN_length]; omega))
          have HM3 : Hid (MarksAt w.heap.size G N ((List.range N).map (clB g0 k)) wr) := Lib.hid (by rw [← HTA.out]; exact HMx.out)
          have HRC : Hid (RowE w.heap.size (closK N g0 k ++ clRow g0 k 0) o wr) := Lib.hid (by rw [clRow_zero, List.append_nil]; exact HRx.out)
          go_wp2
          go_loopw [6, 12] (fun o' i wx => ∃ (p : Nat) (v : Value), p ≤ N ∧ i = .int .i64 p ∧ v = o' ∧ Hid (RowE w.heap.size (closK N g0 k ++ clRow g0 k p) v wx) ∧ Hid (MarksAt w.heap.size G N ((List.range N).map (clB g0 k)) wx) ∧ Below w.heap.size w wx) (fun _ i _ => N - (intOf i).toNat)
          case atStart => exact ⟨0, _, Nat.zero_le _, rfl, rfl, HRC, HM3, hbr⟩
          case round =>
            obtain ⟨p, o', hp, rfl, rfl, HRy, HMy, hby⟩ := hrel
            by_cases hlp : p < N
            · obtain ⟨x, hx⟩ : ∃ x, clB g0 k p = x := ⟨_, rfl⟩
              have t1 := HMy.out.cell (b := x) hlp (by rw [← hx]; simp [hlp])
              have p1 : (p : Int) < (N : Int) := by omega
              cases x
              · have HCN : Hid (clRow g0 k (p + 1) = clRow g0 k p) := Lib.hid (clRow_no hx)
                clear hx
                go_wp2
                go_roundw
                case rel => exact ⟨p + 1, _, by omega, by go_num, rfl, by rw [HCN.out]; exact HRy, HMy, hby⟩
                case measure => simp [intOf]; omega
              · have HCY : Hid (edV (closK N g0 k ++ clRow g0 k (p + 1)) = edV (closK N g0 k ++ clRow g0 k p) ++ [.int .i64 (k : Int), .int .i64 (p : Int)]) := Lib.hid (by rw [clRow_yes hx, ← List.append_assoc, edV_snoc])
                have HCZ : Hid ((closK N g0 k ++ clRow g0 k (p + 1)).length = (closK N g0 k ++ clRow g0 k p).length + 1) := Lib.hid (by rw [clRow_yes hx]; simp [Nat.add_assoc])
                have hle : (closK N g0 k ++ clRow g0 k p).length ≤ 50000 := by
                  have h1 := closK_length_le N g0 k
                  have h2 := clRow_length_le g0 k p
                  have h3 : k * N ≤ 200 * 200 := Nat.mul_le_mul (by omega) hN
                  rw [List.length_append]
                  omega
                obtain ⟨l0, hl0⟩ : ∃ l0, closK N g0 k ++ clRow g0 k p = l0 := ⟨_, rfl⟩
                rw [hl0] at HRy HCY HCZ hle
                obtain ⟨go, co, rfl, hown⟩ := HRy.out
                have HOWN := Lib.hid hown
                have hgo := (hown.lt go rfl).1
                have hgG : (some G : Option Nat) ≠ some go := by
                  intro e
                  cases e
                  obtain ⟨c1, h1⟩ := own_typeS hown
                  obtain ⟨c2, h2⟩ := own_typeS HMy.out
                  rw [h1] at h2
                  simp [TE, TBool] at h2
                have HGG := Lib.hid hgG
                have hbz := hby.size
                clear hx hl0 hown hgG HRy
                go_wp2_with (at_builtin; refine wpList_append_own _ rfl _ _ 22 rfl w.heap.size TE i3 (.agg #[.int .i64 0, .int .i64 0]) 2 16 Try.underlying22 ki kz0 kz1 kz2 rfl (by decide) _ _ _ rfl (HOWN.out.alloc _) ⟨wr.heap.size, 0, none⟩ 1 1 [.int .i64 (k : Int), .int .i64 (p : Int)] rfl rfl (newCell2 wr _ _ TE) (two_one _ _) (by unfold maxLen; omega) (by omega) (by simp; omega) ?_)
                intro v' w6 hown' hgrow hnil
                obtain ⟨g2, cap2, rfl⟩ := ownsRow_some hown' hnil
                have HR6 : Hid (RowE w.heap.size (closK N g0 k ++ clRow g0 k (p + 1)) (.slice (some ⟨g2, 0, none⟩) (l0.length + 1) cap2) w6) := Lib.hid (by
                  refine ⟨g2, cap2, by rw [HCZ.out], ?_⟩
                  rw [HCZ.out, HCY.out]
                  exact hown')
                have HM6 : Hid (MarksAt w.heap.size G N ((List.range N).map (clB g0 k)) w6) := Lib.hid ((HMy.out.alloc _).kept hgrow (.inr HGG.out))
                have b6 : Below w.heap.size w w6 := (hby.alloc hbz _).grown hgrow (by simp; omega) (fun i hi => (HOWN.out.lt i hi).1)
                clear hown' hgrow hnil
                go_wp2
                go_roundw
                case rel => exact ⟨p + 1, _, by omega, by go_num, rfl, HR6, HM6, b6⟩
                case measure => simp [intOf]; omega
            · have HRN : Hid (RowE w.heap.size (closK N g0 (k + 1)) o' wr) := Lib.hid (by
                have h : p = N := by omega
                rw [closK_succ, ← h]
                exact h ▸ HRy.out)
              go_wp2
              go_roundw
              case rel => exact ⟨k + 1, _, by omega, by go_num, rfl, HRN, hby⟩
              case measure => simp [intOf]; omega
    · have hK : closK N g0 k = closK N g0 N := by congr 1; omega
      have hle : (closK N g0 N).length ≤ 50000 := by
        have h1 := closK_length_le N g0 N
        have h3 : N * N ≤ 200 * 200 := Nat.mul_le_mul hN hN
        omega
      rw [hK] at HR
      obtain ⟨l0, hl0⟩ : ∃ l0, closK N g0 N = l0 := ⟨_, rfl⟩
      have hLz := HL.out
      unfold CloR at hLz
      rw [hl0] at HR hle hLz
      clear hK hl0
      rcases hLz with ⟨hz, rfl, rfl⟩ | ⟨hz, rfl, rfl⟩
      · obtain ⟨go, co, rfl, hown⟩ := HR.out
        have HOWN := Lib.hid hown
        have hz1 : ¬ (2000 < (L.length : Int)) := by omega
        clear hown
        go_wp2
        go_ret2
        exact ⟨_, rfl, ⟨go, co, rfl, HOWN.out⟩, hb⟩
      · obtain ⟨go, co, rfl, hown⟩ := HR.out
        have hz1 : 2000 < (l0.length : Int) := by omega
        have HSZ := Lib.hid hb.size
        clear hown
        go_wp2
        go_ret2
        exact ⟨_, rfl, RowE.empty wr _ HSZ.out, hb.alloc HSZ.out _⟩

set_option maxRecDepth 100000 in
set_option maxHeartbeats 4000000 in
theorem closure_any (n₀ : Nat) (n : Int) (ad : Option Addr) (cap : Nat) (es : List (Int × Int)) (w : World) (hE : EdgesA n₀ w ad es) (hn₀ : n₀ ≤ w.heap.size) (hl : es.length ≤ 9223372036854775807) :
    Calls Try.prog 28 #[.int .i64 n, .slice ad es.length cap] w (GivesE (cloL n es) (cloE n es) w) := by
  by_cases hc : chkE n es = 0
  · obtain ⟨N, rfl, hN, hl2, hok⟩ := chk_ok hc
    refine closure_ok n₀ N ad cap es w hE hn₀ hc hl2 hN hok _ _ ?_
    unfold CloR cloL cloE
    rw [if_pos hc, Int.toNat_natCast]
    by_cases h : 2000 < (closK N (gN es) N).length
    · exact .inr ⟨h, by rw [if_pos h]; simp, by rw [if_pos h]⟩
    · exact .inl ⟨by omega, by rw [if_neg h]; simp, by rw [if_neg h]⟩
  · have h1 : cloE n es = 1 := by unfold cloE; rw [if_neg hc]
    have h2 : cloL n es = [] := by unfold cloL; rw [h1]; simp
    rw [h1, h2]
    have a0 : Below w.heap.size w (w.alloc (.cells #[] TE)) := (Below.refl _ w).alloc (Nat.le_refl _) _
    have hck := check_calm w.heap.size n ad cap es (w.alloc (.cells #[] TE)) ((hE.mono hn₀).below a0) hl
    have hcb : (chkE n es != 0) = true := by simpa using hc
    obtain ⟨c, hce⟩ : ∃ c, chkE n es = c := ⟨_, rfl⟩
    rw [hce] at hck hcb
    have HCK := Lib.hid hck
    have hr0 := RowE.empty w w.heap.size (Nat.le_refl _)
    clear hE hc hck hce h1 h2
    go_enter Try.func28, Try.ntmps28
    go_wp2_with fail
    refine HCK.out.mono ?_
    rintro e w1 ⟨rfl, b1, z1⟩
    have c1 : Below w.heap.size w w1 := a0.trans (b1.mono (by simp))
    have HR1 : Hid (RowE w.heap.size [] (.slice (some ⟨w.heap.size, 0, none⟩) 0 0) w1) := Lib.hid (hr0.grown (below_grown b1))
    clear z1 b1 a0 hr0
    go_wp2
    go_ret2
    exact ⟨_, rfl, HR1.out, c1⟩

end Go.Proofs.Ytcggmonnajggcaa
