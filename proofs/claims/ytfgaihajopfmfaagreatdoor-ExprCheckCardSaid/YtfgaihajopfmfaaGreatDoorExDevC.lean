/-
  What typeFor and valueFor return. The program's leaf: the binding of a name. Looking an operator up. What the program's combine returns for types. What the program's combine returns for values. The program's Type and Eval. What the program's Type and Eval return.
-/
import Derived.Test.YtfgaihajopfmfaaGreatDoorExDevB
import Derived.Test.YtfgaihajopfmfaaGreatDoorExRefB
import Derived.Test.YtfgaihajopfmfaaGreatDoorExRefC
import Derived.Test.YtfgaihajopfmfaaGreatDoorExDevA
import Derived.Deep.RegionHeld3
/-! ### ExApply: What typeFor and valueFor return. -/
namespace Go.Proofs.YtfgaihajopfmfaaGreatDoor
set_option linter.unusedSimpArgs false
set_option linter.unusedVariables false
open Go.RowKit

theorem opT_all {k : Int} {zs : List Int} : zs.all (fun t => decide (t = zs.headD 0 ∧ (tkO k = 0 ∨ t = tkO k))) = true ↔ ∀ j, j < zs.length → gz zs j = gz zs 0 ∧ (tkO k = 0 ∨ gz zs j = tkO k) := by
  have h0 : zs.headD 0 = gz zs 0 := by cases zs <;> rfl
  rw [List.all_eq_true, h0]
  constructor
  · intro h j hj
    have := of_decide_eq_true (h zs[j] (List.getElem_mem hj))
    simpa [gz, hj] using this
  · intro h x hx
    obtain ⟨j, hj, rfl⟩ := List.mem_iff_getElem.1 hx
    have := h j hj
    exact decide_eq_true (by simpa [gz, hj] using this)
set_option maxHeartbeats 4000000 in
theorem typeFor_any (k : Int) (f : Value) (q c : Nat) (zs : List Int) (w : World) (hz : ∀ j, j < zs.length → w.cell? ⟨q, j, none⟩ = some (.int .i64 (gz zs j))) (hn : 0 < zs.length) (hl : zs.length ≤ 100) :
    Calls Tryz.prog 111 #[opA k f, .slice (some ⟨q, 0, none⟩) zs.length c] w fun x w' => x = .returned (.tuple #[.int .i64 (opT k zs).1, .int .i64 (opT k zs).2]) ∧ Below w.heap.size w w' := by
  obtain ⟨T, hT⟩ : ∃ T, tkO k = T := ⟨_, rfl⟩
  have HA := opT_all (k := k) (zs := zs)
  have HR : Hid (opT k zs = if (∀ j, j < zs.length → gz zs j = gz zs 0 ∧ (T = 0 ∨ gz zs j = T)) then (gvO k, 0) else (0, 15)) := Lib.hid (by
    unfold opT
    rw [← hT]
    by_cases h : (∀ j, j < zs.length → gz zs j = gz zs 0 ∧ (tkO k = 0 ∨ gz zs j = tkO k))
    · rw [if_pos h, if_pos (HA.2 h)]
    · rw [if_neg h, if_neg (fun e => h (HA.1 e))])
  clear HA
  simp only [opA]
  rw [hT]
  clear hT
  obtain ⟨W, hW⟩ : ∃ W, w.alloc (.cells #[.string (sgB k), .int .i64 (pcO k), .int .i64 T, .int .i64 (gvO k), f] TOp (0, 0)) = W := ⟨_, rfl⟩
  have HB : Hid (Below w.heap.size w W) := Lib.hid (by rw [← hW]; exact (Below.refl _ w).alloc (Nat.le_refl _) _)
  have hh : W.heap[w.heap.size]? = some (.cells #[.string (sgB k), .int .i64 (pcO k), .int .i64 T, .int .i64 (gvO k), f] TOp (0, 0)) := by rw [← hW]; exact World.alloc_heap_new w _
  have HZ := Lib.hid (fun j (hj : j < zs.length) => (World.cell?_of_block (HB.out.block q (World.block_lt_of_cell? _ _ (hz j hj)))).trans (hz j hj))
  have c2 : W.cell? ⟨w.heap.size, 2, none⟩ = some (.int .i64 T) := by simp [World.cell?, hh]
  have c3 : W.cell? ⟨w.heap.size, 3, none⟩ = some (.int .i64 (gvO k)) := by simp [World.cell?, hh]
  have c0 := HZ.out 0 hn
  have hWW := Lib.hid hW
  clear hh hW hz
  obtain ⟨G, hG⟩ : ∃ G, gvO k = G := ⟨_, rfl⟩
  rw [hG] at c3 HR hWW ⊢
  clear hG
  go_enter Tryz.func111, Tryz.ntmps111
  go_wp2
  rw [hWW.out]
  go_loopw [10] (fun x wr => ∃ j : Nat, j ≤ zs.length ∧ x = .int .i64 j ∧ Hid (∀ q, q < j → gz zs q = gz zs 0 ∧ (T = 0 ∨ gz zs q = T)) ∧ W = wr) (fun x _ => zs.length - (intOf x).toNat)
  case atStart => exact ⟨0, Nat.zero_le _, rfl, Lib.hid (fun q h => absurd h (Nat.not_lt_zero _)), rfl⟩
  case round =>
    obtain ⟨j, hj, rfl, HI, hw⟩ := hrel
    have hw := hw.symm
    subst hw
    by_cases hlt : j < zs.length
    · have k1 : (j : Int) < (zs.length : Int) := by omega
      have k2 : (0 : Int) < (zs.length : Int) := by omega
      have cj := HZ.out j hlt
      by_cases h1 : gz zs j = gz zs 0
      · obtain ⟨q1, q2⟩ := ieq h1
        by_cases h2 : T = 0
        · obtain ⟨p1, p2⟩ := ieq h2
          have HI2 : Hid (∀ q, q < j + 1 → gz zs q = gz zs 0 ∧ (T = 0 ∨ gz zs q = T)) := Lib.hid (fun q hq => by
            by_cases e : q = j
            · rw [e]; exact ⟨h1, .inl h2⟩
            · exact HI.out q (by omega))
          clear h1 h2
          go_wp2
          go_roundw
          case rel => exact ⟨j + 1, by omega, by go_num, HI2, by trivial⟩
          case measure => simp [intOf]; omega
        · obtain ⟨p1, p2⟩ := ine h2
          by_cases h3 : gz zs j = T
          · obtain ⟨s1, s2⟩ := ieq h3
            have HI2 : Hid (∀ q, q < j + 1 → gz zs q = gz zs 0 ∧ (T = 0 ∨ gz zs q = T)) := Lib.hid (fun q hq => by
              by_cases e : q = j
              · rw [e]; exact ⟨h1, .inr h3⟩
              · exact HI.out q (by omega))
            clear h1 h2 h3
            go_wp2
            go_roundw
            case rel => exact ⟨j + 1, by omega, by go_num, HI2, by trivial⟩
            case measure => simp [intOf]; omega
          · obtain ⟨s1, s2⟩ := ine h3
            have HR2 : Hid (opT k zs = (0, 15)) := Lib.hid (by rw [HR.out, if_neg (fun h => (h j hlt).2.elim h2 h3)])
            clear h1 h2 h3
            go_wp2
            go_ret2
            exact ⟨by rw [HR2.out]; rfl, HB.out⟩
      · obtain ⟨q1, q2⟩ := ine h1
        have HR2 : Hid (opT k zs = (0, 15)) := Lib.hid (by rw [HR.out, if_neg (fun h => h1 (h j hlt).1)])
        clear h1
        go_wp2
        go_ret2
        exact ⟨by rw [HR2.out]; rfl, HB.out⟩
    · have k1 : ¬ (j : Int) < (zs.length : Int) := by omega
      have HR2 : Hid (opT k zs = (G, 0)) := Lib.hid (by rw [HR.out, if_pos (fun q hq => HI.out q (by omega))])
      go_wp2
      go_ret2
      exact ⟨by rw [HR2.out]; rfl, HB.out⟩

theorem drewN_below (n : Nat) {m : Nat} {w W : World} (h : Below m w W) : Below m w (W.drewN n) := ⟨h.os, h.tape, h.output, h.size, h.block⟩
theorem valueFor_un1 (k : Int) (a : Option Addr) (n c : Nat) (r1 r2 : Int) (w : World)
    (H : ∀ o, Calls Tryz.prog 66 #[.slice a n c] (w.alloc o) fun x w' => x = .returned (.tuple #[.int .i64 r1, .int .i64 r2]) ∧ ∃ n, w' = (w.alloc o).drewN n) :
    Calls Tryz.prog 108 #[opA k (.func (.func 66) #[] #[]), .slice a n c] w fun x w' => x = .returned (.tuple #[.int .i64 r1, .int .i64 r2]) ∧ Below w.heap.size w w' := by
  have H := Lib.hid H
  have HB : Hid (∀ o n, Below w.heap.size w ((w.alloc o).drewN n)) := Lib.hid (fun o n => drewN_below n ((Below.refl _ w).alloc (Nat.le_refl _) _))
  simp only [opA]
  go_enter Tryz.func108, Tryz.ntmps108
  go_wp2_with fail
  refine (H.out _).mono ?_
  rintro _ _ ⟨rfl, n, rfl⟩
  go_wp2
  go_ret2
  exact ⟨rfl, HB.out _ _⟩

theorem valueFor_un2 (k : Int) (a : Option Addr) (n c : Nat) (r1 r2 : Int) (w : World)
    (H : ∀ o, Calls Tryz.prog 67 #[.slice a n c] (w.alloc o) fun x w' => x = .returned (.tuple #[.int .i64 r1, .int .i64 r2]) ∧ ∃ n, w' = (w.alloc o).drewN n) :
    Calls Tryz.prog 108 #[opA k (.func (.func 67) #[] #[]), .slice a n c] w fun x w' => x = .returned (.tuple #[.int .i64 r1, .int .i64 r2]) ∧ Below w.heap.size w w' := by
  have H := Lib.hid H
  have HB : Hid (∀ o n, Below w.heap.size w ((w.alloc o).drewN n)) := Lib.hid (fun o n => drewN_below n ((Below.refl _ w).alloc (Nat.le_refl _) _))
  simp only [opA]
  go_enter Tryz.func108, Tryz.ntmps108
  go_wp2_with fail
  refine (H.out _).mono ?_
  rintro _ _ ⟨rfl, n, rfl⟩
  go_wp2
  go_ret2
  exact ⟨rfl, HB.out _ _⟩

theorem valueFor_ar (k : Int) (a : Option Addr) (n c : Nat) (g : Nat) (r1 r2 : Int) (w : World)
    (H : ∀ o, Calls Tryz.prog 114 #[.slice a n c, .pointer (some ⟨g, 0, none⟩)] (w.alloc o) fun x w' => x = .returned (.tuple #[.int .i64 r1, .int .i64 r2]) ∧ ∃ n, w' = (w.alloc o).drewN n) :
    Calls Tryz.prog 108 #[opA k (.func (.func 114) #[] #[.pointer (some ⟨g, 0, none⟩)]), .slice a n c] w fun x w' => x = .returned (.tuple #[.int .i64 r1, .int .i64 r2]) ∧ Below w.heap.size w w' := by
  have H := Lib.hid H
  have HB : Hid (∀ o n, Below w.heap.size w ((w.alloc o).drewN n)) := Lib.hid (fun o n => drewN_below n ((Below.refl _ w).alloc (Nat.le_refl _) _))
  simp only [opA]
  go_enter Tryz.func108, Tryz.ntmps108
  go_wp2_with fail
  refine (H.out _).mono ?_
  rintro _ _ ⟨rfl, n, rfl⟩
  go_wp2
  go_ret2
  exact ⟨rfl, HB.out _ _⟩

theorem valueFor_tr (k : Int) (a : Option Addr) (n c : Nat) (g : Nat) (r1 r2 : Int) (w : World)
    (H : ∀ o, Calls Tryz.prog 116 #[.slice a n c, .pointer (some ⟨g, 0, none⟩)] (w.alloc o) fun x w' => x = .returned (.tuple #[.int .i64 r1, .int .i64 r2]) ∧ ∃ n, w' = (w.alloc o).drewN n) :
    Calls Tryz.prog 108 #[opA k (.func (.func 116) #[] #[.pointer (some ⟨g, 0, none⟩)]), .slice a n c] w fun x w' => x = .returned (.tuple #[.int .i64 r1, .int .i64 r2]) ∧ Below w.heap.size w w' := by
  have H := Lib.hid H
  have HB : Hid (∀ o n, Below w.heap.size w ((w.alloc o).drewN n)) := Lib.hid (fun o n => drewN_below n ((Below.refl _ w).alloc (Nat.le_refl _) _))
  simp only [opA]
  go_enter Tryz.func108, Tryz.ntmps108
  go_wp2_with fail
  refine (H.out _).mono ?_
  rintro _ _ ⟨rfl, n, rfl⟩
  go_wp2
  go_ret2
  exact ⟨rfl, HB.out _ _⟩

theorem Bxd.alloc {b : Nat} {W : World} {g : Nat} {v : Value} {t : TypeId} (h : Bxd b W g v t) (o : Obj) : (W.alloc o).heap[g]? = some (.cells #[v] t (0, 0)) := (h.keep (fun _ _ hk => Below.heap_alloc _ _ _ hk)).2
theorem valueFor_any1 {b : Nat} {k : Int} {f : Value} (x : Int) (q c : Nat) (w : World) (hf : AppF b w k f) (hk : k ≤ 2) (hx : -1099511627776 ≤ x ∧ x ≤ 1099511627776) (h0 : w.cell? ⟨q, 0, none⟩ = some (.int .i64 x)) :
    Calls Tryz.prog 108 #[opA k f, .slice (some ⟨q, 0, none⟩) 1 c] w fun y w' => y = .returned (.tuple #[.int .i64 (opV k [x]).1, .int .i64 (opV k [x]).2]) ∧ Below w.heap.size w w' := by
  have hc : ∀ o, (w.alloc o).cell? ⟨q, 0, none⟩ = some (.int .i64 x) := fun o => (World.cell?_of_block (Below.heap_alloc _ _ _ (World.block_lt_of_cell? _ _ h0))).trans h0
  cases hf with
  | neg => exact valueFor_un1 1 _ _ _ _ _ w (fun o => (un1_app x _ q c hx (hc o)).mono (by rintro _ _ ⟨rfl, rfl⟩; exact ⟨rfl, 0, rfl⟩))
  | not => exact valueFor_un2 2 _ _ _ _ _ w (fun o => (un2_app x _ q c hx (hc o)).mono (by rintro _ _ ⟨rfl, rfl⟩; exact ⟨rfl, 0, rfl⟩))
  | _ => exact absurd hk (by decide)
theorem valueFor_any2 {b : Nat} {k : Int} {f : Value} (x y : Int) (q c : Nat) (w : World) (hf : AppF b w k f) (hk : ¬ k ≤ 2) (hx : -1099511627776 ≤ x ∧ x ≤ 1099511627776) (hy : -1099511627776 ≤ y ∧ y ≤ 1099511627776) (h0 : w.cell? ⟨q, 0, none⟩ = some (.int .i64 x)) (h1 : w.cell? ⟨q, 1, none⟩ = some (.int .i64 y)) :
    Calls Tryz.prog 108 #[opA k f, .slice (some ⟨q, 0, none⟩) 2 c] w fun z w' => z = .returned (.tuple #[.int .i64 (opV k [x, y]).1, .int .i64 (opV k [x, y]).2]) ∧ Below w.heap.size w w' := by
  have hc : ∀ o, (w.alloc o).cell? ⟨q, 0, none⟩ = some (.int .i64 x) := fun o => (World.cell?_of_block (Below.heap_alloc _ _ _ (World.block_lt_of_cell? _ _ h0))).trans h0
  have hd : ∀ o, (w.alloc o).cell? ⟨q, 1, none⟩ = some (.int .i64 y) := fun o => (World.cell?_of_block (Below.heap_alloc _ _ _ (World.block_lt_of_cell? _ _ h1))).trans h1
  cases hf with
  | neg => exact absurd (by decide) hk
  | not => exact absurd (by decide) hk
  | plus g hg => exact valueFor_ar 3 _ _ _ g _ _ w (fun o => ar3_app x y _ q c g hx hy (hc o) (hd o) (hg.alloc o))
  | minus g hg => exact valueFor_ar 4 _ _ _ g _ _ w (fun o => ar4_app x y _ q c g hx hy (hc o) (hd o) (hg.alloc o))
  | times g hg => exact valueFor_ar 5 _ _ _ g _ _ w (fun o => ar5_app x y _ q c g hx hy (hc o) (hd o) (hg.alloc o))
  | quo g h hg hh => exact valueFor_ar 6 _ _ _ g _ _ w (fun o => ar6_app x y _ q c g h (hh.alloc o) hx hy (hc o) (hd o) (hg.alloc o))
  | rem g h hg hh => exact valueFor_ar 7 _ _ _ g _ _ w (fun o => ar7_app x y _ q c g h (hh.alloc o) hx hy (hc o) (hd o) (hg.alloc o))
  | eq g hg => exact valueFor_tr 8 _ _ _ g _ _ w (fun o => tr8_app x y _ q c g (hc o) (hd o) (hg.alloc o))
  | ne g hg => exact valueFor_tr 9 _ _ _ g _ _ w (fun o => tr9_app x y _ q c g (hc o) (hd o) (hg.alloc o))
  | lt g hg => exact valueFor_tr 10 _ _ _ g _ _ w (fun o => tr10_app x y _ q c g (hc o) (hd o) (hg.alloc o))
  | le g hg => exact valueFor_tr 11 _ _ _ g _ _ w (fun o => tr11_app x y _ q c g (hc o) (hd o) (hg.alloc o))
  | gt g hg => exact valueFor_tr 12 _ _ _ g _ _ w (fun o => tr12_app x y _ q c g (hc o) (hd o) (hg.alloc o))
  | ge g hg => exact valueFor_tr 13 _ _ _ g _ _ w (fun o => tr13_app x y _ q c g (hc o) (hd o) (hg.alloc o))
  | and g hg => exact valueFor_tr 14 _ _ _ g _ _ w (fun o => tr14_app x y _ q c g (hc o) (hd o) (hg.alloc o))
  | or g hg => exact valueFor_tr 15 _ _ _ g _ _ w (fun o => tr15_app x y _ q c g (hc o) (hd o) (hg.alloc o))

end Go.Proofs.YtfgaihajopfmfaaGreatDoor

/-! ### ExLeaf: The program's leaf: the binding of a name. -/
namespace Go.Proofs.YtfgaihajopfmfaaGreatDoor
set_option linter.unusedSimpArgs false
set_option linter.unusedVariables false
open Go.RowKit

def ptV0 (p : Nat) : Value := .pointer (some ⟨p, 0, none⟩)
theorem leaf1_any (p : Nat) (b : Bd) (e : Ex) (sl : Value) (w : World) (hp : AtX w p 0 e sl) : Calls Tryz.prog 143 #[bdA b, .pointer (some ⟨p, 0, none⟩)] w fun x w' => x = .returned (.bool (b.1.toList == e.s.toList)) ∧ Below w.heap.size w w' := by
  have HB : Hid (∀ o, Below w.heap.size w (w.alloc o)) := Lib.hid (fun o => (Below.refl _ w).alloc (Nat.le_refl _) _)
  have x2 := Lib.hid (fun o => (hp.keep ((HB.out o).block _ hp.lt)).2.2.1)
  have y2 := x2.out (.cells #[.string b.1, .int .i64 b.2.1, .int .i64 b.2.2] TB)
  simp only [Nat.zero_add] at y2
  clear hp x2
  simp only [bdA]
  go_enter Tryz.func143, Tryz.ntmps143
  go_wp2
  go_ret
  exact ⟨rfl, HB.out _⟩
/-- The place of the first binding with a name. -/
def ixB : List Bd → ByteArray → Nat → Int
  | [], _, _ => -1
  | b :: r, s, n => if b.1 = s then (n : Int) else ixB r s (n + 1)
set_option maxHeartbeats 4000000 in
theorem index_any (p : Nat) (l : List Bd) (vb : Value) (e : Ex) (sl : Value) (w : World) (hp : AtX w p 0 e sl) (hK : KB w vb l) : Calls Tryz.prog 65 #[vb, .func (.func 143) #[] #[.pointer (some ⟨p, 0, none⟩)]] w fun x w' => x = .returned (.int .i64 (ixB l e.s 0)) ∧ Below w.heap.size w w' := by
  have HK := Lib.hid hK
  have HP := Lib.hid hp
  obtain ⟨a, c, rfl, h1, h2, hc⟩ := hK
  clear hc hp
  go_enter Tryz.func65, Tryz.ntmps65
  go_wp2
  go_loopw [8] (fun x wr => ∃ j : Nat, j ≤ l.length ∧ x = .int .i64 j ∧ Hid (ixB l e.s 0 = ixB (l.drop j) e.s j) ∧ Hid (Below w.heap.size w wr)) (fun x _ => l.length - (intOf x).toNat)
  case atStart => exact ⟨0, Nat.zero_le _, rfl, Lib.hid rfl, Lib.hid (Below.refl _ w)⟩
  case round =>
    obtain ⟨j, hj, rfl, HI, HB⟩ := hrel
    have HKr := Lib.hid (HK.out.carry HB.out)
    have HPr := Lib.hid (HP.out.keep (HB.out.block _ HP.out.lt))
    by_cases hlt : j < l.length
    · have k1 : (j : Int) < (l.length : Int) := by omega
      obtain ⟨b, off, rfl, _, y0, y1, y2⟩ := KB.at_ HKr.out j hlt
      have HIN := Lib.hid (leaf1_any p (gb l j) e sl wr HPr.out)
      have HI2 : Hid (ixB l e.s 0 = if (gb l j).1 = e.s then (j : Int) else ixB (l.drop (j + 1)) e.s (j + 1)) := Lib.hid (by rw [HI.out, drop_consB l j hlt]; rfl)
      simp only [bdA] at HIN
      go_wp2_with fail
      refine HIN.out.mono ?_
      rintro _ w4 ⟨rfl, b4⟩
      have HB4 := Lib.hid (HB.out.trans (b4.mono HB.out.size))
      clear b4 y0 y1 y2
      by_cases hs : (gb l j).1 = e.s
      · obtain ⟨s1, s2, s3⟩ := str_yes hs
        have HE : Hid (ixB l e.s 0 = (j : Int)) := Lib.hid (by rw [HI2.out, if_pos hs])
        clear hs
        go_wp2
        go_ret
        exact ⟨by rw [HE.out]; rfl, HB4.out⟩
      · obtain ⟨s1, s2, s3⟩ := str_no hs
        have HI3 : Hid (ixB l e.s 0 = ixB (l.drop (j + 1)) e.s (j + 1)) := Lib.hid (by rw [HI2.out, if_neg hs])
        clear hs
        go_wp2
        go_roundw
        case rel => exact ⟨j + 1, by omega, by go_num, HI3, HB4⟩
        case measure => simp [intOf]; omega
    · have k1 : ¬ (j : Int) < (l.length : Int) := by omega
      have HE : Hid (ixB l e.s 0 = -1) := Lib.hid (by rw [HI.out, List.drop_eq_nil_of_le (by omega)]; rfl)
      go_wp2
      go_ret
      exact ⟨by rw [HE.out]; rfl, HB.out⟩

theorem ixB_spec (l : List Bd) (s : ByteArray) : ∀ n : Nat, (fdB l s = none ∧ ixB l s n = -1) ∨ ∃ j, j < l.length ∧ ixB l s n = ((n + j : Nat) : Int) ∧ fdB l s = some (gb l j) := by
  induction l with
  | nil => intro n; exact .inl ⟨rfl, rfl⟩
  | cons b r ih =>
    intro n
    by_cases h : b.1 = s
    · exact .inr ⟨0, by simp, by simp [ixB, h], by simp [fdB, h, gb]⟩
    · rcases ih (n + 1) with ⟨h1, h2⟩ | ⟨j, h1, h2, h3⟩
      · exact .inl ⟨by simp [fdB, h, h1], by simp [ixB, h, h2]⟩
      · refine .inr ⟨j + 1, by simp; omega, ?_, ?_⟩
        · simp only [ixB, if_neg h, h2]
          congr 1
          omega
        · simp only [fdB, if_neg h, h3]
          simp [gb]
def lfB (l : List Bd) (k : Int) (s : ByteArray) (v : Int) : Bd × Int := if k = 1 then ((.empty, 1, v), 0) else match fdB l s with
  | some b => (b, 0)
  | none => (zeroB, 7)
theorem threeBlocks (w : World) (o p q : Obj) : (((w.alloc o).alloc p).alloc q).heap[w.heap.size]? = some o ∧ (((w.alloc o).alloc p).alloc q).heap[w.heap.size + 1]? = some p ∧ (((w.alloc o).alloc p).alloc q).heap[w.heap.size + 1 + 1]? = some q ∧ Below w.heap.size w (((w.alloc o).alloc p).alloc q) := by
  refine ⟨?_, ?_, ?_, ?_⟩
  · rw [Below.heap_alloc _ _ _ (by simp; omega), Below.heap_alloc _ _ _ (by simp)]; exact World.alloc_heap_new w o
  · have := World.alloc_heap_new (w.alloc o) p
    rw [Below.heap_alloc _ _ _ (by simp)]
    simpa using this
  · have := World.alloc_heap_new ((w.alloc o).alloc p) q
    simpa using this
  · exact (((Below.refl _ w).alloc (Nat.le_refl _) _).alloc (by simp) _).alloc (by simp; omega) _
set_option maxHeartbeats 4000000 in
theorem leaf_any (l : List Bd) (vb : Value) (m : Nat) (e : Ex) (sl : Value) (w : World) (hK : KX w e sl) (hB : KB w vb l) :
    Calls Tryz.prog 132 #[.agg #[.map (some m), vb], exV e sl] w fun x w' => x = .returned (.tuple #[bdA (lfB l e.k e.s e.v).1, .int .i64 (lfB l e.k e.s e.v).2]) ∧ Below w.heap.size w w' := by
  obtain ⟨k, o, s, v, es⟩ := e
  obtain ⟨sa, sc, sf, rfl, h1, h2, hc⟩ := KA.inv hK
  have h1 : es.length ≤ sc := h1
  have HB := Lib.hid hB
  obtain ⟨a, c, rfl, g1, g2, gc⟩ := hB
  have HT := Lib.hid (fun o p q => threeBlocks w o p q)
  simp only [exV, Ex.k, Ex.o, Ex.s, Ex.v, Ex.es] at *
  clear hc gc hK sf
  by_cases hk : k = 1
  · subst hk
    have hl := fun o p => run_loadVar_row (P := Tryz.prog) (((w.alloc o).alloc p).alloc (.cells #[.string ⟨#[]⟩, .int .i64 1, .int .i64 v] TB (0, 0))) (w.heap.size + 1 + 1) _ TB _ (0, 0) _ (HT.out _ _ _).2.2.1 Tryz.underlying46 rfl (by kernel_rfl)
    go_enter Tryz.func132, Tryz.ntmps132
    go_wp2
    refine bodyPost_ret (v := .tuple #[bdA (.empty, 1, v), .int .i64 0]) ?_ rfl ⟨rfl, (HT.out _ _ _).2.2.2⟩
    rw [results_cell_tmp Tryz.results132]
    simp [asAddr, hl, Result.andThen, bdA]
    rfl
  · have HE : Hid (lfB l k s v = match fdB l s with | some b => (b, 0) | none => (zeroB, 7)) := Lib.hid (by unfold lfB; rw [if_neg hk])
    have HX := Lib.hid (ixB_spec l s 0)
    obtain ⟨q1, q2⟩ := ine hk
    obtain ⟨W, hW⟩ : ∃ W, ((w.alloc (.cells #[.map (some m), .slice a l.length c] 71 (0, 0))).alloc (.cells #[.int .i64 k, .int .i64 o, .string s, .int .i64 v, .slice sa es.length sc] TX (0, 0))).alloc (.cells #[.string ⟨#[]⟩, .int .i64 0, .int .i64 0] TB (0, 0)) = W := ⟨_, rfl⟩
    have HBW : Hid (Below w.heap.size w W) := Lib.hid (by rw [← hW]; exact (HT.out _ _ _).2.2.2)
    have H0 : Hid (W.heap[w.heap.size]? = some (.cells #[.map (some m), .slice a l.length c] 71 (0, 0))) := Lib.hid (by rw [← hW]; exact (HT.out _ _ _).1)
    have H1 : Hid (W.heap[w.heap.size + 1]? = some (.cells #[.int .i64 k, .int .i64 o, .string s, .int .i64 v, .slice sa es.length sc] TX (0, 0))) := Lib.hid (by rw [← hW]; exact (HT.out _ _ _).2.1)
    have H2 : Hid (W.heap[w.heap.size + 1 + 1]? = some (.cells #[.string ⟨#[]⟩, .int .i64 0, .int .i64 0] TB (0, 0))) := Lib.hid (by rw [← hW]; exact (HT.out _ _ _).2.2.1)
    have HAX : Hid (AtX W (w.heap.size + 1) 0 (.mk k o s v es) (.slice sa es.length sc)) := Lib.hid (by
      have := H1.out
      refine ⟨?_, ?_, ?_, ?_, ?_⟩ <;> simp [World.cell?, this, Ex.k, Ex.o, Ex.s, Ex.v])
    have HIN := Lib.hid (index_any (w.heap.size + 1) l (.slice a l.length c) _ _ W HAX.out (HB.out.carry HBW.out))
    have HW := Lib.hid hW
    simp only [Ex.s] at HIN
    clear hk hW
    go_enter Tryz.func132, Tryz.ntmps132
    go_wp2_with fail
    rw [HW.out]
    refine HIN.out.mono ?_
    rintro _ w4 ⟨rfl, b4⟩
    have HB4 := Lib.hid (HBW.out.trans (b4.mono HBW.out.size))
    have HK4 := Lib.hid (HB.out.carry HB4.out)
    have H24 := Lib.hid ((b4.block _ (Array.getElem?_eq_some_iff.1 H2.out).1).trans H2.out)
    have hh := (b4.block _ (Array.getElem?_eq_some_iff.1 H0.out).1).trans H0.out
    have c0 : w4.cell? ⟨w.heap.size, 1, none⟩ = some (.slice a l.length c) := by simp [World.cell?, hh]
    clear b4 hh HIN H0 H1 H2 HAX
    rcases HX.out with ⟨hf, hi⟩ | ⟨j, hj, hi, hf⟩
    · have HE2 : Hid (lfB l k s v = (zeroB, 7)) := Lib.hid (by rw [HE.out, hf])
      rw [hi]
      clear hi hf
      have HH4 := Lib.hid (setRow_heap w4 (w.heap.size + 1 + 1) _ #[.string zeroB.1, .int .i64 zeroB.2.1, .int .i64 zeroB.2.2] _ _ H24.out)
      have HB5 : Hid (Below w.heap.size w (w4.setRow (w.heap.size + 1 + 1) #[.string zeroB.1, .int .i64 zeroB.2.1, .int .i64 zeroB.2.2])) := Lib.hid (below_setRow HB4.out (by omega) _)
      go_wp2_with (refine wpList_store_row rfl TB (.tmp 4) (.tmp 19) rfl (w.heap.size + 1 + 1) #[.string zeroB.1, .int .i64 zeroB.2.1, .int .i64 zeroB.2.2] rfl rfl _ _ H24.out (by kernel_rfl) rfl (by simp [Value.oneCell']) ?_)
      have hl := run_loadVar_row (P := Tryz.prog) (w4.setRow (w.heap.size + 1 + 1) #[.string zeroB.1, .int .i64 zeroB.2.1, .int .i64 zeroB.2.2]) (w.heap.size + 1 + 1) _ TB _ (0, 0) _ HH4.out Tryz.underlying46 rfl (by kernel_rfl)
      try simp only [Exit.inBlock, Exit.then]
      refine bodyPost_ret (v := .tuple #[bdA zeroB, .int .i64 7]) ?_ rfl ⟨by rw [HE2.out], HB5.out⟩
      rw [results_cell_tmp Tryz.results132]
      simp [asAddr, hl, Result.andThen, bdA]
    · have HE2 : Hid (lfB l k s v = (gb l j, 0)) := Lib.hid (by rw [HE.out, hf])
      obtain ⟨b, off, rfl, _, y0, y1, y2⟩ := KB.at_ HK4.out j hj
      rw [Nat.zero_add] at hi
      rw [hi]
      have k1 : (j : Int) < (l.length : Int) := by omega
      clear hi hf
      have k2 : ¬ (j : Int) < 0 := by omega
      have HH4 := Lib.hid (setRow_heap w4 (w.heap.size + 1 + 1) _ #[.string (gb l j).1, .int .i64 (gb l j).2.1, .int .i64 (gb l j).2.2] _ _ H24.out)
      have HB5 : Hid (Below w.heap.size w (w4.setRow (w.heap.size + 1 + 1) #[.string (gb l j).1, .int .i64 (gb l j).2.1, .int .i64 (gb l j).2.2])) := Lib.hid (below_setRow HB4.out (by omega) _)
      go_wp2_with (refine wpList_store_row rfl TB (.tmp 4) (.tmp 24) rfl (w.heap.size + 1 + 1) #[.string (gb l j).1, .int .i64 (gb l j).2.1, .int .i64 (gb l j).2.2] rfl rfl _ _ H24.out (by kernel_rfl) rfl (by simp [Value.oneCell']) ?_)
      have hl := run_loadVar_row (P := Tryz.prog) (w4.setRow (w.heap.size + 1 + 1) #[.string (gb l j).1, .int .i64 (gb l j).2.1, .int .i64 (gb l j).2.2]) (w.heap.size + 1 + 1) _ TB _ (0, 0) _ HH4.out Tryz.underlying46 rfl (by kernel_rfl)
      try simp only [Exit.inBlock, Exit.then]
      refine bodyPost_ret (v := .tuple #[bdA (gb l j), .int .i64 0]) ?_ rfl ⟨by rw [HE2.out], HB5.out⟩
      rw [results_cell_tmp Tryz.results132]
      simp [asAddr, hl, Result.andThen, bdA]
end Go.Proofs.YtfgaihajopfmfaaGreatDoor

/-! ### ExLook: Looking an operator up. -/
namespace Go.Proofs.YtfgaihajopfmfaaGreatDoor
set_option linter.unusedSimpArgs false
set_option linter.unusedVariables false
open Go.RowKit

/-- The table of the operators lies at m. -/
def TabO (m : Nat) (w : World) : Prop := ∃ l, TabL m w l ∧ l.map (·.1) = [1, 2, 3, 4, 5, 6, 7, 8, 9, 10, 11, 12, 13, 14, 15]
theorem TabO.below {m : Nat} {w w' : World} (h : TabO m w) (hb : Below w.heap.size w w') : TabO m w' := by
  obtain ⟨l, h1, h2⟩ := h
  exact ⟨l, h1.below hb, h2⟩
theorem TabO.drew {m n : Nat} {w : World} (h : TabO m w) : TabO m (w.drewN n) := by
  obtain ⟨l, h1, h2⟩ := h
  exact ⟨l, ⟨h1.m, fun p hp => by obtain ⟨f, h3, h4⟩ := h1.ok p hp; exact ⟨f, h3, h4.keep (fun _ _ _ => rfl)⟩⟩, h2⟩
theorem TabO.look {m : Nat} {w : World} (h : TabO m w) {k : Int} (h1 : 1 ≤ k) (h2 : k ≤ 15) : ∃ f, AppF m w k f ∧ ∀ n, (Instr.lookup TM (.map (some m)) (.int .i64 k) false).run Tryz.prog (w.drewN n) = .ok (opA k f) (w.drewN n) := by
  obtain ⟨l, T, hl⟩ := h
  have hm : k ∈ l.map (·.1) := by rw [hl]; have : k = 1 ∨ k = 2 ∨ k = 3 ∨ k = 4 ∨ k = 5 ∨ k = 6 ∨ k = 7 ∨ k = 8 ∨ k = 9 ∨ k = 10 ∨ k = 11 ∨ k = 12 ∨ k = 13 ∨ k = 14 ∨ k = 15 := by omega
                                  simpa using this
  obtain ⟨p, hp, hpk⟩ := List.mem_map.1 hm
  cases hf : l.find? (fun p => p.1 == k) with
  | none => rw [List.find?_eq_none] at hf; exact absurd (by simpa using hpk) (hf p hp)
  | some q =>
    have hq := List.mem_of_find?_eq_some hf
    have hqk : q.1 = k := by simpa using List.find?_some hf
    obtain ⟨f, e1, e2⟩ := T.ok q hq
    rw [hqk] at e1 e2
    refine ⟨f, e2, fun n => ?_⟩
    have := run_lookM (w := w.drewN n) (b := m) (l := l) k false T.m
    rw [this]
    simp [lkM, hf, e1]

end Go.Proofs.YtfgaihajopfmfaaGreatDoor

/-! ### ExCombT: What the program's combine returns for types. -/
namespace Go.Proofs.YtfgaihajopfmfaaGreatDoor
set_option linter.unusedSimpArgs false
set_option linter.unusedVariables false
open Go.RowKit

theorem ofT_any (b : Bd) (w : World) : Calls Tryz.prog 110 #[bdA b] w fun x w' => x = .returned (.int .i64 b.2.1) ∧ Below w.heap.size w w' := by
  have HB : Hid (∀ o, Below w.heap.size w (w.alloc o)) := Lib.hid (fun o => (Below.refl _ w).alloc (Nat.le_refl _) _)
  simp only [bdA]
  go_enter Tryz.func110, Tryz.ntmps110
  go_wp2
  go_ret
  exact ⟨rfl, HB.out _⟩
theorem lfT_B (l : List Bd) (k : Int) (s : ByteArray) (v : Int) : lfT l k s v = if (lfB l k s v).2 = 0 then ((lfB l k s v).1.2.1, 0) else (0, (lfB l k s v).2) := by
  unfold lfT lfB
  by_cases h : k = 1
  · simp [h]
  · simp only [h, if_false]
    cases fdB l s <;> simp
set_option maxRecDepth 100000 in
set_option maxHeartbeats 8000000 in
theorem combT_any (l : List Bd) (vb : Value) (m : Nat) (e : Ex) : ∀ (sl : Value) (w : World), KX w e sl → KB w vb l → TabO m w → prE e = 0 → szE e ≤ 100 →
    Calls Tryz.prog 106 #[.agg #[.map (some m), vb], exV e sl, .func (.func 110) #[] #[], .func (.func 111) #[] #[]] w fun x w' => x = .returned (.tuple #[.int .i64 (tyE l e).1, .int .i64 (tyE l e).2]) ∧ Below w.heap.size w w' := by
  induction e using Ex.ind with
  | h k o s v es ih =>
  intro sl w hK hB hM hP hS
  obtain ⟨a, c, sf, rfl, h1, h2, hc⟩ := KA.inv hK
  have h1 : es.length ≤ c := h1
  have HBq := Lib.hid hB
  obtain ⟨ab, cb, rfl, g1, g2, gc⟩ := hB
  have HIH := Lib.hid ih
  obtain ⟨w1, hw1⟩ : ∃ W, (w.alloc (.cells #[.map (some m), .slice ab l.length cb] 71 (0, 0))).alloc (.cells #[.int .i64 k, .int .i64 o, .string s, .int .i64 v, .slice a es.length c] TX (0, 0)) = W := ⟨_, rfl⟩
  obtain ⟨t0, t1, hb1⟩ := twoBlocks w (.cells #[.map (some m), .slice ab l.length cb] 71 (0, 0)) (.cells #[.int .i64 k, .int .i64 o, .string s, .int .i64 v, .slice a es.length c] TX (0, 0))
  rw [hw1] at t0 t1 hb1
  have HX1 : Hid (AtX w1 (w.heap.size + 1) 0 (.mk k o s v es) (.slice a es.length c)) := Lib.hid (by
    refine ⟨?_, ?_, ?_, ?_, ?_⟩ <;> simp [World.cell?, t1, Ex.k, Ex.o, Ex.s, Ex.v])
  have HV1 := Lib.hid t0
  have HK1 : Hid (KX w1 (.mk k o s v es) (.slice a es.length c)) := Lib.hid (hK.carry hb1)
  have HKB1 := Lib.hid (HBq.out.carry hb1)
  have HM1 := Lib.hid (hM.below hb1)
  have HB1 := Lib.hid hb1
  have HW := Lib.hid hw1
  have HP := Lib.hid (prE_arg hP)
  have HP0 := Lib.hid (prE_zero.1 hP).1
  have HS : Hid (szL es ≤ 100) := Lib.hid (by simp only [szE] at hS; omega)
  have HLen : Hid (es.length ≤ 100) := Lib.hid (Nat.le_trans (szL_len es) HS.out)
  simp only [exV, Ex.k, Ex.o, Ex.s, Ex.v, Ex.es] at *
  clear hc gc ih hK hM hP hS hb1 hw1 t0 t1
  by_cases hn0 : es.length = 0
  · have he : es = [] := by simpa using hn0
    subst he
    have HR : Hid (tyE l (.mk k o s v []) = lfT l k s v) := Lib.hid (by unfold tyE; rw [cbE_mk, cbL_nil]; rfl)
    have HL := Lib.hid (leaf_any l (.slice ab l.length cb) m (.mk k o s v []) (.slice a 0 c) w1 HK1.out HKB1.out)
    have HLB := Lib.hid (lfT_B l k s v)
    simp only [exV, Ex.k, Ex.o, Ex.s, Ex.v, List.length_nil] at *
    obtain ⟨r, hr⟩ : ∃ r, lfB l k s v = r := ⟨_, rfl⟩
    rw [hr] at HL HLB
    obtain ⟨b, q⟩ := r
    simp only [bdA] at HL HLB
    clear hr hn0
    go_enter Tryz.func106, Tryz.ntmps106
    go_wp2_with fail
    rw [HW.out]
    refine HL.out.mono ?_
    rintro x w4 ⟨rfl, b4⟩
    have HB4 := Lib.hid (HB1.out.trans (b4.mono HB1.out.size))
    clear b4
    by_cases hq : q = 0
    · subst hq
      have HR2 : Hid (tyE l (.mk k o s v []) = (b.2.1, 0)) := Lib.hid (by rw [HR.out, HLB.out, if_pos rfl])
      have HF := Lib.hid (fun W => ofT_any b W)
      have HBA : Hid (∀ o, Below w.heap.size w (w4.alloc o)) := Lib.hid (fun o => HB4.out.alloc HB4.out.size o)
      simp only [bdA] at HF
      go_wp2_with fail
      refine (HF.out _).mono ?_
      rintro x w5 ⟨rfl, b5⟩
      have HB5 := Lib.hid ((HBA.out _).trans (b5.mono (HBA.out _).size))
      clear b5
      go_wp2
      go_ret2
      exact ⟨by rw [HR2.out]; rfl, HB5.out⟩
    · obtain ⟨q1, q2⟩ := ine hq
      have HR2 : Hid (tyE l (.mk k o s v []) = (0, q)) := Lib.hid (by rw [HR.out, HLB.out, if_neg hq])
      have HBA : Hid (∀ o, Below w.heap.size w (w4.alloc o)) := Lib.hid (fun o => HB4.out.alloc HB4.out.size o)
      clear hq
      go_wp2
      go_ret2
      exact ⟨by rw [HR2.out]; rfl, HBA.out _⟩
  · obtain ⟨n1, n2⟩ : ((es.length : Int) == 0) = false ∧ ((es.length : Int) != 0) = true := ine (by omega)
    have hnn : ¬ (es.length : Int) = 0 := by omega
    have HN := Lib.hid hn0
    have hx1 := HX1.out.2.2.2.2
    simp only [Nat.zero_add] at hx1
    clear hn0
    go_enter Tryz.func106, Tryz.ntmps106
    go_wp2
    rw [HW.out]
    go_loopw [12, 36] (fun y x wr => ∃ (j : Nat) (zs : List Int), j ≤ es.length ∧ x = .int .i64 j ∧ Hid (cbL (lfT l) opT (es.take j) = (zs, 0)) ∧ Hid (zs.length = j) ∧ Hid (OwnZ w1.heap.size zs y wr) ∧ Hid (Below w1.heap.size w1 wr)) (fun _ x _ => es.length - (intOf x).toNat)
    case atStart => exact ⟨0, [], Nat.zero_le _, rfl, Lib.hid (by simp [cbL]), Lib.hid rfl, Lib.hid (OwnZ.nil _ _), Lib.hid (Below.refl _ w1)⟩
    case round =>
      obtain ⟨j, zs, hj, rfl, HI, HZ, HO, HB⟩ := hrel
      have HXr := Lib.hid (HX1.out.keep (HB.out.block _ HX1.out.lt))
      have HVr := Lib.hid ((HB.out.block _ (Array.getElem?_eq_some_iff.1 HV1.out).1).trans HV1.out)
      have HKr := Lib.hid (HK1.out.carry HB.out)
      have HKBr := Lib.hid (HKB1.out.carry HB.out)
      have HMr := Lib.hid (HM1.out.below HB.out)
      have v0 : wr.cell? ⟨w.heap.size, 0, none⟩ = some (.map (some m)) := by have := HVr.out; simp [World.cell?, this]
      have v1 : wr.cell? ⟨w.heap.size, 1, none⟩ = some (.slice ab l.length cb) := by have := HVr.out; simp [World.cell?, this]
      by_cases hlt : j < es.length
      · have k1 : (j : Int) < (es.length : Int) := by omega
        obtain ⟨sr, hcr⟩ := KA.at_ (show KA anyB wr es _ from HKr.out)
        obtain ⟨hKj, b, off, rfl, _, hbl, y0, y1, y2, y3, y4⟩ := hcr j hlt
        obtain ⟨a2, c2, _, hsr, _, _, _⟩ := KA.inv hKj
        obtain ⟨n2', hn2⟩ : ∃ n, (ga es j).es.length = n := ⟨_, rfl⟩
        rw [hn2] at hsr
        rw [hsr] at hKj y4
        obtain ⟨wb, hwb⟩ : ∃ X, wr.alloc (.cells #[.int .i64 (ga es j).k, .int .i64 (ga es j).o, .string (ga es j).s, .int .i64 (ga es j).v, .slice a2 n2' c2] TX) = X := ⟨_, rfl⟩
        have hbb : Below wr.heap.size wr wb := by rw [← hwb]; exact (Below.refl _ wr).alloc (Nat.le_refl _) _
        have HBb := Lib.hid (HB.out.trans (hbb.mono HB.out.size))
        have HOb := Lib.hid (HO.out.below hbb)
        have HIN := Lib.hid (HIH.out (ga es j) (ga_mem hlt) (.slice a2 n2' c2) wb (KA.carry hKj hbb) (HKBr.out.carry hbb) (HMr.out.below hbb) (HP.out _ (ga_mem hlt)) (Nat.le_trans (szE_arg (ga_mem hlt)) HS.out))
        have HST := Lib.hid (fun x h h0 => cbL_stop (lfT l) opT (x := x) HI.out hlt h h0)
        have HNX := Lib.hid (fun h => cbL_next (lfT l) opT HI.out hlt h)
        obtain ⟨p, hp⟩ : ∃ p, tyE l (ga es j) = p := ⟨_, rfl⟩
        have hp' : cbE (lfT l) opT (ga es j) = p := hp
        rw [hp'] at HST HNX
        rw [hp] at HIN
        obtain ⟨x, q⟩ := p
        simp only [] at HST HNX HIN
        have v0' : wb.cell? ⟨w.heap.size, 0, none⟩ = some (.map (some m)) := cell_laterZ hbb v0
        have v1' : wb.cell? ⟨w.heap.size, 1, none⟩ = some (.slice ab l.length cb) := cell_laterZ hbb v1
        rw [← hwb] at v0' v1'
        have HWB := Lib.hid hwb
        clear hKj hcr hp hp' hsr hn2 hbb hwb
        go_wp2_with fail
        rw [HWB.out]
        refine HIN.out.mono ?_
        rintro x' w4 ⟨rfl, b4⟩
        have HO4 := Lib.hid (HOb.out.below b4)
        have HB4 := Lib.hid (HBb.out.trans (b4.mono HBb.out.size))
        clear b4 v0 v1 v0' v1'
        by_cases hq : q = 0
        · subst hq
          obtain ⟨v', w5, hr, ho, hb, _, hsz⟩ := row_next w1.heap.size w4 _ zs x HO4.out (by have := HLen.out; have := HZ.out; omega) HB4.out.size
          have HO5 := Lib.hid ho
          have HB5 := Lib.hid (HB4.out.trans hb)
          have HI5 := Lib.hid (HNX.out rfl)
          have HZ5 : Hid ((zs ++ [x]).length = j + 1) := Lib.hid (by rw [List.length_append, HZ.out]; rfl)
          clear ho hb hsz
          go_wp2_with (at_builtin; refine append_by_run _ rfl _ _ 79 rfl _ _ rfl rfl _ _ hr ?_)
          clear hr
          go_wp2
          go_roundw
          case rel => exact ⟨j + 1, zs ++ [x], by omega, by go_num, HI5, HZ5, HO5, HB5⟩
          case measure => simp [intOf]; omega
        · obtain ⟨q1, q2⟩ := ine hq
          have HR : Hid (tyE l (.mk k o s v es) = (0, q)) := Lib.hid (by
            unfold tyE
            rw [cbE_mk, HST.out q rfl hq]
            simp [hq])
          clear hq
          go_wp2
          go_ret2
          exact ⟨by rw [HR.out]; rfl, HB1.out.trans (HB4.out.mono HB1.out.size)⟩
      · have k1 : ¬ (j : Int) < (es.length : Int) := by omega
        have hje : j = es.length := by omega
        have HI2 : Hid (cbL (lfT l) opT es = (zs, 0)) := Lib.hid (by have := HI.out; rwa [hje, List.take_length] at this)
        have HZ2 : Hid (zs.length = es.length) := Lib.hid (by rw [HZ.out, hje])
        have HE : Hid (tyE l (.mk k o s v es) = opT o zs) := Lib.hid (by unfold tyE; rw [cbE_mk, HI2.out]; simp [HN.out])
        have HBo : Hid (Below w.heap.size w wr) := Lib.hid (HB1.out.trans (HB.out.mono HB1.out.size))
        obtain ⟨x0, x1, x2, x3, x4⟩ := HXr.out
        simp only [Ex.k, Ex.o, Ex.s, Ex.v, Ex.es, Nat.zero_add] at x0 x1 x2 x3 x4
        have ho : 1 ≤ o ∧ o ≤ 15 ∧ (o ≤ 2 → es.length = 1) ∧ (¬ o ≤ 2 → es.length = 2) := by
          rcases prP_zero.1 HP0.out with h | h | h | h
          · exact absurd h.2.2.2.2.2 HN.out
          · exact absurd h.2.2.2.2 HN.out
          · omega
          · omega
        obtain ⟨f, hf, hlk⟩ := HMr.out.look ho.1 ho.2.1
        clear HIH HI hje
        have hz0 : 0 < zs.length := by rw [HZ2.out]; omega
        obtain ⟨g, cap, rfl, hgB⟩ := ownZ_some (show wr.ownsRow w1.heap.size TZ 1 _ zs.length (intV zs) from HO.out) hz0
        have HC : Hid (∀ j, j < zs.length → wr.cell? ⟨g, j, none⟩ = some (.int .i64 (gz zs j))) := Lib.hid (fun j hj => by
          have := World.ownsRow.cellAt (show wr.ownsRow w1.heap.size TZ 1 _ zs.length (intV zs) from HO.out) j (by omega)
          rw [this, intV_get zs hj])
        have HF := Lib.hid (typeFor_any o f g cap zs wr HC.out hz0 (by have := HLen.out; have := HZ2.out; omega))
        obtain ⟨r, hr⟩ : ∃ r, opT o zs = r := ⟨_, rfl⟩
        rw [hr] at HF HE
        obtain ⟨r1, r2⟩ := r
        simp only [opA] at HF hlk
        clear hr hz0 hgB ho hf
        have hl0 : (Instr.lookup TM (.map (some m)) (.int .i64 o) false).run Tryz.prog wr = .ok _ wr := hlk 0
        clear hlk
        go_wp2_with fail
        try rw [hl0]
        go_wp2_with fail
        refine HF.out.mono ?_
        rintro _ w4 ⟨rfl, b4⟩
        have HB4 := Lib.hid (HBo.out.trans (b4.mono HBo.out.size))
        clear b4
        go_wp2
        go_ret2
        exact ⟨by rw [HE.out]; rfl, HB4.out⟩

end Go.Proofs.YtfgaihajopfmfaaGreatDoor

/-! ### ExCombV: What the program's combine returns for values. -/
namespace Go.Proofs.YtfgaihajopfmfaaGreatDoor
set_option linter.unusedSimpArgs false
set_option linter.unusedVariables false
open Go.RowKit

theorem ofV_any (b : Bd) (w : World) : Calls Tryz.prog 107 #[bdA b] w fun x w' => x = .returned (.int .i64 b.2.2) ∧ Below w.heap.size w w' := by
  have HB : Hid (∀ o, Below w.heap.size w (w.alloc o)) := Lib.hid (fun o => (Below.refl _ w).alloc (Nat.le_refl _) _)
  simp only [bdA]
  go_enter Tryz.func107, Tryz.ntmps107
  go_wp2
  go_ret
  exact ⟨rfl, HB.out _⟩
theorem lfV_B (l : List Bd) (k : Int) (s : ByteArray) (v : Int) : lfV l k s v = if (lfB l k s v).2 = 0 then ((lfB l k s v).1.2.2, 0) else (0, (lfB l k s v).2) := by
  unfold lfV lfB
  by_cases h : k = 1
  · simp [h]
  · simp only [h, if_false]
    cases fdB l s <;> simp
set_option maxRecDepth 100000 in
set_option maxHeartbeats 8000000 in
theorem combV_any (l : List Bd) (hl : ckB l = true) (vb : Value) (m : Nat) (e : Ex) : ∀ (sl : Value) (w : World), KX w e sl → KB w vb l → TabO m w → prE e = 0 → szE e ≤ 100 → (tyE l e).2 = 0 →
    Calls Tryz.prog 106 #[.agg #[.map (some m), vb], exV e sl, .func (.func 107) #[] #[], .func (.func 108) #[] #[]] w fun x w' => x = .returned (.tuple #[.int .i64 (vlE l e).1, .int .i64 (vlE l e).2]) ∧ Below w.heap.size w w' := by
  induction e using Ex.ind with
  | h k o s v es ih =>
  intro sl w hK hB hM hP hS hT
  obtain ⟨a, c, sf, rfl, h1, h2, hc⟩ := KA.inv hK
  have h1 : es.length ≤ c := h1
  have HBq := Lib.hid hB
  obtain ⟨ab, cb, rfl, g1, g2, gc⟩ := hB
  have HIH := Lib.hid ih
  obtain ⟨w1, hw1⟩ : ∃ W, (w.alloc (.cells #[.map (some m), .slice ab l.length cb] 71 (0, 0))).alloc (.cells #[.int .i64 k, .int .i64 o, .string s, .int .i64 v, .slice a es.length c] TX (0, 0)) = W := ⟨_, rfl⟩
  obtain ⟨t0, t1, hb1⟩ := twoBlocks w (.cells #[.map (some m), .slice ab l.length cb] 71 (0, 0)) (.cells #[.int .i64 k, .int .i64 o, .string s, .int .i64 v, .slice a es.length c] TX (0, 0))
  rw [hw1] at t0 t1 hb1
  have HX1 : Hid (AtX w1 (w.heap.size + 1) 0 (.mk k o s v es) (.slice a es.length c)) := Lib.hid (by
    refine ⟨?_, ?_, ?_, ?_, ?_⟩ <;> simp [World.cell?, t1, Ex.k, Ex.o, Ex.s, Ex.v])
  have HV1 := Lib.hid t0
  have HK1 : Hid (KX w1 (.mk k o s v es) (.slice a es.length c)) := Lib.hid (hK.carry hb1)
  have HKB1 := Lib.hid (HBq.out.carry hb1)
  have HM1 := Lib.hid (hM.below hb1)
  have HB1 := Lib.hid hb1
  have HW := Lib.hid hw1
  have HP := Lib.hid (prE_arg hP)
  have HTA := Lib.hid (tyE_args hT)
  have HTE := Lib.hid hT
  have HPE := Lib.hid hP
  have HP0 := Lib.hid (prE_zero.1 hP).1
  have HS : Hid (szL es ≤ 100) := Lib.hid (by simp only [szE] at hS; omega)
  have HLen : Hid (es.length ≤ 100) := Lib.hid (Nat.le_trans (szL_len es) HS.out)
  simp only [exV, Ex.k, Ex.o, Ex.s, Ex.v, Ex.es] at *
  clear hc gc ih hK hM hP hS hb1 hw1 t0 t1 hT
  by_cases hn0 : es.length = 0
  · have he : es = [] := by simpa using hn0
    subst he
    have HR : Hid (vlE l (.mk k o s v []) = lfV l k s v) := Lib.hid (by unfold vlE; rw [cbE_mk, cbL_nil]; rfl)
    have HL := Lib.hid (leaf_any l (.slice ab l.length cb) m (.mk k o s v []) (.slice a 0 c) w1 HK1.out HKB1.out)
    have HLB := Lib.hid (lfV_B l k s v)
    simp only [exV, Ex.k, Ex.o, Ex.s, Ex.v, List.length_nil] at *
    obtain ⟨r, hr⟩ : ∃ r, lfB l k s v = r := ⟨_, rfl⟩
    rw [hr] at HL HLB
    obtain ⟨b, q⟩ := r
    simp only [bdA] at HL HLB
    clear hr hn0
    go_enter Tryz.func106, Tryz.ntmps106
    go_wp2_with fail
    rw [HW.out]
    refine HL.out.mono ?_
    rintro x w4 ⟨rfl, b4⟩
    have HB4 := Lib.hid (HB1.out.trans (b4.mono HB1.out.size))
    clear b4
    by_cases hq : q = 0
    · subst hq
      have HR2 : Hid (vlE l (.mk k o s v []) = (b.2.2, 0)) := Lib.hid (by rw [HR.out, HLB.out, if_pos rfl])
      have HF := Lib.hid (fun W => ofV_any b W)
      have HBA : Hid (∀ o, Below w.heap.size w (w4.alloc o)) := Lib.hid (fun o => HB4.out.alloc HB4.out.size o)
      simp only [bdA] at HF
      go_wp2_with fail
      refine (HF.out _).mono ?_
      rintro x w5 ⟨rfl, b5⟩
      have HB5 := Lib.hid ((HBA.out _).trans (b5.mono (HBA.out _).size))
      clear b5
      go_wp2
      go_ret2
      exact ⟨by rw [HR2.out]; rfl, HB5.out⟩
    · obtain ⟨q1, q2⟩ := ine hq
      have HR2 : Hid (vlE l (.mk k o s v []) = (0, q)) := Lib.hid (by rw [HR.out, HLB.out, if_neg hq])
      have HBA : Hid (∀ o, Below w.heap.size w (w4.alloc o)) := Lib.hid (fun o => HB4.out.alloc HB4.out.size o)
      clear hq
      go_wp2
      go_ret2
      exact ⟨by rw [HR2.out]; rfl, HBA.out _⟩
  · obtain ⟨n1, n2⟩ : ((es.length : Int) == 0) = false ∧ ((es.length : Int) != 0) = true := ine (by omega)
    have hnn : ¬ (es.length : Int) = 0 := by omega
    have HN := Lib.hid hn0
    have hx1 := HX1.out.2.2.2.2
    simp only [Nat.zero_add] at hx1
    clear hn0
    go_enter Tryz.func106, Tryz.ntmps106
    go_wp2
    rw [HW.out]
    go_loopw [12, 36] (fun y x wr => ∃ (j : Nat) (zs : List Int), j ≤ es.length ∧ x = .int .i64 j ∧ Hid (cbL (lfV l) opV (es.take j) = (zs, 0)) ∧ Hid (zs.length = j) ∧ Hid (OwnZ w1.heap.size zs y wr) ∧ Hid (Below w1.heap.size w1 wr)) (fun _ x _ => es.length - (intOf x).toNat)
    case atStart => exact ⟨0, [], Nat.zero_le _, rfl, Lib.hid (by simp [cbL]), Lib.hid rfl, Lib.hid (OwnZ.nil _ _), Lib.hid (Below.refl _ w1)⟩
    case round =>
      obtain ⟨j, zs, hj, rfl, HI, HZ, HO, HB⟩ := hrel
      have HXr := Lib.hid (HX1.out.keep (HB.out.block _ HX1.out.lt))
      have HVr := Lib.hid ((HB.out.block _ (Array.getElem?_eq_some_iff.1 HV1.out).1).trans HV1.out)
      have HKr := Lib.hid (HK1.out.carry HB.out)
      have HKBr := Lib.hid (HKB1.out.carry HB.out)
      have HMr := Lib.hid (HM1.out.below HB.out)
      have v0 : wr.cell? ⟨w.heap.size, 0, none⟩ = some (.map (some m)) := by have := HVr.out; simp [World.cell?, this]
      have v1 : wr.cell? ⟨w.heap.size, 1, none⟩ = some (.slice ab l.length cb) := by have := HVr.out; simp [World.cell?, this]
      by_cases hlt : j < es.length
      · have k1 : (j : Int) < (es.length : Int) := by omega
        obtain ⟨sr, hcr⟩ := KA.at_ (show KA anyB wr es _ from HKr.out)
        obtain ⟨hKj, b, off, rfl, _, hbl, y0, y1, y2, y3, y4⟩ := hcr j hlt
        obtain ⟨a2, c2, _, hsr, _, _, _⟩ := KA.inv hKj
        obtain ⟨n2', hn2⟩ : ∃ n, (ga es j).es.length = n := ⟨_, rfl⟩
        rw [hn2] at hsr
        rw [hsr] at hKj y4
        obtain ⟨wb, hwb⟩ : ∃ X, wr.alloc (.cells #[.int .i64 (ga es j).k, .int .i64 (ga es j).o, .string (ga es j).s, .int .i64 (ga es j).v, .slice a2 n2' c2] TX) = X := ⟨_, rfl⟩
        have hbb : Below wr.heap.size wr wb := by rw [← hwb]; exact (Below.refl _ wr).alloc (Nat.le_refl _) _
        have HBb := Lib.hid (HB.out.trans (hbb.mono HB.out.size))
        have HOb := Lib.hid (HO.out.below hbb)
        have HIN := Lib.hid (HIH.out (ga es j) (ga_mem hlt) (.slice a2 n2' c2) wb (KA.carry hKj hbb) (HKBr.out.carry hbb) (HMr.out.below hbb) (HP.out _ (ga_mem hlt)) (Nat.le_trans (szE_arg (ga_mem hlt)) HS.out) (HTA.out _ (ga_mem hlt)))
        have HST := Lib.hid (fun x h h0 => cbL_stop (lfV l) opV (x := x) HI.out hlt h h0)
        have HNX := Lib.hid (fun h => cbL_next (lfV l) opV HI.out hlt h)
        obtain ⟨p, hp⟩ : ∃ p, vlE l (ga es j) = p := ⟨_, rfl⟩
        have hp' : cbE (lfV l) opV (ga es j) = p := hp
        rw [hp'] at HST HNX
        rw [hp] at HIN
        obtain ⟨x, q⟩ := p
        simp only [] at HST HNX HIN
        have v0' : wb.cell? ⟨w.heap.size, 0, none⟩ = some (.map (some m)) := cell_laterZ hbb v0
        have v1' : wb.cell? ⟨w.heap.size, 1, none⟩ = some (.slice ab l.length cb) := cell_laterZ hbb v1
        rw [← hwb] at v0' v1'
        have HWB := Lib.hid hwb
        clear hKj hcr hp hp' hsr hn2 hbb hwb
        go_wp2_with fail
        rw [HWB.out]
        refine HIN.out.mono ?_
        rintro x' w4 ⟨rfl, b4⟩
        have HO4 := Lib.hid (HOb.out.below b4)
        have HB4 := Lib.hid (HBb.out.trans (b4.mono HBb.out.size))
        clear b4 v0 v1 v0' v1'
        by_cases hq : q = 0
        · subst hq
          obtain ⟨v', w5, hr, ho, hb, _, hsz⟩ := row_next w1.heap.size w4 _ zs x HO4.out (by have := HLen.out; have := HZ.out; omega) HB4.out.size
          have HO5 := Lib.hid ho
          have HB5 := Lib.hid (HB4.out.trans hb)
          have HI5 := Lib.hid (HNX.out rfl)
          have HZ5 : Hid ((zs ++ [x]).length = j + 1) := Lib.hid (by rw [List.length_append, HZ.out]; rfl)
          clear ho hb hsz
          go_wp2_with (at_builtin; refine append_by_run _ rfl _ _ 79 rfl _ _ rfl rfl _ _ hr ?_)
          clear hr
          go_wp2
          go_roundw
          case rel => exact ⟨j + 1, zs ++ [x], by omega, by go_num, HI5, HZ5, HO5, HB5⟩
          case measure => simp [intOf]; omega
        · obtain ⟨q1, q2⟩ := ine hq
          have HR : Hid (vlE l (.mk k o s v es) = (0, q)) := Lib.hid (by
            unfold vlE
            rw [cbE_mk, HST.out q rfl hq]
            simp [hq])
          clear hq
          go_wp2
          go_ret2
          exact ⟨by rw [HR.out]; rfl, HB1.out.trans (HB4.out.mono HB1.out.size)⟩
      · have k1 : ¬ (j : Int) < (es.length : Int) := by omega
        have hje : j = es.length := by omega
        have HI2 : Hid (cbL (lfV l) opV es = (zs, 0)) := Lib.hid (by have := HI.out; rwa [hje, List.take_length] at this)
        have HZ2 : Hid (zs.length = es.length) := Lib.hid (by rw [HZ.out, hje])
        have HE : Hid (vlE l (.mk k o s v es) = opV o zs) := Lib.hid (by unfold vlE; rw [cbE_mk, HI2.out]; simp [HN.out])
        have HBo : Hid (Below w.heap.size w wr) := Lib.hid (HB1.out.trans (HB.out.mono HB1.out.size))
        obtain ⟨x0, x1, x2, x3, x4⟩ := HXr.out
        simp only [Ex.k, Ex.o, Ex.s, Ex.v, Ex.es, Nat.zero_add] at x0 x1 x2 x3 x4
        have ho : 1 ≤ o ∧ o ≤ 15 ∧ (o ≤ 2 → es.length = 1) ∧ (¬ o ≤ 2 → es.length = 2) := by
          rcases prP_zero.1 HP0.out with h | h | h | h
          · exact absurd h.2.2.2.2.2 HN.out
          · exact absurd h.2.2.2.2 HN.out
          · omega
          · omega
        obtain ⟨f, hf, hlk⟩ := HMr.out.look ho.1 ho.2.1
        clear HIH HI hje
        obtain ⟨hrg, hbo⟩ := val_args hl HPE.out HTE.out HI2.out
        by_cases h2 : o ≤ 2
        · obtain ⟨x, rfl⟩ := list_one (HZ2.out.trans (ho.2.2.1 h2))
          obtain ⟨g, cap, rfl, hgB⟩ := ownZ_some (show wr.ownsRow w1.heap.size TZ 1 _ 1 (intV [x]) from HO.out) (by omega)
          have hc0 : wr.cell? ⟨g, 0, none⟩ = some (.int .i64 x) := World.ownsRow.cellAt (show wr.ownsRow w1.heap.size TZ 1 _ 1 (intV [x]) from HO.out) 0 (by omega)
          have hx1 : -1099511627776 ≤ x ∧ x ≤ 1099511627776 := hrg 0 (by simp)
          have HF := Lib.hid (valueFor_any1 x g cap wr hf h2 hx1 hc0)
          obtain ⟨r, hr⟩ : ∃ r, opV o [x] = r := ⟨_, rfl⟩
          rw [hr] at HF HE
          obtain ⟨r1, r2⟩ := r
          simp only [opA] at HF hlk
          clear hr hgB ho hf hrg hbo h2 hx1
          have hl0 : (Instr.lookup TM (.map (some m)) (.int .i64 o) false).run Tryz.prog wr = .ok _ wr := hlk 0
          clear hlk
          go_wp2_with fail
          try rw [hl0]
          go_wp2_with fail
          refine HF.out.mono ?_
          rintro _ w4 ⟨rfl, b4⟩
          have HB4 := Lib.hid (HBo.out.trans (b4.mono HBo.out.size))
          clear b4
          go_wp2
          go_ret2
          exact ⟨by rw [HE.out]; rfl, HB4.out⟩
        · obtain ⟨x, y, rfl⟩ := list_two (HZ2.out.trans (ho.2.2.2 h2))
          obtain ⟨g, cap, rfl, hgB⟩ := ownZ_some (show wr.ownsRow w1.heap.size TZ 1 _ 2 (intV [x, y]) from HO.out) (by omega)
          have hc0 : wr.cell? ⟨g, 0, none⟩ = some (.int .i64 x) := World.ownsRow.cellAt (show wr.ownsRow w1.heap.size TZ 1 _ 2 (intV [x, y]) from HO.out) 0 (by omega)
          have hc1 : wr.cell? ⟨g, 1, none⟩ = some (.int .i64 y) := World.ownsRow.cellAt (show wr.ownsRow w1.heap.size TZ 1 _ 2 (intV [x, y]) from HO.out) 1 (by omega)
          have hx1 : -1099511627776 ≤ x ∧ x ≤ 1099511627776 := hrg 0 (by simp)
          have hx2 : -1099511627776 ≤ y ∧ y ≤ 1099511627776 := hrg 1 (by simp)
          have HF := Lib.hid (valueFor_any2 x y g cap wr hf h2 hx1 hx2 hc0 hc1)
          obtain ⟨r, hr⟩ : ∃ r, opV o [x, y] = r := ⟨_, rfl⟩
          rw [hr] at HF HE
          obtain ⟨r1, r2⟩ := r
          simp only [opA] at HF hlk
          clear hr hgB ho hf hrg hbo h2 hx1 hx2
          have hl0 : (Instr.lookup TM (.map (some m)) (.int .i64 o) false).run Tryz.prog wr = .ok _ wr := hlk 0
          clear hlk
          go_wp2_with fail
          try rw [hl0]
          go_wp2_with fail
          refine HF.out.mono ?_
          rintro _ w4 ⟨rfl, b4⟩
          have HB4 := Lib.hid (HBo.out.trans (b4.mono HBo.out.size))
          clear b4
          go_wp2
          go_ret2
          exact ⟨by rw [HE.out]; rfl, HB4.out⟩

end Go.Proofs.YtfgaihajopfmfaaGreatDoor

/-! ### ExEval: The program's Type and Eval. -/
namespace Go.Proofs.YtfgaihajopfmfaaGreatDoor
set_option linter.unusedSimpArgs false
set_option linter.unusedVariables false
open Go.RowKit

abbrev TEv : TypeId := 71
theorem TabO.put {g m : Nat} {w : World} (h : TabO m w) (hg : g < m) (cs : Array Value) : TabO m (w.setRow g cs) := by
  obtain ⟨l, h1, h2⟩ := h
  exact ⟨l, ⟨(setRow_other w g m cs (by omega)).trans h1.m, fun p hp => by obtain ⟨f, h3, h4⟩ := h1.ok p hp; exact ⟨f, h3, h4.keep (fun k hk _ => setRow_other w g k cs (by omega))⟩⟩, h2⟩
set_option maxHeartbeats 4000000 in
theorem evF_any (l : List Bd) (vb : Value) (w : World) (hB : KB w vb l) : Calls Tryz.prog 52 #[vb] w fun x w' => ∃ m, x = .returned (.agg #[.map (some m), vb]) ∧ TabO m w' ∧ Below w.heap.size w w' := by
  obtain ⟨a, c, rfl, h1, h2, hc⟩ := hB
  have HO := Lib.hid (fun W => operators_any W)
  obtain ⟨W, hW⟩ : ∃ W, w.alloc (.cells #[.map none, .slice none 0 0] TEv (0, 0)) = W := ⟨_, rfl⟩
  have hb : Below w.heap.size w W := by rw [← hW]; exact (Below.refl _ w).alloc (Nat.le_refl _) _
  have HH : Hid (W.heap[w.heap.size]? = some (.cells #[.map none, .slice none 0 0] TEv (0, 0))) := Lib.hid (by rw [← hW]; exact World.alloc_heap_new w _)
  have hs : w.heap.size < W.heap.size := by rw [← hW]; simp
  have HB := Lib.hid hb
  have HS := Lib.hid hs
  have HW := Lib.hid hW
  clear hc hb hW hs
  go_enter Tryz.func52, Tryz.ntmps52
  go_wp2_with fail
  rw [HW.out]
  refine (HO.out _).mono ?_
  rintro x w4 ⟨rfl, ht, b4⟩
  have HT : Hid (TabO W.heap.size w4) := Lib.hid ht
  have HB4 := Lib.hid (HB.out.trans (b4.mono HB.out.size))
  have H4 := Lib.hid ((b4.block _ (Array.getElem?_eq_some_iff.1 HH.out).1).trans HH.out)
  clear ht b4
  have HH4 := Lib.hid (setRow_heap w4 w.heap.size _ #[.map (some W.heap.size), .slice a l.length c] _ _ H4.out)
  have HB5 : Hid (Below w.heap.size w (w4.setRow w.heap.size #[.map (some W.heap.size), .slice a l.length c])) := Lib.hid (below_setRow HB4.out (Nat.le_refl _) _)
  have HT5 := Lib.hid (HT.out.put HS.out #[.map (some W.heap.size), .slice a l.length c])
  go_wp2_with (refine wpList_store_row rfl TEv (.tmp 2) (.tmp 5) rfl w.heap.size #[.map (some W.heap.size), .slice a l.length c] rfl rfl _ _ H4.out (by kernel_rfl) rfl (by simp [Value.oneCell']) ?_)
  try simp only [Exit.inBlock, Exit.then]
  exact bodyPost_ret (results_cell_row (P := Tryz.prog) Tryz.results52 _ _ w.heap.size TEv _ (0, 0) _ rfl HH4.out Tryz.underlying71 rfl (by kernel_rfl)) rfl ⟨_, rfl, HT5.out, HB5.out⟩
set_option maxHeartbeats 4000000 in
theorem typeOf_any (l : List Bd) (vb : Value) (m : Nat) (e : Ex) (sl : Value) (w : World) (hK : KX w e sl) (hB : KB w vb l) (hM : TabO m w) (hP : prE e = 0) (hS : szE e ≤ 100) :
    Calls Tryz.prog 63 #[.agg #[.map (some m), vb], exV e sl] w fun x w' => x = .returned (.tuple #[.int .i64 (tyE l e).1, .int .i64 (tyE l e).2]) ∧ Below w.heap.size w w' := by
  obtain ⟨a, c, sf, rfl, h1, h2, hc⟩ := KA.inv hK
  have HBq := Lib.hid hB
  obtain ⟨ab, cb, rfl, g1, g2, gc⟩ := hB
  have HT := Lib.hid (fun o p => (twoBlocks w o p).2.2)
  have HIN := Lib.hid (fun o p => combT_any l _ m e _ _ (hK.carry (HT.out o p)) (HBq.out.carry (HT.out o p)) (hM.below (HT.out o p)) hP hS)
  simp only [exV] at HIN ⊢
  clear hK hc gc hM hP hS
  go_enter Tryz.func63, Tryz.ntmps63
  go_wp2_with fail
  refine (HIN.out _ _).mono ?_
  rintro x w4 ⟨rfl, b4⟩
  have HB4 := Lib.hid ((HT.out _ _).trans (b4.mono (HT.out _ _).size))
  clear b4
  go_wp2
  go_ret2
  exact ⟨rfl, HB4.out⟩
set_option maxHeartbeats 4000000 in
theorem valueOf_any (l : List Bd) (hl : ckB l = true) (vb : Value) (m : Nat) (e : Ex) (sl : Value) (w : World) (hK : KX w e sl) (hB : KB w vb l) (hM : TabO m w) (hP : prE e = 0) (hS : szE e ≤ 100) (hT : (tyE l e).2 = 0) :
    Calls Tryz.prog 61 #[.agg #[.map (some m), vb], exV e sl] w fun x w' => x = .returned (.tuple #[.int .i64 (vlE l e).1, .int .i64 (vlE l e).2]) ∧ Below w.heap.size w w' := by
  obtain ⟨a, c, sf, rfl, h1, h2, hc⟩ := KA.inv hK
  have HBq := Lib.hid hB
  obtain ⟨ab, cb, rfl, g1, g2, gc⟩ := hB
  have HT := Lib.hid (fun o p => (twoBlocks w o p).2.2)
  have HIN := Lib.hid (fun o p => combV_any l hl _ m e _ _ (hK.carry (HT.out o p)) (HBq.out.carry (HT.out o p)) (hM.below (HT.out o p)) hP hS hT)
  simp only [exV] at HIN ⊢
  clear hK hc gc hM hP hS hT
  go_enter Tryz.func61, Tryz.ntmps61
  go_wp2_with fail
  refine (HIN.out _ _).mono ?_
  rintro x w4 ⟨rfl, b4⟩
  have HB4 := Lib.hid ((HT.out _ _).trans (b4.mono (HT.out _ _).size))
  clear b4
  go_wp2
  go_ret2
  exact ⟨rfl, HB4.out⟩

end Go.Proofs.YtfgaihajopfmfaaGreatDoor

/-! ### ExTE: What the program's Type and Eval return. -/
namespace Go.Proofs.YtfgaihajopfmfaaGreatDoor
set_option linter.unusedSimpArgs false
set_option linter.unusedVariables false
open Go.RowKit

abbrev TyS (b : Nat) (e : Ex) (sl vb : Value) (l : List Bd) (w w' : World) : Prop := w'.cell? ⟨b, 0, none⟩ = some (.int .i64 e.k) ∧ w'.cell? ⟨b, 1, none⟩ = some (.int .i64 e.o) ∧ w'.cell? ⟨b, 2, none⟩ = some (.string e.s) ∧ w'.cell? ⟨b, 3, none⟩ = some (.int .i64 e.v) ∧ w'.cell? ⟨b, 4, none⟩ = some sl ∧ KX w' e sl ∧ KB w' vb l ∧ Below w.heap.size w w'
theorem tyS_keep {b : Nat} {e : Ex} {sl vb : Value} {l : List Bd} {w w' w2 : World} (h : TyS b e sl vb l w w') (hb : Below w'.heap.size w' w2) : TyS b e sl vb l w w2 := by
  obtain ⟨h0, h1, h2, h3, h4, h5, h6, h7⟩ := h
  exact ⟨cell_laterZ hb h0, cell_laterZ hb h1, cell_laterZ hb h2, cell_laterZ hb h3, cell_laterZ hb h4, h5.carry hb, h6.carry hb, h7.trans (hb.mono h7.size)⟩
theorem tyS_drew {b : Nat} {e : Ex} {sl vb : Value} {l : List Bd} {w w' : World} (h : TyS b e sl vb l w w') : TyS b e sl vb l w w'.drew := tyS_keep h ((Below.refl _ _).drew)
set_option maxRecDepth 100000 in
set_option maxHeartbeats 4000000 in
theorem Type_any (l : List Bd) (vb : Value) (e : Ex) (sl : Value) (w : World) (hK : KX w e sl) (hB : KB w vb l) (hf : fitE e) (hl : fitB l) :
    Calls Tryz.prog 27 #[exV e sl, vb] w fun x w' => x = .returned (.tuple #[.int .i64 (tyF l e).1, .int .i64 (tyF l e).2]) ∧ Below w.heap.size w w' := by
  obtain ⟨sa, sc, sf, rfl, s1, s2, sx⟩ := KA.inv hK
  have HBq := Lib.hid hB
  obtain ⟨ab, cb, rfl, g1, g2, gc⟩ := hB
  obtain ⟨W, hW⟩ : ∃ W, w.alloc (.cells #[.int .i64 e.k, .int .i64 e.o, .string e.s, .int .i64 e.v, .slice sa e.es.length sc] TX) = W := ⟨_, rfl⟩
  have hb0 : Below w.heap.size w W := by rw [← hW]; exact (Below.refl _ w).alloc (Nat.le_refl _) _
  have HX0 : Hid (AtX W w.heap.size 0 e (.slice sa e.es.length sc)) := Lib.hid (by rw [← hW]; exact boxX w e.k e.o e.s e.v _ e.es)
  have HIN := Lib.hid (check_any e _ W (hK.carry hb0) hf)
  have HB0 := Lib.hid hb0
  have HW := Lib.hid hW
  have HK0 := Lib.hid (hK.carry hb0)
  have HKB0 := Lib.hid (HBq.out.carry hb0)
  have HF := Lib.hid hl
  simp only [exV] at HIN ⊢
  clear hb0 hK hf hl hW sx gc
  go_enter Tryz.func27, Tryz.ntmps27
  go_wp2_with fail
  rw [HW.out]
  refine HIN.out.mono ?_
  rintro x w4 ⟨rfl, b4⟩
  have HB4 := Lib.hid (HB0.out.trans (b4.mono HB0.out.size))
  have HX4 := Lib.hid (HX0.out.keep (b4.block _ HX0.out.lt))
  have HK4 := Lib.hid (HK0.out.carry b4)
  have HKB4 := Lib.hid (HKB0.out.carry b4)
  clear b4 HIN HX0 HK0 HKB0
  by_cases h : ckE e = 0
  · obtain ⟨q1, q2⟩ := ieq h
    have HH := Lib.hid h
    have HC := Lib.hid (areValid_any l _ w4 HKB4.out HF.out)
    rw [h] at q1 q2 ⊢
    clear h q1 q2
    go_wp2_with fail
    refine HC.out.mono ?_
    rintro x w5 ⟨rfl, b5⟩
    have HB5 := Lib.hid (HB4.out.trans (b5.mono HB4.out.size))
    have HX5 := Lib.hid (HX4.out.keep (b5.block _ HX4.out.lt))
    have HK5 := Lib.hid (HK4.out.carry b5)
    have HKB5 := Lib.hid (HKB4.out.carry b5)
    clear b5 HC HX4 HK4 HKB4
    cases hc : ckB l with
    | true =>
      have HE : Hid (tyF l e = tyE l e) := Lib.hid (by unfold tyF; rw [if_neg (by simp [HH.out]), if_neg (by simp [hc])])
      have HS : Hid (TyS w.heap.size e (.slice sa e.es.length sc) (.slice ab l.length cb) l w w5) := Lib.hid (by
        obtain ⟨x0, x1, x2, x3, x4⟩ := HX5.out
        simp only [Nat.zero_add] at x1 x2 x3 x4
        exact ⟨x0, x1, x2, x3, x4, HK5.out, HKB5.out, HB5.out⟩)
      have HEV := Lib.hid (fun W (h : TyS w.heap.size e (.slice sa e.es.length sc) (.slice ab l.length cb) l w W) => evF_any l (.slice ab l.length cb) W h.2.2.2.2.2.2.1)
      have HTY := Lib.hid (fun m W (h : TyS w.heap.size e (.slice sa e.es.length sc) (.slice ab l.length cb) l w W) ht => typeOf_any l (.slice ab l.length cb) m e (.slice sa e.es.length sc) W h.2.2.2.2.2.1 h.2.2.2.2.2.2.1 ht (ckE_ok.1 HH.out).2.2 (ckE_ok.1 HH.out).1)
      obtain ⟨p, hp⟩ : ∃ p, tyE l e = p := ⟨_, rfl⟩
      rw [hp] at HTY HE
      obtain ⟨p1, p2⟩ := p
      simp only [exV] at HTY
      clear hc HX5 HK5 HKB5 HB5 HB4 hp
      go_wp2_with fail
      go_region_held3 (fun w' => TyS w.heap.size e (.slice sa e.es.length sc) (.slice ab l.length cb) l w w')
        (first | exact tyS_drew HS.out | exact tyS_keep (by assumption) (by assumption))
        (first | (go_at_call 52; (with_reducible refine (HEV.out _ (by first | exact tyS_drew HS.out | assumption)).mono ?_); rintro x w6 ⟨m, rfl, ht, b6⟩) | (go_at_call 63; (with_reducible refine (HTY.out _ _ (by assumption) (by assumption)).mono ?_); rintro x w7 ⟨rfl, b7⟩))
      have HB7 : Hid (Below w.heap.size w w7) := Lib.hid (by assumption : TyS w.heap.size e (.slice sa e.es.length sc) (.slice ab l.length cb) l w w7).2.2.2.2.2.2.2
      go_wp2
      go_ret2
      exact ⟨by rw [HE.out]; rfl, HB7.out⟩
    | false =>
      have HE : Hid (tyF l e = (0, 1)) := Lib.hid (by unfold tyF; rw [if_neg (by simp [HH.out]), if_pos hc])
      clear hc
      go_wp2
      go_ret2
      exact ⟨by rw [HE.out]; rfl, HB5.out⟩
  · obtain ⟨q1, q2⟩ := ine h
    have HE : Hid (tyF l e = (0, ckE e)) := Lib.hid (by unfold tyF; rw [if_pos h])
    clear h
    go_wp2
    go_ret2
    exact ⟨by rw [HE.out]; rfl, HB4.out⟩

set_option maxRecDepth 100000 in
set_option maxHeartbeats 4000000 in
theorem Eval_any (l : List Bd) (vb : Value) (e : Ex) (sl : Value) (w : World) (hK : KX w e sl) (hB : KB w vb l) (hf : fitE e) (hl : fitB l) :
    Calls Tryz.prog 26 #[exV e sl, vb] w fun x w' => x = .returned (.tuple #[.int .i64 (vlF l e).1, .int .i64 (vlF l e).2]) ∧ Below w.heap.size w w' := by
  obtain ⟨sa, sc, sf, rfl, s1, s2, sx⟩ := KA.inv hK
  have HBq := Lib.hid hB
  obtain ⟨ab, cb, rfl, g1, g2, gc⟩ := hB
  obtain ⟨W, hW⟩ : ∃ W, w.alloc (.cells #[.int .i64 e.k, .int .i64 e.o, .string e.s, .int .i64 e.v, .slice sa e.es.length sc] TX) = W := ⟨_, rfl⟩
  have hb0 : Below w.heap.size w W := by rw [← hW]; exact (Below.refl _ w).alloc (Nat.le_refl _) _
  have HX0 : Hid (AtX W w.heap.size 0 e (.slice sa e.es.length sc)) := Lib.hid (by rw [← hW]; exact boxX w e.k e.o e.s e.v _ e.es)
  have HIN := Lib.hid (Type_any l _ e _ W (hK.carry hb0) (HBq.out.carry hb0) hf hl)
  have HB0 := Lib.hid hb0
  have HW := Lib.hid hW
  have HK0 := Lib.hid (hK.carry hb0)
  have HKB0 := Lib.hid (HBq.out.carry hb0)
  simp only [exV] at HIN ⊢
  clear hb0 hK hf hl hW sx gc
  go_enter Tryz.func26, Tryz.ntmps26
  go_wp2_with fail
  rw [HW.out]
  refine HIN.out.mono ?_
  rintro x w4 ⟨rfl, b4⟩
  have HB4 := Lib.hid (HB0.out.trans (b4.mono HB0.out.size))
  have HX4 := Lib.hid (HX0.out.keep (b4.block _ HX0.out.lt))
  have HK4 := Lib.hid (HK0.out.carry b4)
  have HKB4 := Lib.hid (HKB0.out.carry b4)
  clear b4 HIN HX0 HK0 HKB0
  by_cases h : (tyF l e).2 = 0
  · obtain ⟨q1, q2⟩ := ieq h
    have HE : Hid (vlF l e = vlE l e) := Lib.hid (by unfold vlF; rw [if_neg (by simpa using h)])
    obtain ⟨h1, h2, h3⟩ := tyF_ok h
    have hty : (tyE l e).2 = 0 := by rw [← h3]; exact h
    have HS : Hid (TyS w.heap.size e (.slice sa e.es.length sc) (.slice ab l.length cb) l w w4) := Lib.hid (by
      obtain ⟨x0, x1, x2, x3, x4⟩ := HX4.out
      simp only [Nat.zero_add] at x1 x2 x3 x4
      exact ⟨x0, x1, x2, x3, x4, HK4.out, HKB4.out, HB4.out⟩)
    have HEV := Lib.hid (fun W (h : TyS w.heap.size e (.slice sa e.es.length sc) (.slice ab l.length cb) l w W) => evF_any l (.slice ab l.length cb) W h.2.2.2.2.2.2.1)
    have HTY := Lib.hid (fun m W (h : TyS w.heap.size e (.slice sa e.es.length sc) (.slice ab l.length cb) l w W) ht => valueOf_any l h2 (.slice ab l.length cb) m e (.slice sa e.es.length sc) W h.2.2.2.2.2.1 h.2.2.2.2.2.2.1 ht (ckE_ok.1 h1).2.2 (ckE_ok.1 h1).1 hty)
    obtain ⟨p, hp⟩ : ∃ p, vlE l e = p := ⟨_, rfl⟩
    rw [hp] at HTY HE
    obtain ⟨p1, p2⟩ := p
    simp only [exV] at HTY
    obtain ⟨t, ht⟩ : ∃ t, tyF l e = t := ⟨_, rfl⟩
    rw [ht] at h q1 q2 ⊢
    obtain ⟨t1, t2⟩ := t
    simp only [] at h q1 q2 ⊢
    subst h
    clear hp ht h1 h2 h3 hty HX4 HK4 HKB4 HB4 q1 q2
    go_wp2_with fail
    go_region_held3 (fun w' => TyS w.heap.size e (.slice sa e.es.length sc) (.slice ab l.length cb) l w w')
      (first | exact tyS_drew HS.out | exact tyS_keep (by assumption) (by assumption))
      (first | (go_at_call 52; (with_reducible refine (HEV.out _ (by first | exact tyS_drew HS.out | assumption)).mono ?_); rintro x w6 ⟨m, rfl, ht, b6⟩) | (go_at_call 61; (with_reducible refine (HTY.out _ _ (by assumption) (by assumption)).mono ?_); rintro x w7 ⟨rfl, b7⟩))
    have HB7 : Hid (Below w.heap.size w w7) := Lib.hid (by assumption : TyS w.heap.size e (.slice sa e.es.length sc) (.slice ab l.length cb) l w w7).2.2.2.2.2.2.2
    go_wp2
    go_ret2
    exact ⟨by rw [HE.out]; rfl, HB7.out⟩
  · obtain ⟨q1, q2⟩ := ine h
    have HE : Hid (vlF l e = (0, (tyF l e).2)) := Lib.hid (by unfold vlF; rw [if_pos h])
    clear h
    go_wp2
    go_ret2
    exact ⟨by rw [HE.out]; rfl, HB4.out⟩

end Go.Proofs.YtfgaihajopfmfaaGreatDoor
