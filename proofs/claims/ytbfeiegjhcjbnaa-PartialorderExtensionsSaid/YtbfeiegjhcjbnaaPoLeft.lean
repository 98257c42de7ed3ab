/-
  What the program's elements and without of partialorder return: the numbers of predecessors that are left.
-/
import Derived.Shelf.Slices.Clone
import Derived.Test.YtbfeiegjhcjbnaaPoRel
import Derived.Test.YtbfeiegjhcjbnaaPoOrd
namespace Go.Proofs.Ytbfeiegjhcjbnaa
open Go.RowKit Go.Shelf
def Try.cloneI_ren : Go.Shelf.Ren := ⟨fun | 15 => 66 | n => n, fun | 22 => 23 | 3 => 3 | 4 => 4 | n => n, fun | n => n⟩
theorem Try.cloneI : Go.Proofs.Lays2.n15 Try.prog Try.cloneI_ren := {
  mixed := by kernel_rfl
  f15 := Try.func66.trans (congrArg some (by kernel_rfl))
  t3 := Try.underlying3
  a3 := Try.isAgg3
  z3 := Try.sizeOf3
  v3 := Try.zeroValue3
  t4 := Try.underlying4
  a4 := Try.isAgg4
  z4 := Try.sizeOf4
  v4 := Try.zeroValue4
  t22 := Try.underlying23
  a22 := Try.isAgg23
  z22 := Try.sizeOf23
  v22 := Try.zeroValue23
  i3 := by kernel_rfl }
/-- Numbers, one for each element. -/
def numsI (N : Nat) (h : Nat → Int) : List Int := (List.range N).map h
def numsV (N : Nat) (h : Nat → Int) : List Value := (numsI N h).map (Value.int .i64)
theorem numsI_get {N : Nat} (h : Nat → Int) {j : Nat} (hj : j < N) : (numsI N h)[j]? = some (h j) := by simp [numsI, hj]
theorem numsI_length (N : Nat) (h : Nat → Int) : (numsI N h).length = N := by simp [numsI]
theorem numsV_get {N : Nat} (h : Nat → Int) {j : Nat} (hj : j < N) : (numsV N h)[j]? = some (.int .i64 (h j)) := by unfold numsV; rw [List.getElem?_map, numsI_get h hj]; rfl
theorem numsV_length (N : Nat) (h : Nat → Int) : (numsV N h).length = N := by simp [numsV, numsI]
theorem numsV_set {N : Nat} {h h' : Nat → Int} {y : Nat} {z : Int} (hz : h' y = z) (hg : ∀ j, j ≠ y → h' j = h j) : (numsV N h).set y (.int .i64 z) = numsV N h' := by
  apply List.ext_getElem?
  intro v
  by_cases hv : v < N
  · rw [numsV_get _ hv]
    by_cases e : y = v
    · subst e
      rw [List.getElem?_set_self (by rw [numsV_length]; exact hv), hz]
    · rw [List.getElem?_set_ne e, numsV_get _ hv, hg v (fun h => e h.symm)]
  · rw [List.getElem?_eq_none (by rw [List.length_set, numsV_length]; omega), List.getElem?_eq_none (by rw [numsV_length]; omega)]
theorem numsV_ext {N : Nat} {h h' : Nat → Int} (e : ∀ j, j < N → h j = h' j) : numsV N h = numsV N h' := by
  unfold numsV numsI
  rw [List.map_congr_left (fun x hx => e x (List.mem_range.1 hx))]
theorem numsV_zero (N : Nat) : (madeCells #[Value.int .i64 0] N).toList = numsV N (fun _ => 0) := by
  rw [toList_madeCells_one]
  apply List.ext_getElem?
  intro v
  by_cases hv : v < N
  · rw [numsV_get _ hv, List.getElem?_replicate, if_pos hv]
  · rw [List.getElem?_eq_none (by simp; omega), List.getElem?_eq_none (by rw [numsV_length]; omega)]
/-- A row of numbers of the call's own. -/
def NumAt (B G N c : Nat) (h : Nat → Int) (W : World) : Prop := W.ownsRow B TI 1 (.slice (some ⟨G, 0, none⟩) N c) N (numsV N h)
theorem NumAt.cell {B G N c : Nat} {h : Nat → Int} {W : World} (hM : NumAt B G N c h W) {j : Nat} (hj : j < N) : W.cell? ⟨G, j, none⟩ = some (.int .i64 (h j)) := by
  rw [World.ownsRow.cellAt hM j (by omega), numsV_get _ hj]
theorem NumAt.free {B G N c : Nat} {h : Nat → Int} {W : World} (hM : NumAt B G N c h W) (j : Nat) : W.frozen? ⟨G, j, none⟩ = false := World.ownsRow.frozenAt hM j
theorem NumAt.lt {B G N c : Nat} {h : Nat → Int} {W : World} (hM : NumAt B G N c h W) : B ≤ G ∧ G < W.heap.size := World.ownsRow.lt hM G rfl
theorem NumAt.store {B G N c : Nat} {h h' : Nat → Int} {W : World} (hM : NumAt B G N c h W) {y : Nat} {z : Int} (hz : h' y = z) (hg : ∀ j, j ≠ y → h' j = h j) : NumAt B G N c h' (W.setCell ⟨G, y, none⟩ (.int .i64 z)) := by
  have := (World.ownsRow.stored hM y (.int .i64 z)).1
  rw [numsV_set hz hg] at this
  exact this
theorem NumAt.ext {B G N c : Nat} {h h' : Nat → Int} {W : World} (hM : NumAt B G N c h W) (e : ∀ j, j < N → h j = h' j) : NumAt B G N c h' W := by
  unfold NumAt at *
  rwa [← numsV_ext e]
/-- A relation's rows lie as they lay. -/
theorem MatK.grown {B A N k : Nat} {g : Nat → Nat} {f : Nat → Nat → Bool} {W W' : World} (h : MatK B A N k g f W) (hg : W.grownBy W' none) : MatK B A N k g f W' :=
  ⟨h.outer.kept hg (by simp [Value.ownBlock]), fun i hi => (h.row i hi).kept hg (by simp [Value.ownBlock]), h.inj⟩

set_option maxRecDepth 100000 in
set_option maxHeartbeats 4000000 in
theorem elements_any (B A N : Nat) (g : Nat → Nat) (f : Nat → Nat → Bool) (w : World) (hM : MatK B A N N g f w) (hN : N ≤ 200) :
    Calls Try.prog 46 #[matV A N] w fun e w' => ∃ G, e = .returned (.slice (some ⟨G, 0, none⟩) N N) ∧ NumAt w.heap.size G N N (lefV N f []) w' ∧ Below w.heap.size w w' := by
  obtain ⟨i1, ji, jz0, jz1, jz2⟩ := info_parts infoI
  have HM := Lib.hid hM
  clear hM
  go_enter Try.func46, Try.ntmps46
  go_wp2_with (at_make; refine wpList_make_full _ rfl (.tmp 9) (.tmp 9) 23 rfl w.heap.size TI i1 (.int .i64 0) 1 Try.underlying23 ji jz0 jz1 .i64 .i64 _ _ N rfl rfl rfl rfl (by rw [jz2]; omega) (by unfold maxLen; omega) (Nat.le_refl _) ?_)
  intro w1 ho1 hg1
  rw [numsV_zero] at ho1
  have HZ : Hid (NumAt w.heap.size w.heap.size N N (cntK f 0) w1) := Lib.hid (NumAt.ext ho1 (fun j _ => (cntK_zero f j).symm))
  have HM1 := Lib.hid (HM.out.grown hg1)
  have HB1 : Hid (Below w.heap.size w w1) := Lib.hid ((Below.refl _ w).grown hg1 (Nat.le_refl _) (fun j hj => by cases hj))
  obtain ⟨G, hG⟩ : ∃ G, w.heap.size = G := ⟨_, rfl⟩
  have hMG : Hid (∀ i, i < N → g i < G) := Lib.hid (fun i hi => by rw [← hG]; exact (HM.out.lt_row hi).2)
  have hAG : A < G := by rw [← hG]; exact HM.out.lt.2
  rw [hG] at HZ HB1 ⊢
  clear ho1 hg1 HM
  go_wp2_with fail
  go_loopw [13] (fun x wr => ∃ (k : Nat), k ≤ N ∧ x = .int .i64 k ∧ Hid (NumAt G G N N (cntK f k) wr) ∧ Hid (MatK B A N N g f wr) ∧ Hid (Below G w wr)) (fun x _ => N - (intOf x).toNat)
  case atStart => exact ⟨0, Nat.zero_le _, rfl, HZ, HM1, HB1⟩
  case round =>
    obtain ⟨k, hk, rfl, HK, HM, HB⟩ := hrel
    by_cases hlt : k < N
    · have k1 : (k : Int) < (N : Int) := by omega
      have c1 := HM.out.cell1 hlt hlt
      have HK0 : Hid (NumAt G G N N (cntJ f k 0) wr) := Lib.hid (HK.out.ext (fun j _ => (cntJ_zero f k j).symm))
      go_wp2_with fail
      go_loopw [19] (fun x wr => ∃ (c : Nat), c ≤ N ∧ x = .int .i64 c ∧ Hid (NumAt G G N N (cntJ f k c) wr) ∧ Hid (MatK B A N N g f wr) ∧ Hid (Below G w wr)) (fun x _ => N - (intOf x).toNat)
      case atStart => exact ⟨0, Nat.zero_le _, rfl, HK0, HM, HB⟩
      case round =>
        obtain ⟨c, hc, rfl, HK, HM, HB⟩ := hrel
        by_cases hct : c < N
        · have j1 : (c : Int) < (N : Int) := by omega
          have c2 := HM.out.cell2 hlt hct
          have c3 := HK.out.cell hct
          have c4 := HK.out.free c
          have hbd := cntJ_bound f k c c
          obtain ⟨b, hb⟩ : ∃ b, f k c = b := ⟨_, rfl⟩
          rw [hb] at c2
          cases b
          · have HK2 : Hid (NumAt G G N N (cntJ f k (c + 1)) wr) := Lib.hid (HK.out.ext (fun j _ => (cntJ_no hb).symm))
            clear hb
            go_wp2_with fail
            go_roundw
            case rel => exact ⟨c + 1, by omega, by go_num, HK2, HM, HB⟩
            case measure => simp [intOf]; omega
          · have HK2 : Hid (NumAt G G N N (cntJ f k (c + 1)) (wr.setCell ⟨G, c, none⟩ (.int .i64 (cntJ f k c c + 1)))) := Lib.hid (HK.out.store (by rw [cntJ_yes hb, if_pos rfl]) (fun j hj => by rw [cntJ_yes hb, if_neg hj]))
            have hsg := (World.ownsRow.stored HK.out c (.int .i64 (cntJ f k c c + 1))).2
            have HM2 : Hid (MatK B A N N g f (wr.setCell ⟨G, c, none⟩ (.int .i64 (cntJ f k c c + 1)))) := Lib.hid ⟨own_other HM.out.outer hsg (by omega), fun i hi => own_other (HM.out.row i hi) hsg (by have := hMG.out i hi; omega), HM.out.inj⟩
            have HB2 : Hid (Below G w (wr.setCell ⟨G, c, none⟩ (.int .i64 (cntJ f k c c + 1)))) := Lib.hid (HB.out.setCell (p := ⟨G, c, none⟩) (Nat.le_refl _) _)
            obtain ⟨z, hz⟩ : ∃ z, cntJ f k c c = z := ⟨_, rfl⟩
            rw [hz] at c3 hbd HK2 HM2 HB2
            clear hb hsg hz
            go_wp2_with fail
            go_wp2
            go_roundw
            case rel => exact ⟨c + 1, by omega, by go_num, HK2, HM2, HB2⟩
            case measure => simp [intOf]; omega
        · obtain rfl : c = N := by omega
          have HK2 : Hid (NumAt G G c c (cntK f (k + 1)) wr) := Lib.hid (HK.out.ext (fun j hj => cntJ_full hj))
          go_wp2
          go_roundw
          case rel => exact ⟨k + 1, by omega, by go_num, HK2, HM, HB⟩
          case measure => simp [intOf]; omega
    · obtain rfl : k = N := by omega
      have HK2 : Hid (NumAt G G k k (lefV k f []) wr) := Lib.hid (HK.out.ext (fun j _ => (lefV_nil k f j).symm))
      subst hG
      go_wp2
      go_ret
      exact ⟨_, rfl, HK2.out, HB.out⟩

/-- slices.Clone of a row of numbers. -/
theorem cloneI_any (B G N c : Nat) (h : Nat → Int) (w : World) (hM : NumAt B G N c h w) (hN : N ≤ 200) :
    Calls Try.prog 66 #[.slice (some ⟨G, 0, none⟩) N c] w fun e w' => ∃ H d, e = .returned (.slice (some ⟨H, 0, none⟩) N d) ∧ NumAt w.heap.size H N d h w' ∧ Below w.heap.size w w' := by
  have hl := numsI_length N h
  refine (Any.slices_Clone_int Try.cloneI G 0 N c (numsI N h) w (by omega) (by omega) (fun j hj => by
    rw [Nat.zero_add, hM.cell (by omega), List.getD_eq_getElem?_getD, numsI_get h (by omega)]
    rfl)).mono ?_
  rintro e w' ⟨v', rfl, ho, hne, hb⟩
  rw [List.take_of_length_le (by omega)] at ho
  obtain ⟨H, d, rfl⟩ := ownsRow_some ho hne
  exact ⟨H, d, rfl, ho, hb⟩

set_option maxRecDepth 100000 in
set_option maxHeartbeats 4000000 in
theorem without_any (B A N Bl Gl cl u : Nat) (g : Nat → Nat) (f : Nat → Nat → Bool) (out : List Nat) (w : World) (hM : MatK B A N N g f w) (hl : NumAt Bl Gl N cl (lefV N f out) w) (hN : N ≤ 200) (hL : Low2 N f) (ho : OrdP N f out) (hu : u < N) (hf : freeF N f out u = true) :
    Calls Try.prog 48 #[matV A N, .slice (some ⟨Gl, 0, none⟩) N cl, .int .i64 (u : Int)] w fun e w' => ∃ G c, e = .returned (.slice (some ⟨G, 0, none⟩) N c) ∧ NumAt w.heap.size G N c (lefV N f (out ++ [u])) w' ∧ Below w.heap.size w w' := by
  have HM := Lib.hid hM
  have HC := Lib.hid (cloneI_any Bl Gl N cl (lefV N f out) w hl hN)
  have HD : Hid (∀ j, j < N → lefW N f out u N j = lefV N f (out ++ [u]) j) := Lib.hid (fun j hj => lefW_done hL ho hu hf hj)
  have u1 : (u : Int) < (N : Int) := by omega
  clear hM hl hL ho hf
  go_enter Try.func48, Try.ntmps48
  go_wp2_with fail
  refine HC.out.mono ?_
  rintro e w1 ⟨G, c, rfl, hm1, b1⟩
  have hG := hm1.lt
  have HM1 := Lib.hid (HM.out.below b1 (Nat.le_refl _))
  have d1 := HM1.out.cell1 hu hu
  have c4 := hm1.free u
  have d2 : w1.cell? ⟨G, u, none⟩ = some (.int .i64 (lefV N f out u)) := hm1.cell hu
  have HK : Hid (NumAt w.heap.size G N c (lefW N f out u 0) (w1.setCell ⟨G, u, none⟩ (.int .i64 (-1)))) := Lib.hid (hm1.store (by rw [lefW_zero, if_pos rfl]) (fun j hj => by rw [lefW_zero, if_neg hj]))
  have hsg := (World.ownsRow.stored hm1 u (.int .i64 (-1))).2
  have hMG : Hid (∀ i, i < N → g i < w.heap.size) := Lib.hid (fun i hi => (HM.out.lt_row hi).2)
  have hAG : A < w.heap.size := HM.out.lt.2
  have HM2 : Hid (MatK B A N N g f (w1.setCell ⟨G, u, none⟩ (.int .i64 (-1)))) := Lib.hid ⟨own_other HM1.out.outer hsg (by omega), fun i hi => own_other (HM1.out.row i hi) hsg (by have := hMG.out i hi; omega), HM1.out.inj⟩
  have HB2 : Hid (Below w.heap.size w (w1.setCell ⟨G, u, none⟩ (.int .i64 (-1)))) := Lib.hid (b1.setCell (p := ⟨G, u, none⟩) hG.1 _)
  have d3 := HM2.out.cell1 hu hu
  have hG1 := hG.1
  obtain ⟨lv, hlv⟩ : ∃ z, lefV N f out u = z := ⟨_, rfl⟩
  rw [hlv] at d2
  clear hm1 b1 hsg hG HM1 d1 hlv
  go_wp2_with fail
  go_loopw [20] (fun x wr => ∃ (k : Nat), k ≤ N ∧ x = .int .i64 k ∧ Hid (NumAt w.heap.size G N c (lefW N f out u k) wr) ∧ Hid (MatK B A N N g f wr) ∧ Hid (Below w.heap.size w wr)) (fun x _ => N - (intOf x).toNat)
  case atStart => exact ⟨0, Nat.zero_le _, rfl, HK, HM2, HB2⟩
  case round =>
    obtain ⟨k, hk, rfl, HK, HM, HB⟩ := hrel
    by_cases hct : k < N
    · have j1 : (k : Int) < (N : Int) := by omega
      have c2 := HM.out.cell2 hu hct
      have c3 := HK.out.cell hct
      have c5 := HK.out.free k
      have hbd := lefW_bound N f out u k k
      obtain ⟨b, hb⟩ : ∃ b, f u k = b := ⟨_, rfl⟩
      rw [hb] at c2
      cases b
      · have HK2 : Hid (NumAt w.heap.size G N c (lefW N f out u (k + 1)) wr) := Lib.hid (HK.out.ext (fun j _ => (lefW_no hb).symm))
        clear hb
        go_wp2_with fail
        go_roundw
        case rel => exact ⟨k + 1, by omega, by go_num, HK2, HM, HB⟩
        case measure => simp [intOf]; omega
      · have HK2 : Hid (NumAt w.heap.size G N c (lefW N f out u (k + 1)) (wr.setCell ⟨G, k, none⟩ (.int .i64 (lefW N f out u k k - 1)))) := Lib.hid (HK.out.store (by rw [lefW_yes hb, if_pos rfl]) (fun j hj => by rw [lefW_yes hb, if_neg hj]))
        have hsg := (World.ownsRow.stored HK.out k (.int .i64 (lefW N f out u k k - 1))).2
        have HM2 : Hid (MatK B A N N g f (wr.setCell ⟨G, k, none⟩ (.int .i64 (lefW N f out u k k - 1)))) := Lib.hid ⟨own_other HM.out.outer hsg (by omega), fun i hi => own_other (HM.out.row i hi) hsg (by have := hMG.out i hi; omega), HM.out.inj⟩
        have HB2 : Hid (Below w.heap.size w (wr.setCell ⟨G, k, none⟩ (.int .i64 (lefW N f out u k k - 1)))) := Lib.hid (HB.out.setCell (p := ⟨G, k, none⟩) hG1 _)
        obtain ⟨z, hz⟩ : ∃ z, lefW N f out u k k = z := ⟨_, rfl⟩
        rw [hz] at c3 hbd HK2 HM2 HB2
        clear hb hsg hz
        go_wp2_with fail
        go_wp2
        go_roundw
        case rel => exact ⟨k + 1, by omega, by go_num, HK2, HM2, HB2⟩
        case measure => simp [intOf]; omega
    · obtain rfl : k = N := by omega
      have HK2 : Hid (NumAt w.heap.size G k c (lefV k f (out ++ [u])) wr) := Lib.hid (HK.out.ext HD.out)
      go_wp2
      go_ret
      exact ⟨_, _, rfl, HK2.out, HB.out⟩

end Go.Proofs.Ytbfeiegjhcjbnaa
