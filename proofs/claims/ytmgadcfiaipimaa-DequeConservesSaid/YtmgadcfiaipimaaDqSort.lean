/-
  The library's Sort of a row of ints of the call's own; what is popped, stolen and left is what was there and was pushed.
-/
import Derived.Shelf.Sort.Plain
import Derived.Sort.OwnSortedInts
import Derived.Test.YtmgadcfiaipimaaDqMem
namespace Go.Proofs.Ytmgadcfiaipimaa
open Go.RowKit Go.Shelf Go.Sort

def Try.sortInts_ren : Go.Shelf.Ren := ⟨fun | 189 => 26 | 125 => 34 | 257 => 33 | 128 => 47 | 129 => 48 | 294 => 38 | 295 => 39 | 296 => 40 | 297 => 41 | 298 => 42 | 299 => 43 | 216 => 44 | 300 => 45 | 301 => 46 | 328 => 52 | 329 => 53 | 330 => 54 | 331 => 55 | 332 => 56 | 215 => 57 | 343 => 59 | n => n, fun | 28 => 22 | 3 => 3 | 46 => 56 | 0 => 0 | 51 => 71 | 53 => 73 | 4 => 4 | 183 => 63 | 182 => 62 | 131 => 68 | 5 => 5 | 9 => 9 | 218 => 76 | 222 => 80 | 228 => 83 | 229 => 84 | n => n, fun | n => n⟩
theorem Try.sortInts : Go.Proofs.Lays.n189 Try.prog Try.sortInts_ren := {
  mixed := by kernel_rfl
  f125 := Try.func34.trans (congrArg some (by kernel_rfl))
  f128 := Try.func47.trans (congrArg some (by kernel_rfl))
  f129 := Try.func48.trans (congrArg some (by kernel_rfl))
  f189 := Try.func26.trans (congrArg some (by kernel_rfl))
  f215 := Try.func57.trans (congrArg some (by kernel_rfl))
  f216 := Try.func44.trans (congrArg some (by kernel_rfl))
  f257 := Try.func33.trans (congrArg some (by kernel_rfl))
  f294 := Try.func38.trans (congrArg some (by kernel_rfl))
  f295 := Try.func39.trans (congrArg some (by kernel_rfl))
  f296 := Try.func40.trans (congrArg some (by kernel_rfl))
  f297 := Try.func41.trans (congrArg some (by kernel_rfl))
  f298 := Try.func42.trans (congrArg some (by kernel_rfl))
  f299 := Try.func43.trans (congrArg some (by kernel_rfl))
  f300 := Try.func45.trans (congrArg some (by kernel_rfl))
  f301 := Try.func46.trans (congrArg some (by kernel_rfl))
  f328 := Try.func52.trans (congrArg some (by kernel_rfl))
  f329 := Try.func53.trans (congrArg some (by kernel_rfl))
  f330 := Try.func54.trans (congrArg some (by kernel_rfl))
  f331 := Try.func55.trans (congrArg some (by kernel_rfl))
  f332 := Try.func56.trans (congrArg some (by kernel_rfl))
  f343 := Try.func59.trans (congrArg some (by kernel_rfl))
  t0 := Try.underlying0
  a0 := Try.isAgg0
  z0 := Try.sizeOf0
  v0 := Try.zeroValue0
  t3 := Try.underlying3
  a3 := Try.isAgg3
  z3 := Try.sizeOf3
  v3 := Try.zeroValue3
  t4 := Try.underlying4
  a4 := Try.isAgg4
  z4 := Try.sizeOf4
  v4 := Try.zeroValue4
  t5 := Try.underlying5
  a5 := Try.isAgg5
  z5 := Try.sizeOf5
  v5 := Try.zeroValue5
  t9 := Try.underlying9
  a9 := Try.isAgg9
  z9 := Try.sizeOf9
  v9 := Try.zeroValue9
  t28 := Try.underlying22
  a28 := Try.isAgg22
  z28 := Try.sizeOf22
  v28 := Try.zeroValue22
  t46 := Try.underlying56
  a46 := Try.isAgg56
  z46 := Try.sizeOf56
  v46 := Try.zeroValue56
  t51 := Try.underlying71
  a51 := Try.isAgg71
  z51 := Try.sizeOf71
  v51 := Try.zeroValue71
  t53 := Try.underlying73
  a53 := Try.isAgg73
  z53 := Try.sizeOf73
  v53 := Try.zeroValue73
  t131 := Try.underlying68
  a131 := Try.isAgg68
  z131 := Try.sizeOf68
  v131 := Try.zeroValue68
  t182 := Try.underlying62
  a182 := Try.isAgg62
  z182 := Try.sizeOf62
  v182 := Try.zeroValue62
  t183 := Try.underlying63
  a183 := Try.isAgg63
  z183 := Try.sizeOf63
  v183 := Try.zeroValue63
  t218 := Try.underlying76
  a218 := Try.isAgg76
  z218 := Try.sizeOf76
  v218 := Try.zeroValue76
  t222 := Try.underlying80
  a222 := Try.isAgg80
  z222 := Try.sizeOf80
  v222 := Try.zeroValue80
  t228 := Try.underlying83
  a228 := Try.isAgg83
  z228 := Try.sizeOf83
  v228 := Try.zeroValue83
  t229 := Try.underlying84
  a229 := Try.isAgg84
  z229 := Try.sizeOf84
  v229 := Try.zeroValue84 }
def leZ (x y : Int) : Bool := decide (x ≤ y)
theorem leZ_perm {l l' : List Int} (h : l.Perm l') : (l.mergeSort fun x y => decide (x ≤ y)) = l'.mergeSort fun x y => decide (x ≤ y) := by
  have tr : ∀ a b c : Int, decide (a ≤ b) = true → decide (b ≤ c) = true → decide (a ≤ c) = true := fun a b c h1 h2 => by simp only [decide_eq_true_eq] at *; omega
  have to : ∀ a b : Int, (decide (a ≤ b) || decide (b ≤ a)) = true := fun a b => by simp only [Bool.or_eq_true, decide_eq_true_eq]; omega
  refine List.Perm.eq_of_pairwise (le := fun a b => decide (a ≤ b) = true) (fun a b _ _ h1 h2 => ?_) (List.pairwise_mergeSort tr to l) (List.pairwise_mergeSort tr to l') (((List.mergeSort_perm l _).trans h).trans (List.mergeSort_perm l' _).symm)
  simp only [decide_eq_true_eq] at h1 h2
  omega

/-- insertionSort of nothing. -/
theorem insNil_any (w : World) : Calls Try.prog 38 #[.slice none 0 0, .int .i64 0, .int .i64 0] w fun e w' => e = .returned (.tuple #[]) ∧ w' = w := by
  go_enter Try.func38, Try.ntmps38
  go_wp2
  refine wp_loop_rounds 1 ?_
  rw [rounds_succ]
  go_wp2
  go_end0
  exact ⟨rfl, rfl⟩
set_option maxRecDepth 100000 in
theorem pdqNil_any (w : World) : Calls Try.prog 33 #[.slice none 0 0, .int .i64 0, .int .i64 0, .int .i64 0] w fun e w' => e = .returned (.tuple #[]) ∧ w' = w := by
  go_enter Try.func33, Try.ntmps33
  go_wp2
  refine wp_loop_rounds 1 ?_
  rw [rounds_succ]
  go_wp2_with (first | (go_at_call 38; refine (insNil_any _).mono ?_; rintro e w' ⟨rfl, rfl⟩))
  refine bodyPost_ret (results_none rfl _ _ _) rfl ?_
  exact ⟨rfl, rfl⟩
set_option maxRecDepth 100000 in
theorem lenNil_any (w : World) : Calls Try.prog 34 #[.int .u64 0] w fun e w' => e = .returned (.int .i64 0) ∧ w' = w := by
  go_enter Try.func34, Try.ntmps34
  go_wp2
  go_ret
  have h : wrap64 (wrap64 (Lib.len8 0)) = 0 := by decide +kernel
  refine ⟨?_, rfl⟩
  change Ending.returned (Value.int .i64 (wrap64 (wrap64 (Lib.len8 0)))) = _
  rw [h]
set_option maxRecDepth 100000 in
theorem sortNil_any (w : World) : Calls Try.prog 26 #[.slice none 0 0] w fun e w' => e = .returned (.tuple #[]) ∧ w' = w := by
  go_enter Try.func26, Try.ntmps26
  go_wp2_with (first
    | (go_at_call 34; refine (lenNil_any _).mono ?_; rintro e w' ⟨rfl, rfl⟩)
    | (go_at_call 33; refine (pdqNil_any _).mono ?_; rintro e w' ⟨rfl, rfl⟩))
  go_end0
  exact ⟨rfl, rfl⟩

/-- Sort of a row of the call's own. -/
theorem sortZ_any (B : Nat) (v : Value) (o : List Int) (w : World) (hO : OwnZ B o v w) (hl : o.length ≤ 10000) (hB : B ≤ w.heap.size) :
    Calls Try.prog 26 #[v] w fun e w' => e = .returned (.tuple #[]) ∧ OwnZ B (o.mergeSort fun x y => decide (x ≤ y)) v w' ∧ w.grownBy w' v.ownBlock ∧ Below B w w' := by
  have hr : w.ownsRow B TZ 1 v o.length (intV o) := hO
  rcases hr.2 with ⟨rfl, h0⟩ | ⟨g, cap, cur, rfl, hBg, hg, h1, h2, h3, h4⟩
  · have : o = [] := List.eq_nil_of_length_eq_zero h0
    subst this
    refine (sortNil_any w).mono ?_
    rintro e w' ⟨rfl, rfl⟩
    exact ⟨rfl, by simpa using OwnZ.nil B w', ⟨rfl, rfl, rfl, Nat.le_refl _, fun _ _ _ => rfl⟩, Below.refl _ _⟩
  · have hgl : g < w.heap.size := (Array.getElem?_eq_some_iff.1 hg).1
    refine (Any.slices_Sort_int Try.sortInts g 0 cap o w (holds_of_blockI hg (by simpa [intV] using h4)) hgl (by omega)).mono ?_
    rintro e w' ⟨rfl, n, os, rfl⟩
    have hgr := grownBy_sortedI (w := w) (g := g) (n := n) (os := os) (o.mergeSort fun x y => decide (x ≤ y)).toArray
    refine ⟨rfl, ?_, hgr, (Below.refl B w).grown hgr hB (fun k e => by cases e; exact hBg)⟩
    have hlen : (o.mergeSort fun x y => decide (x ≤ y)).length = o.length := by simp
    have := ownsRow_sortedI (n := n) (os := os) hlen hBg hg h1 h2 h3
    unfold OwnZ
    rw [hlen]
    exact this

/-! ### Mathematics -/

def pushesL (os : List (Int × Int)) : List Int := (os.filter fun o => decide (o.1 = 1)).map (·.2)
def tkN (os : List (Int × Int)) : Nat := (os.filter fun o => !decide (o.1 = 1)).length
def outL (O : List Int) : List Int := O.filter fun x => !decide (x = -1)
theorem pushesL_snoc (os : List (Int × Int)) (o : Int × Int) : pushesL (os ++ [o]) = if o.1 = 1 then pushesL os ++ [o.2] else pushesL os := by
  unfold pushesL
  by_cases h : o.1 = 1 <;> simp [h]
theorem tkN_snoc (os : List (Int × Int)) (o : Int × Int) : tkN (os ++ [o]) = if o.1 = 1 then tkN os else tkN os + 1 := by
  unfold tkN
  by_cases h : o.1 = 1 <;> simp [h]
theorem outL_snoc (O : List Int) (x : Int) : outL (O ++ [x]) = if x = -1 then outL O else outL O ++ [x] := by
  unfold outL
  by_cases h : x = -1 <;> simp [h]
theorem pushesL_length (os : List (Int × Int)) : (pushesL os).length ≤ os.length := by
  unfold pushesL
  rw [List.length_map]
  exact List.length_filter_le _ _
theorem tkN_le (os : List (Int × Int)) : tkN os ≤ os.length := List.length_filter_le _ _
theorem outL_length (O : List Int) : (outL O).length ≤ O.length := List.length_filter_le _ _
theorem take_snocZ (zs : List Int) (k : Nat) (h : k < zs.length) : zs.take (k + 1) = zs.take k ++ [gz zs k] := by
  rw [List.take_succ_eq_append_getElem h]; simp [gz, h]
theorem gz_mem {l : List Int} {k : Nat} (h : k < l.length) : gz l k ∈ l := by
  unfold gz
  rw [List.getElem?_eq_getElem h]
  exact List.getElem_mem h
theorem fold_cons (os : List (Int × Int)) : ∀ A Y : List Int, dqE A = 0 → (os.foldl stp (A, Y, 0)).2.2 = 0 → ∃ Z, (os.foldl stp (A, Y, 0)).2.1 = Y ++ Z ∧ Z.length = tkN os ∧ (A ++ pushesL os).Perm ((os.foldl stp (A, Y, 0)).1 ++ outL Z) := by
  induction os with
  | nil => exact fun A Y _ _ => ⟨[], by simp, rfl, by simp [pushesL, outL]⟩
  | cons o os ih =>
    intro A Y hA
    rw [List.foldl_cons, show stp (A, Y, 0) o = opS A Y o from if_pos rfl]
    intro h0
    have hgood := opS_good (O := Y) (o := o) hA
    have hp : ∀ {A' Y' : List Int} {e : Int}, opS A Y o = (A', Y', e) → e = 0 ∧ dqE A' = 0 := by
      intro A' Y' e h
      rw [h] at h0 hgood
      have he : e = 0 := Classical.byContradiction fun hne => by
        rw [stp_stay (s := (A', Y', e)) hne] at h0
        exact hne h0
      exact ⟨he, (hgood.1 he).1⟩
    unfold opS at h0 hp ⊢
    by_cases h1 : o.1 = 1
    · rw [if_pos h1] at h0 hp ⊢
      by_cases hn : dnE A o.2 = 0
      · rw [if_pos hn] at h0 hp ⊢
        obtain ⟨Z, z1, z2, z3⟩ := ih _ _ (hp rfl).2 h0
        refine ⟨Z, z1, by simpa [tkN, h1] using z2, ?_⟩
        have : pushesL (o :: os) = o.2 :: pushesL os := by simp [pushesL, h1]
        rw [this]
        simpa using z3
      · rw [if_neg hn] at hp
        exact absurd (hp rfl).1 hn
    · have hps : pushesL (o :: os) = pushesL os := by simp [pushesL, h1]
      have htk : tkN (o :: os) = tkN os + 1 := by simp [tkN, h1]
      rw [if_neg h1] at h0 hp ⊢
      rw [hps, htk]
      have hnil : ∀ {Y' : List Int}, Y' = Y ++ [-1] → (os.foldl stp (([] : List Int), Y', 0)).2.2 = 0 → ∃ Z, (os.foldl stp (([] : List Int), Y', 0)).2.1 = Y ++ Z ∧ Z.length = tkN os + 1 ∧ (([] : List Int) ++ pushesL os).Perm ((os.foldl stp (([] : List Int), Y', 0)).1 ++ outL Z) := by
        rintro Y' rfl h
        obtain ⟨Z, z1, z2, z3⟩ := ih _ _ dqE_nil h
        exact ⟨-1 :: Z, by simpa using z1, by simp [z2], by simpa [outL] using z3⟩
      have hone : ∀ {A' : List Int} {x : Int}, dqE A' = 0 → x ≠ -1 → A.Perm (x :: A') → (os.foldl stp (A', Y ++ [x], 0)).2.2 = 0 → ∃ Z, (os.foldl stp (A', Y ++ [x], 0)).2.1 = Y ++ Z ∧ Z.length = tkN os + 1 ∧ (A ++ pushesL os).Perm ((os.foldl stp (A', Y ++ [x], 0)).1 ++ outL Z) := by
        intro A' x hA' hx hperm h
        obtain ⟨Z, z1, z2, z3⟩ := ih _ _ hA' h
        refine ⟨x :: Z, by simpa using z1, by simp [z2], ?_⟩
        have e1 : outL (x :: Z) = x :: outL Z := by simp [outL, hx]
        rw [e1]
        refine (hperm.append_right _).trans ?_
        rw [List.cons_append]
        exact (z3.cons x).trans (List.perm_middle.symm)
      have hrange := (dqE_iff.1 hA).2.1
      by_cases h2 : o.1 = 2
      · rw [if_pos h2] at h0 hp ⊢
        by_cases he : A = []
        · rw [if_pos he] at h0 hp ⊢
          rw [he]
          exact hnil rfl h0
        · rw [if_neg he] at h0 hp ⊢
          have hpos := List.length_pos_iff.2 he
          have hx := hrange _ (gz_mem (l := A) (k := A.length - 1) (by omega))
          refine hone (hp rfl).2 (by omega) ?_ h0
          have e := take_snocZ A (A.length - 1) (by omega)
          rw [show A.length - 1 + 1 = A.length by omega, List.take_length] at e
          conv => lhs; rw [e]
          exact List.perm_append_comm
      · rw [if_neg h2] at h0 hp ⊢
        by_cases h3 : o.1 = 3
        · rw [if_pos h3] at h0 hp ⊢
          by_cases he : A = []
          · rw [if_pos he] at h0 hp ⊢
            rw [he]
            exact hnil rfl h0
          · rw [if_neg he] at h0 hp ⊢
            have hpos := List.length_pos_iff.2 he
            have hx := hrange _ (gz_mem (l := A) (k := 0) (by omega))
            refine hone (hp rfl).2 (by omega) ?_ h0
            have e : A = gz A 0 :: A.drop 1 := by
              have := List.drop_eq_getElem_cons (l := A) (i := 0) (by omega)
              rw [List.drop_zero] at this
              conv => lhs; rw [this]
              simp [gz, hpos]
            exact List.Perm.of_eq e
        · rw [if_neg h3] at hp
          have := (hp rfl).1
          cases this
theorem conserve {l : List Int} {ops : List (Int × Int)} (hl : ops.length ≤ 1000) (h : (playS l ops).2.2 = 0) : (playS l ops).2.1.length = tkN ops ∧ ((l ++ pushesL ops).mergeSort fun x y => decide (x ≤ y)) = (((playS l ops).1 ++ outL (playS l ops).2.1).mergeSort fun x y => decide (x ≤ y)) ∧ dqE (playS l ops).1 = 0 ∧ dqE l = 0 := by
  by_cases hd : dqE l = 0
  · have e : playS l ops = plS l ops := by unfold playS; rw [if_pos hd, if_neg (by omega)]
    rw [e] at h ⊢
    obtain ⟨Z, z1, z2, z3⟩ := fold_cons ops l [] hd h
    rw [List.nil_append] at z1
    have z1 : (plS l ops).2.1 = Z := z1
    rw [z1]
    exact ⟨z2, leZ_perm z3, ((plS_good hd ops).1 h).1, hd⟩
  · have e : playS l ops = ([], [], dqE l) := if_neg hd
    rw [e] at h
    exact absurd h hd
theorem play_fail {l : List Int} {ops : List (Int × Int)} (h : (playS l ops).2.2 ≠ 0) : (playS l ops).1 = [] ∧ (playS l ops).2.1 = [] := by
  unfold playS at h ⊢
  by_cases hd : dqE l = 0
  · rw [if_pos hd] at h ⊢
    by_cases h1 : 1000 < ops.length
    · rw [if_pos h1]
      exact ⟨rfl, rfl⟩
    · rw [if_neg h1] at h ⊢
      exact (plS_good hd ops).2 h
  · rw [if_neg hd]
    exact ⟨rfl, rfl⟩

end Go.Proofs.Ytmgadcfiaipimaa
