/-
  The library's Compare and ContainsFunc over numbers and lists; the extensions are listed in ascending order.
-/
import Derived.Test.YtkiomcihomkgoaaPoExtends
namespace Go.Proofs.Ytkiomcihomkgoaa
open Go.RowKit

/-- x stands ahead of y: where they first part x has the lesser number. -/
def LexLt (x y : List Nat) : Prop := ∃ p a b s t, x = p ++ a :: s ∧ y = p ++ b :: t ∧ a < b
theorem ext_begins {N : Nat} {f : Nat → Nat → Bool} : ∀ (m : Nat) (out x : List Nat), x ∈ extN N f m out → ∃ s, x = out ++ s
  | 0, out, x, h => by
    have h : x ∈ [out] := h
    simp at h
    exact ⟨[], by simpa using h⟩
  | m + 1, out, x, h => by
    rw [extN_succ] at h
    obtain ⟨u, _, h⟩ := List.mem_flatMap.1 h
    obtain ⟨s, rfl⟩ := ext_begins m _ x h
    exact ⟨u :: s, by simp⟩
theorem ext_sorted {N : Nat} {f : Nat → Nat → Bool} : ∀ (m : Nat) (out : List Nat), (extN N f m out).Pairwise LexLt
  | 0, out => by
    show [out].Pairwise LexLt
    exact List.pairwise_singleton _ _
  | m + 1, out => by
    rw [extN_succ]
    unfold extL
    rw [List.pairwise_flatMap]
    refine ⟨fun u _ => ext_sorted m _, (selN_pair _ _).imp ?_⟩
    intro u v huv x hx y hy
    obtain ⟨s, rfl⟩ := ext_begins m _ x hx
    obtain ⟨t, rfl⟩ := ext_begins m _ y hy
    exact ⟨out, u, v, s, t, by simp, by simp, huv⟩

set_option maxRecDepth 100000 in
set_option maxHeartbeats 2000000 in
theorem compare_any (u v : Value) (x y : List Nat) (w : World) (hu : IntsC w u x) (hv : IntsC w v y) (h : LexLt x y) :
    Calls Try.prog 36 #[u, v] w fun e w' => e = .returned (.int .i64 (-1)) ∧ w = w' := by
  obtain ⟨p, a, b, s, t, rfl, rfl, hab⟩ := h
  obtain ⟨a1, c1, rfl, h1, l1⟩ := hu
  obtain ⟨a2, c2, rfl, h2, l2⟩ := hv
  rw [intsOf_length] at l1 l2
  rw [intsOf_length, intsOf_length]
  have hx : ∀ k, k < p.length → ∃ z : Int, (intsOf (p ++ a :: s))[k]?.getD 0 = z ∧ (intsOf (p ++ b :: t))[k]?.getD 0 = z := by
    intro k hk
    refine ⟨_, rfl, ?_⟩
    unfold intsOf
    rw [List.map_append, List.map_append, List.getElem?_append_left (by simpa using hk), List.getElem?_append_left (by simpa using hk)]
  have ha : (intsOf (p ++ a :: s))[p.length]?.getD 0 = (a : Int) := by simp [intsOf]
  have hb : (intsOf (p ++ b :: t))[p.length]?.getD 0 = (b : Int) := by simp [intsOf]
  have n1 : p.length < (p ++ a :: s).length := by simp
  have n2 : p.length < (p ++ b :: t).length := by simp
  have H1 := Lib.hid h1
  have H2 := Lib.hid h2
  have hab' : (a : Int) < (b : Int) := by omega
  clear h1 h2
  have e1 := intsOf_length (p ++ a :: s)
  have e2 := intsOf_length (p ++ b :: t)
  generalize intsOf (p ++ a :: s) = X at *
  generalize intsOf (p ++ b :: t) = Y at *
  generalize (p ++ a :: s).length = lx at *
  generalize (p ++ b :: t).length = ly at *
  go_enter Try.func36, Try.ntmps36
  go_wp2
  go_loopw [11] (fun x wr => ∃ k : Nat, k ≤ p.length ∧ x = .int .i64 k ∧ w = wr) (fun x _ => p.length - (intOf x).toNat)
  case atStart => exact ⟨0, Nat.zero_le _, rfl, rfl⟩
  case round =>
    obtain ⟨k, hk, rfl, rfl⟩ := hrel
    have k1 : (k : Int) < (lx : Int) := by omega
    have k2 : (k : Int) < (ly : Int) := by omega
    have k3 : ¬ (ly : Int) ≤ (k : Int) := by omega
    obtain ⟨b1, o1, rfl, _, q1⟩ := H1.out k (by omega)
    obtain ⟨b2, o2, rfl, _, q2⟩ := H2.out k (by omega)
    by_cases hkt : k < p.length
    · obtain ⟨z, z1, z2⟩ := hx k hkt
      rw [z1] at q1
      rw [z2] at q2
      have HC := cmp_any z z w
      rw [cmpI_eq] at HC
      have HC := Lib.hid HC
      go_wp2_with fail
      refine HC.out.mono ?_
      rintro e w4 ⟨rfl, rfl⟩
      go_wp2
      go_roundw
      case rel => exact ⟨k + 1, by omega, by go_num, trivial⟩
      case measure => simp [intOf]; omega
    · obtain rfl : k = p.length := by omega
      rw [ha] at q1
      rw [hb] at q2
      have HC := cmp_any (a : Int) (b : Int) w
      rw [cmpI_lo hab'] at HC
      have HC := Lib.hid HC
      go_wp2_with fail
      refine HC.out.mono ?_
      rintro e w4 ⟨rfl, rfl⟩
      go_wp2
      go_ret
      exact ⟨rfl, rfl⟩

/-- A predicate on lists that is a function which keeps all that lies below. -/
def PredL (B : Nat) (f : Nat) (caps : Array Value) (ll : List (List Nat)) (p : List Nat → Bool) (w : World) : Prop := ∀ (x : List Nat) (v : Value) (W : World), x ∈ ll → IntsC W v x → Below B w W → Calls Try.prog f (#[v] ++ caps) W fun e W' => e = .returned (.bool (p x)) ∧ Below B w W'

set_option maxRecDepth 100000 in
set_option maxHeartbeats 2000000 in
theorem indexFunc_any (f : Nat) (caps : Array Value) (v : Value) (ll : List (List Nat)) (p : List Nat → Bool) (w : World) (heg : ∀ args w, (callFunc f args).run Try.prog w = .ok (.enter f args) w) (hv : ListsC w v ll) (hp : PredL w.heap.size f caps ll p w) :
    Calls Try.prog 71 #[v, .func (.func f) #[] caps] w fun e w' => ∃ k : Int, e = .returned (.int .i64 k) ∧ (decide (0 ≤ k) = ll.any p) ∧ Below w.heap.size w w' := by
  obtain ⟨a, c, rfl, hL, hl⟩ := hv
  have hM := listsOf_length ll
  rw [hM] at hl ⊢
  have HL := Lib.hid hL
  have HP := Lib.hid hp
  have HY : Hid (∀ k : Nat, (hk : k < ll.length) → p ll[k] = true → ll.any p = true) := Lib.hid (fun k hk h => List.any_eq_true.2 ⟨_, List.getElem_mem hk, h⟩)
  have HZ : Hid ((ll.take ll.length).any p = false → ll.any p = false) := Lib.hid (fun h => by rwa [List.take_length] at h)
  have HN : Hid (∀ k : Nat, (hk : k < ll.length) → (ll.take k).any p = false → p ll[k] = false → (ll.take (k + 1)).any p = false) := Lib.hid (fun k hk h1 h2 => by
    rw [List.take_succ_eq_append_getElem hk, List.any_append, h1]
    simp [h2])
  clear hL hp hM
  go_enter Try.func71, Try.ntmps71
  go_wp2
  go_loopw [8] (fun x wr => ∃ k : Nat, k ≤ ll.length ∧ x = .int .i64 k ∧ Hid ((ll.take k).any p = false) ∧ Hid (Below w.heap.size w wr)) (fun x _ => ll.length - (intOf x).toNat)
  case atStart => exact ⟨0, Nat.zero_le _, rfl, Lib.hid (by simp), Lib.hid (Below.refl _ _)⟩
  case round =>
    obtain ⟨k, hk, rfl, HA, HB⟩ := hrel
    by_cases hkt : k < ll.length
    · have k1 : (k : Int) < (ll.length : Int) := by omega
      obtain ⟨b, off, a', c', rfl, hb, hc, hI, hn⟩ := HL.out k (by rw [listsOf_length]; exact hkt)
      have hel : elL (listsOf ll) k = intsOf ll[k] := by simp [elL, listsOf, hkt]
      rw [hel] at hc hI hn
      have p1 : wr.cell? ⟨b, off + k, none⟩ = some (.slice a' (intsOf ll[k]).length c') := (HB.out.cell (p := ⟨b, off + k, none⟩) hb).trans hc
      have hIC : IntsC wr (.slice a' (intsOf ll[k]).length c') ll[k] := ⟨a', c', rfl, (hI.below HB.out).mono HB.out.size, hn⟩
      have HC := HP.out ll[k] _ wr (List.getElem_mem hkt) hIC HB.out
      cases hpk : p ll[k] with
      | true =>
        rw [hpk] at HC
        have hany := HY.out k hkt hpk
        have HC := Lib.hid HC
        have HANY := Lib.hid hany
        generalize (intsOf ll[k]).length = q at *
        clear hc hI hn hel hIC hpk hany
        go_wp2_with fail
        refine HC.out.mono ?_
        rintro e w4 ⟨rfl, b4⟩
        go_wp2
        go_ret
        exact ⟨_, rfl, by rw [HANY.out]; simp, b4⟩
      | false =>
        rw [hpk] at HC
        have HA' := Lib.hid (HN.out k hkt HA.out hpk)
        have HC := Lib.hid HC
        generalize (intsOf ll[k]).length = q at *
        clear hc hI hn hel hIC hpk
        go_wp2_with fail
        refine HC.out.mono ?_
        rintro e w4 ⟨rfl, b4⟩
        have HB4 := Lib.hid b4
        clear b4
        go_wp2
        go_roundw
        case rel => exact ⟨k + 1, by omega, by go_num, HA', HB4⟩
        case measure => simp [intOf]; omega
    · obtain rfl : k = ll.length := by omega
      have HF := Lib.hid (HZ.out HA.out)
      go_wp2
      go_ret
      exact ⟨_, rfl, by rw [HF.out]; simp, HB.out⟩

set_option maxRecDepth 100000 in
theorem containsFunc_any (f : Nat) (caps : Array Value) (v : Value) (ll : List (List Nat)) (p : List Nat → Bool) (w : World) (heg : ∀ args w, (callFunc f args).run Try.prog w = .ok (.enter f args) w) (hv : ListsC w v ll) (hp : PredL w.heap.size f caps ll p w) :
    Calls Try.prog 37 #[v, .func (.func f) #[] caps] w fun e w' => e = .returned (.bool (ll.any p)) ∧ Below w.heap.size w w' := by
  have HI := Lib.hid (indexFunc_any f caps v ll p w heg hv hp)
  clear hv hp
  go_enter Try.func37, Try.ntmps37
  go_wp2_with fail
  refine HI.out.mono ?_
  rintro e w1 ⟨k, rfl, hk, b1⟩
  go_wp2
  go_ret
  exact ⟨by rw [← hk]; rfl, b1⟩

end Go.Proofs.Ytkiomcihomkgoaa
