/-
  What the program's isOf and Find of waiters return.
-/
import Derived.Test.YtonjempbphnimaaWlSeq
import Derived.Test.YtonjempbphnimaaWlIx
namespace Go.Proofs.Ytonjempbphnimaa
open Go.RowKit Go.Shelf

theorem boxI (w : World) (x : Int) (t : TypeId) : (w.alloc (.cells #[.int .i64 x] t)).cell? ⟨w.heap.size, 0, none⟩ = some (.int .i64 x) := by go_simp
theorem isOf_any (t : Int) (w : World) : Calls Try.prog 46 #[.int .i64 t] w fun e w' => e = .returned (.func (.func 60) #[] #[.pointer (some ⟨w.heap.size, 0, none⟩)]) ∧ w'.cell? ⟨w.heap.size, 0, none⟩ = some (.int .i64 t) ∧ Below w.heap.size w w' := by
  have hB := (Below.refl w.heap.size w).alloc (Nat.le_refl _) (.cells #[.int .i64 t] 3)
  have hC := boxI w t 3
  have HB := Lib.hid hB
  have HC := Lib.hid hC
  clear hB hC
  go_enter Try.func46, Try.ntmps46
  go_wp2
  go_ret
  exact ⟨rfl, HC.out, HB.out⟩
set_option maxRecDepth 100000 in
theorem isOf_pred (g : Nat) (t : Int) (w : World) (h : w.cell? ⟨g, 0, none⟩ = some (.int .i64 t)) : PredW 60 #[] #[.pointer (some ⟨g, 0, none⟩)] (isTk t) w := by
  intro a b c d f W hB
  have hb0 : Below W.heap.size W (W.alloc (.cells #[.int .i64 a, .int .i64 b, .int .i64 c, .int .i64 d, .int .i64 f] TW)) := (Below.refl _ _).alloc (Nat.le_refl _) _
  have h1 := cell_laterW hB h
  have h2 := cell_laterW hb0 h1
  have hx := (box5 W a b c d f).1
  have HB0 := Lib.hid hb0
  have hq : (((a, b, c, d, f) : Wl).1 == t) = isTk t (a, b, c, d, f) := by unfold isTk; by_cases e : a = t <;> simp [e]
  simp only [] at hq hx
  obtain ⟨r, hr⟩ : ∃ r, isTk t (a, b, c, d, f) = r := ⟨_, rfl⟩
  rw [hr] at hq ⊢
  clear hb0 hB h h1 hr
  go_enter Try.func60, Try.ntmps60
  go_wp2
  go_ret
  exact ⟨rfl, HB0.out⟩

set_option maxRecDepth 100000 in
set_option maxHeartbeats 1000000 in
theorem wFind_any (v : Value) (ts : List Wl) (t : Int) (w : World) (hK : KwC w v ts) (hl : ts.length ≤ 1000) :
    Calls Try.prog 18 #[v, .int .i64 t] w fun e w' => e = .returned (.tuple #[.int .i64 (fndI ts t), .bool (fndB ts t)]) ∧ Below w.heap.size w w' := by
  obtain ⟨ad, cap, rfl, hc1, hc2, hA⟩ := hK
  have HA := Lib.hid hA
  have HI := Lib.hid (isOf_any t w)
  clear hA
  go_enter Try.func18, Try.ntmps18
  go_wp2_with fail
  refine HI.out.mono ?_
  rintro e w1 ⟨rfl, hc, b1⟩
  have HX := Lib.hid (wIndex_any _ 60 #[] #[.pointer (some ⟨w.heap.size, 0, none⟩)] ad cap ts (isTk t) w1 (enters_of Try.func60 (by kernel_rfl) rfl) (HA.out.below b1) hl (isOf_pred _ _ _ hc))
  have HB1 := Lib.hid b1
  clear b1 hc
  go_wp2_with fail
  refine HX.out.mono ?_
  rintro e w2 ⟨k, rfl, hk, b2⟩
  have HB2 := Lib.hid (HB1.out.trans (b2.mono HB1.out.size))
  clear b2
  by_cases hk0 : k < 0
  · have HR := Lib.hid (fnd_neg hk hk0)
    clear hk
    go_wp2
    go_ret2
    exact ⟨by rw [HR.out.1, HR.out.2]; rfl, HB2.out⟩
  · have HR := Lib.hid (fnd_pos hk hk0)
    clear hk
    go_wp2
    go_ret2
    exact ⟨by rw [HR.out.1, HR.out.2]; rfl, HB2.out⟩

end Go.Proofs.Ytonjempbphnimaa
