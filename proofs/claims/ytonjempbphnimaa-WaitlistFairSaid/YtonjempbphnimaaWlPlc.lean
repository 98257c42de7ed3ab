/-
  What the program's place of waiters returns.
-/
import Derived.Test.YtonjempbphnimaaWlSeq
namespace Go.Proofs.Ytonjempbphnimaa
open Go.RowKit Go.Shelf

def lowP (p : Int) (t : Wl) : Bool := decide (t.2.2.2.1 < p)
theorem plc_neg {ts : List Wl} {kd p k : Int} (h : IxW ts (lowP p) k) (hk : k < 0) : plcW kd ts p = ts.length := by
  unfold plcW
  by_cases h1 : kd = 1
  · rw [if_pos h1]
  · rw [if_neg h1]
    rcases h with ⟨rfl, h⟩ | ⟨i, hi, rfl, _⟩
    · refine len_takeWhileW (Nat.le_refl _) (fun j hj => ?_) (fun h => absurd h (Nat.lt_irrefl _))
      have := h j hj
      unfold lowP at this
      simp at this
      simpa using this
    · omega
theorem plc_pos {ts : List Wl} {kd p k : Int} (h1 : kd ≠ 1) (h : IxW ts (lowP p) k) (hk : ¬ k < 0) : (plcW kd ts p : Int) = k := by
  unfold plcW
  rw [if_neg h1]
  rcases h with ⟨rfl, h⟩ | ⟨i, hi, rfl, h, h2⟩
  · omega
  · rw [len_takeWhileW (i := i) (by omega) (fun j hj => ?_) (fun _ => ?_)]
    · have := h2 j hj
      unfold lowP at this
      simp at this
      simpa using this
    · unfold lowP at h
      simp at h
      simpa using h
set_option maxRecDepth 100000 in
theorem place_pred (g : Nat) (p : Int) (w : World) (h : w.cell? ⟨g, 0, none⟩ = some (.int .i64 p)) : PredW 59 #[] #[.pointer (some ⟨g, 0, none⟩)] (lowP p) w := by
  intro a b c d f W hB
  have hb0 : Below W.heap.size W (W.alloc (.cells #[.int .i64 a, .int .i64 b, .int .i64 c, .int .i64 d, .int .i64 f] TW)) := (Below.refl _ _).alloc (Nat.le_refl _) _
  have h1 := cell_laterW hB h
  have h2 := cell_laterW hb0 h1
  have hx := (box5 W a b c d f).2.2.2.1
  have HB0 := Lib.hid hb0
  have hq : decide (d < p) = lowP p (a, b, c, d, f) := rfl
  simp only [Nat.zero_add] at hx
  obtain ⟨r, hr⟩ : ∃ r, lowP p (a, b, c, d, f) = r := ⟨_, rfl⟩
  rw [hr] at hq ⊢
  clear hb0 hB h h1 hr
  go_enter Try.func59, Try.ntmps59
  go_wp2
  go_ret
  exact ⟨by first | rfl | (rw [← hq]), HB0.out⟩

set_option maxRecDepth 100000 in
set_option maxHeartbeats 1000000 in
theorem place_any (φ : Nat → Prop) (kd : Int) (ad : Option Addr) (cap : Nat) (ts : List Wl) (p : Int) (w : World) (hA : WlA φ w ad ts) (hl : ts.length ≤ 1000) :
    Calls Try.prog 44 #[.int .i64 kd, .slice ad ts.length cap, .int .i64 p] w fun e w' => e = .returned (.int .i64 (plcW kd ts p : Nat)) ∧ Below w.heap.size w w' := by
  have HB0 := Lib.hid ((Below.refl w.heap.size w).alloc (Nat.le_refl _) (.cells #[.int .i64 p] 3))
  by_cases h1 : kd = 1
  · subst h1
    have hr : plcW 1 ts p = ts.length := by unfold plcW; rw [if_pos rfl]
    rw [hr]
    clear hr hA
    go_enter Try.func44, Try.ntmps44
    go_wp2
    go_ret
    exact ⟨rfl, HB0.out⟩
  · have b1 : (kd == 1) = false := by simpa using h1
    have hc : (w.alloc (.cells #[.int .i64 p] 3)).cell? ⟨w.heap.size, 0, none⟩ = some (.int .i64 p) := by go_simp
    have HX := Lib.hid (wIndex_any _ 59 #[] #[.pointer (some ⟨w.heap.size, 0, none⟩)] ad cap ts (lowP p) (w.alloc (.cells #[.int .i64 p] 3)) (enters_of Try.func59 (by kernel_rfl) rfl) (hA.below HB0.out) hl (place_pred _ _ _ hc))
    have H1 := Lib.hid h1
    clear hA hc h1
    go_enter Try.func44, Try.ntmps44
    go_wp2_with fail
    refine HX.out.mono ?_
    rintro e w2 ⟨k, rfl, hk, b2⟩
    have HB2 := Lib.hid (HB0.out.trans (b2.mono HB0.out.size))
    clear b2
    by_cases hk0 : k < 0
    · have HR := Lib.hid (plc_neg (kd := kd) hk hk0)
      clear hk
      go_wp2
      go_ret
      exact ⟨by rw [HR.out]; rfl, HB2.out⟩
    · have HR := Lib.hid (plc_pos H1.out hk hk0)
      clear hk
      go_wp2
      go_ret
      exact ⟨by rw [HR.out]; rfl, HB2.out⟩

end Go.Proofs.Ytonjempbphnimaa
