/-
  What the closures of the statements of timers answer that look at one time.
-/
import Derived.Test.YtcmcgcogahkamaaTmCat
namespace Go.Proofs.Ytcmcgcogahkamaa
open Go.RowKit Go.Shelf

theorem box1 (w : World) (a : Value) (t : TypeId) : (w.alloc (.cells #[a] t)).cell? ⟨w.heap.size, 0, none⟩ = some a := by go_simp
theorem box2 (w : World) (a b : Value) (t : TypeId) : (w.alloc (.cells #[a, b] t)).cell? ⟨w.heap.size, 0, none⟩ = some a ∧ (w.alloc (.cells #[a, b] t)).cell? ⟨w.heap.size, 1, none⟩ = some b := by constructor <;> go_simp

set_option maxRecDepth 100000 in
theorem exp1_pred (g : Nat) (now : Int) (w : World) (h : w.cell? ⟨g, 0, none⟩ = some (.int .i64 now)) : PredT 34 #[] #[.pointer (some ⟨g, 0, none⟩)] (fun t => decide (now < t.1)) w := by
  intro a b c W hB
  have hb0 : Below W.heap.size W (W.alloc (.cells #[.int .i64 a, .int .i64 b, .int .i64 c] TT)) := (Below.refl _ _).alloc (Nat.le_refl _) _
  have h1 := cell_later hB h
  have h2 := cell_later hb0 h1
  have hx := (box3 W a b c).1
  have HB0 := Lib.hid hb0
  clear hb0 hB h h1
  go_enter Try.func34, Try.ntmps34
  go_wp2
  go_ret
  exact ⟨rfl, HB0.out⟩
set_option maxRecDepth 100000 in
theorem run1_pred (g : Nat) (now : Int) (w : World) (h : w.cell? ⟨g, 0, none⟩ = some (.int .i64 now)) : PredT 35 #[] #[.pointer (some ⟨g, 0, none⟩)] (fun t => t.1 != now) w := by
  intro a b c W hB
  have hb0 : Below W.heap.size W (W.alloc (.cells #[.int .i64 a, .int .i64 b, .int .i64 c] TT)) := (Below.refl _ _).alloc (Nat.le_refl _) _
  have h1 := cell_later hB h
  have h2 := cell_later hb0 h1
  have hx := (box3 W a b c).1
  have HB0 := Lib.hid hb0
  clear hb0 hB h h1
  go_enter Try.func35, Try.ntmps35
  go_wp2
  go_ret
  exact ⟨rfl, HB0.out⟩


end Go.Proofs.Ytcmcgcogahkamaa
