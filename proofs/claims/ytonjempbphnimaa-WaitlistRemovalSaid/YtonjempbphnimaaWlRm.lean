/-
  What the program's Remove of waiters returns.
-/
import Derived.Test.YtonjempbphnimaaWlSplit
import Derived.Test.YtonjempbphnimaaWlFind
namespace Go.Proofs.Ytonjempbphnimaa
open Go.RowKit Go.Shelf

set_option maxRecDepth 100000 in
set_option maxHeartbeats 1000000 in
theorem wRemove_any (v : Value) (ts : List Wl) (t : Int) (w : World) (hK : KwC w v ts) (hl : ts.length ≤ 1000) :
    Calls Try.prog 22 #[v, .int .i64 t] w fun e w' => ∃ u, e = .returned u ∧ FwC w.heap.size w' u (rmW ts t) ∧ Below w.heap.size w w' := by
  obtain ⟨ad, cap, rfl, hc1, hc2, hA⟩ := hK
  have HA := Lib.hid hA
  have HI := Lib.hid (isOf_any t w)
  have HF : Hid (selN (fun j => isTk t (gw ts j)) false ts ts.length = rmW ts t) := Lib.hid (by
    rw [selN_filter (isTk t) false ts]
    unfold rmW
    congr 1
    funext x
    cases isTk t x <;> rfl)
  clear hA
  go_enter Try.func22, Try.ntmps22
  go_wp2_with fail
  refine HI.out.mono ?_
  rintro e w1 ⟨rfl, hc, b1⟩
  have hp := isOf_pred _ _ _ hc
  have HX := Lib.hid (split_any (fun _ => True) (fun _ => False) (fun _ _ => True) 60 #[] #[.pointer (some ⟨w.heap.size, 0, none⟩)] (fun j => isTk t (gw ts j)) ad cap ts w1 (enters_of Try.func60 (by kernel_rfl) rfl) (HA.out.below b1) hl (fun _ _ h => h) (fun _ h => h.elim) trivial (fun _ _ _ _ _ => trivial) (fun k W hk _ hK a b c d f ht => (hp a b c d f W hK.below).mono (by
    rintro e W' ⟨rfl, b⟩
    exact ⟨by rw [ht], trivial, KeepS.of b⟩)))
  have HB1 := Lib.hid b1
  clear b1 hc hp
  go_wp2_with fail
  refine HX.out.mono ?_
  rintro e w2 ⟨u1, u2, rfl, hf1, hf2, _, hk2⟩
  rw [HF.out] at hf2
  have HF2 := Lib.hid (hf2.mono HB1.out.size)
  have HB2 := Lib.hid (HB1.out.trans (hk2.below.mono HB1.out.size))
  obtain ⟨a2, c2, rfl, _, _, _⟩ := hf2
  obtain ⟨a1, c1, rfl, _, _, _⟩ := hf1
  clear hk2
  go_wp2
  go_ret
  exact ⟨_, rfl, HF2.out, HB2.out⟩

end Go.Proofs.Ytonjempbphnimaa
