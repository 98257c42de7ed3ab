/-
  The iterator that codec's intBytes returns yields the bytes of an integer's encoding, one by one.
-/
import Derived.Test.YtpkmdonejmbnoaaIter
namespace Go.Proofs.Ytpkmdonejmbnoaa
open Go.RowKit Go.Shelf
attribute [local go_sem] Oper.semAt_some

/-- What has been yielded after j digits of m. -/
def yielded (m : Nat) (inv : UInt8) (j : Nat) : List Int := (encM m inv).take (j + 1) |>.map fun c => (c.toNat : Int)

/-- The iterator's two variables. -/
def KI (Bm Bi : Nat) (A B : World) : Prop := B.heap[Bm]? = A.heap[Bm]? ∧ B.heap[Bi]? = A.heap[Bi]?

theorem xor_all : ∀ c : Fin 256, bits BinOp.xor IntKind.u8 (c.val : Int) 0 = (((UInt8.ofNat c.val) ^^^ 0).toNat : Int) ∧ bits BinOp.xor IntKind.u8 (c.val : Int) 255 = (((UInt8.ofNat c.val) ^^^ 255).toNat : Int) := by decide +kernel
theorem xor_byte (c : Nat) (hc : c < 256) (inv : UInt8) (hinv : inv = 0 ∨ inv = 255) : bits BinOp.xor IntKind.u8 (c : Int) (inv.toNat : Int) = (((UInt8.ofNat c) ^^^ inv).toNat : Int) := by
  rcases hinv with rfl | rfl
  · exact (xor_all ⟨c, hc⟩).1
  · exact (xor_all ⟨c, hc⟩).2

theorem yielded_zero (m : Nat) (inv : UInt8) : yielded m inv 0 = [(((UInt8.ofNat (128 + (mag m).length)) ^^^ inv).toNat : Int)] := by simp [yielded, encM]
theorem yielded_all (m : Nat) (inv : UInt8) : yielded m inv (mag m).length = (encM m inv).map fun c => (c.toNat : Int) := by
  unfold yielded
  rw [List.take_of_length_le (by rw [encM_length]; omega)]
theorem yielded_length (m : Nat) (inv : UInt8) (j : Nat) (h : j ≤ (mag m).length) : (yielded m inv j).length = j + 1 := by simp [yielded, encM_length]; omega
theorem yielded_succ (m : Nat) (inv : UInt8) (s : Nat) (h : s < (mag m).length) : yielded m inv ((mag m).length - s) = yielded m inv ((mag m).length - (s + 1)) ++ [(((UInt8.ofNat (m / 256 ^ s % 256)) ^^^ inv).toNat : Int)] := by
  have hd := mag_digit m s h
  unfold yielded
  have e : (mag m).length - s + 1 = ((mag m).length - (s + 1) + 1) + 1 := by omega
  rw [e, List.take_add_one, List.map_append]
  congr 1
  unfold encM
  rw [List.getElem?_cons_succ, List.getElem?_map, show (mag m).length - (s + 1) = (mag m).length - 1 - s from by omega, hd]
  rfl

theorem byte_shr (m s : Nat) (inv : UInt8) (hinv : inv = 0 ∨ inv = 255) : bits BinOp.xor IntKind.u8 (IntKind.u8.wrap ((m : Int) / 2 ^ (8 * (s : Int)).toNat)) (inv.toNat : Int) = (((UInt8.ofNat (m / 256 ^ s % 256)) ^^^ inv).toNat : Int) := by
  rw [← xor_byte (m / 256 ^ s % 256) (by omega) inv hinv]
  congr 1
  rw [IntKind.wrap_u8, show (8 * (s : Int)).toNat = 8 * s from by omega, Int.pow_mul, show (2 : Int) ^ 8 = 256 from rfl]
  simp

/-- What a round leaves: it goes on, or it has said no more. -/
def After (J Jx : List Int → World → Prop) (Bm Bi : Nat) (pre : List Int) (W : World) (b : Bool) (W' : World) : Prop := (b = true ∧ J pre W' ∧ KI Bm Bi W W') ∨ (b = false ∧ Jx pre W')

set_option maxRecDepth 100000 in
set_option maxHeartbeats 2000000 in
theorem iter_walk (n : Nat) (hn : 1 ≤ n) (l Bm Bi : Nat) (m : Nat) (inv : UInt8) (hm : m ≤ 4611686018427387904) (hinv : inv = 0 ∨ inv = 255) (J Jx : List Int → World → Prop) (hJd : ∀ s W, J s W → J s W.drew)
    (hY : ∀ pre x W, J pre W → pre.length < 9 → YieldAt Fence.wide (n - 1) Try.prog l #[.int .u8 x] W fun e W' =>
      (e = .returned (.bool true) ∧ J (pre ++ [x]) W' ∧ KI Bm Bi W W') ∨ (e = .returned (.bool false) ∧ Jx (pre ++ [x]) W'))
    (W : World) (hBm : W.heap[Bm]? = some (.cells #[.int .u64 (m : Int)] 96 (0, 0))) (hBi : W.heap[Bi]? = some (.cells #[.int .u8 (inv.toNat : Int)] T8 (0, 0))) (h0 : J [] W) :
    CallsIn Fence.wide n Try.prog 74 #[.func (.yield l) #[] #[], .pointer (some ⟨Bm, 0, none⟩), .pointer (some ⟨Bi, 0, none⟩)] W fun e W' => (∃ v, e = .returned v) ∧
      (J ((encM m inv).map fun c => (c.toNat : Int)) W' ∨ ∃ pre, Jx pre W') := by
  refine callsIn_of_wp Try.func74 rfl trivial ?_ rfl
  simp only [Try.ntmps74, List.size_toArray, List.length_cons, List.length_nil, Nat.reduceAdd, Nat.reduceSub, Array.replicate_succ, Array.replicate_zero, List.push_toArray, List.append_toArray, List.nil_append, List.cons_append]
  have cm : W.cell? ⟨Bm, 0, none⟩ = some (.int .u64 (m : Int)) := by rw [Lib.cell_of_heap hBm]; rfl
  have ci : W.cell? ⟨Bi, 0, none⟩ = some (.int .u8 (inv.toNat : Int)) := by rw [Lib.cell_of_heap hBi]; rfl
  have hl := mag8 (m := m) (by omega)
  have hi8 := byte_lt inv
  have HM := Lib.hid hBm
  have HI := Lib.hid hBi
  clear hBm hBi
  obtain ⟨f1, t1, a1, b1, hy1, hR1⟩ := hY [] (bits BinOp.xor IntKind.u8 (128 + ↑(mag m).length) ↑inv.toNat) W h0 (by simp)
  gi_wp2_with (refine ⟨trivial, ?_⟩; gi_at_call 75; refine (callsIn_wide.2 (digits_any m _ (by omega))).mono ?_; rintro e w' ⟨rfl, rfl⟩)
  refine hR1.mono ?_
  rintro e W1 (⟨rfl, hJ1, hK1⟩ | ⟨rfl, hx1⟩)
  · have HJ : J (yielded m inv ((mag m).length - (mag m).length)) W1 := by
      have e := xor_byte (128 + (mag m).length) (by omega) inv hinv
      rw [Nat.sub_self, yielded_zero, ← e]
      simpa using hJ1
    have HM1 := Lib.hid (hK1.1.trans HM.out)
    have HI1 := Lib.hid (hK1.2.trans HI.out)
    clear hJ1 hK1 hy1 hR1 cm ci
    gi_wp2
    gi_loopw [5] (fun i wr => ∃ t : Nat, t ≤ (mag m).length ∧ i = .int .i64 ((t : Int) - 1) ∧ J (yielded m inv ((mag m).length - t)) wr ∧ Hid (wr.heap[Bm]? = some (.cells #[.int .u64 (m : Int)] 96 (0, 0))) ∧ Hid (wr.heap[Bi]? = some (.cells #[.int .u8 (inv.toNat : Int)] T8 (0, 0))))
      (fun i _ => (intOf i + 1).toNat)
    case atStart => exact ⟨(mag m).length, Nat.le_refl _, rfl, HJ, HM1, HI1⟩
    case round =>
      obtain ⟨t, ht, rfl, hJs, hMr, hIr⟩ := hrel
      have cm : wr.cell? ⟨Bm, 0, none⟩ = some (.int .u64 (m : Int)) := by rw [Lib.cell_of_heap hMr.out]; rfl
      have ci : wr.cell? ⟨Bi, 0, none⟩ = some (.int .u8 (inv.toNat : Int)) := by rw [Lib.cell_of_heap hIr.out]; rfl
      cases t with
      | zero =>
        gi_wp2
        go_end0
        rw [Nat.sub_zero, yielded_all] at hJs
        exact ⟨⟨_, rfl⟩, .inl hJs⟩
      | succ s =>
        rw [show (((s + 1 : Nat) : Int) - 1) = (s : Int) from by omega]
        gi_wp2
        have hmx : Try.prog.follows .mixedOrders = true := by kernel_rfl
        have hw0 : (0 : Int) ≤ 8 * (s : Int) := by omega
        have hw1 : 8 * (s : Int) ≤ 64 := by omega
        have hw : IntKind.i64.wrap (8 * (s : Int)) = 8 * (s : Int) := IntWalk.i64_in _ (by omega)
        obtain ⟨f2, t2, a2, b2, hy2, hR2⟩ := hY _ (bits BinOp.xor IntKind.u8 (IntKind.u8.wrap (↑m / 2 ^ (8 * (s : Int)).toNat)) ↑inv.toNat) wr.drew (hJd _ _ hJs) (by rw [yielded_length _ _ _ (by omega)]; omega)
        have hR3 := hR2.mono (R' := fun e W' => ∃ b : Bool, e = .returned (.bool b) ∧ After J Jx Bm Bi (yielded m inv ((mag m).length - (s + 1)) ++ [bits BinOp.xor IntKind.u8 (IntKind.u8.wrap (↑m / 2 ^ (8 * (s : Int)).toNat)) ↑inv.toNat]) wr.drew b W') (by
          rintro e W3 (⟨rfl, hJ3, hK3⟩ | ⟨rfl, hx3⟩)
          · exact ⟨true, rfl, .inl ⟨rfl, hJ3, hK3⟩⟩
          · exact ⟨false, rfl, .inr ⟨rfl, hx3⟩⟩)
        clear hR2
        gi_region_with_o (refine hR3.mono ?_; rintro e W3 ⟨bb, rfl, hA⟩)
        all_goals
          rcases hA with ⟨rfl, hJ3, hK3⟩ | ⟨rfl, hx3⟩
          · gi_wp2
            go_roundw
            case rel =>
              refine ⟨s, by omega, rfl, ?_, Lib.hid (hK3.1.trans hMr.out), Lib.hid (hK3.2.trans hIr.out)⟩
              rw [yielded_succ m inv s (by omega), ← byte_shr m s inv hinv]
              exact hJ3
            case measure => simp [intOf]
          · gi_wp2
            refine bodyPost_ret (results_none rfl _ _ _) rfl ?_
            exact ⟨⟨_, rfl⟩, .inr ⟨_, hx3⟩⟩
  · gi_wp2
    refine bodyPost_ret (results_none rfl _ _ _) rfl ?_
    exact ⟨⟨_, rfl⟩, .inr ⟨_, hx1⟩⟩

/-- The iterator's contract: it yields the bytes of the encoding, in order, whatever a round does, if that keeps the iterator's two variables. -/
theorem iter_stops (n : Nat) (hn : 1 ≤ n) (Bm Bi : Nat) (m : Nat) (inv : UInt8) (hm : m ≤ 4611686018427387904) (hinv : inv = 0 ∨ inv = 255) (w : World)
    (hBm : w.heap[Bm]? = some (.cells #[.int .u64 (m : Int)] 96 (0, 0))) (hBi : w.heap[Bi]? = some (.cells #[.int .u8 (inv.toNat : Int)] T8 (0, 0))) :
    SeqStopsK Fence.wide n Try.prog 74 #[.pointer (some ⟨Bm, 0, none⟩), .pointer (some ⟨Bi, 0, none⟩)] (fun x : Int => #[Value.int .u8 x]) (KI Bm Bi)
      (fun xs => xs = (encM m inv).map fun c => (c.toNat : Int)) (fun _ => True) 9 w := fun l J Jx W hW hJ _ hY h0 => by
  have hlm := (Array.getElem?_eq_some_iff.1 hBm).1
  have hli := (Array.getElem?_eq_some_iff.1 hBi).1
  refine (iter_walk n hn l Bm Bi m inv hm hinv J Jx (fun s A hs => hJ s A _ none hs ⟨rfl, rfl, rfl, Nat.le_refl _, fun _ _ _ => rfl⟩ (by simp)) hY W ((hW.block _ hlm).trans hBm) ((hW.block _ hli).trans hBi) h0).mono ?_
  rintro e W' ⟨he, hJ' | ⟨pre, hx⟩⟩
  · exact ⟨he, .inl ⟨_, rfl, hJ'⟩⟩
  · exact ⟨he, .inr ⟨pre, trivial, hx⟩⟩

set_option maxHeartbeats 1000000 in
/-- intBytes boxes the number and what turns its digits around, and returns the iterator over them. -/
theorem intBytes_any (n : Int) (w : World) (h : InR n) :
    Calls Try.prog 69 #[.int .i64 n] w fun e w' => e = .returned (.func (.func 74) #[] #[.pointer (some ⟨w.heap.size, 0, none⟩), .pointer (some ⟨w.heap.size + 1, 0, none⟩)]) ∧ w' = (w.alloc (.cells #[.int .u64 (magOf n : Int)] 96)).alloc (.cells #[.int .u8 ((invOf n).toNat : Int)] T8) := by
  unfold InR at h
  obtain ⟨h1, h2⟩ := h
  by_cases hn : n < 0
  · have e1 : (magOf n : Int) = -n - 1 := by unfold magOf; rw [if_pos hn]; omega
    have e2 : ((invOf n).toNat : Int) = 255 := by unfold invOf; rw [if_pos hn]; rfl
    rw [e1, e2]
    clear e1 e2
    go_enter Try.func69, Try.ntmps69
    go_wp2
    go_ret
    exact ⟨rfl, rfl⟩
  · have e1 : (magOf n : Int) = n := by unfold magOf; rw [if_neg hn]; omega
    have e2 : ((invOf n).toNat : Int) = 0 := by unfold invOf; rw [if_neg hn]; rfl
    rw [e1, e2]
    clear e1 e2
    go_enter Try.func69, Try.ntmps69
    go_wp2
    go_ret
    exact ⟨rfl, rfl⟩

end Go.Proofs.Ytpkmdonejmbnoaa
