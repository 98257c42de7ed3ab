/-
  What the reference's Decimal and Precedence return.
-/
import Derived.Laws.IdiomStrings
import Derived.Test.YtfgaihajopfmfaaGreatDoorExInj
import Derived.Test.YtfgaihajopfmfaaGreatDoorExRNames
namespace Go.Proofs.YtfgaihajopfmfaaGreatDoor
set_option linter.unusedSimpArgs false
set_option linter.unusedVariables false
open Go.RowKit Go.Shelf

abbrev TU8 : TypeId := 5
theorem dg_run (D : Nat) (hD : D < 256) (W : World) : (convert 107 9 (.slice (some ⟨W.heap.size, 0, none⟩) 1 1)).run Tryz.prog (W.alloc (.cells #[.int .u8 (D : Int)] TU8)) = .ok (.string ⟨#[UInt8.ofNat D]⟩) (W.alloc (.cells #[.int .u8 (D : Int)] TU8)) :=
  run_convert_bytes_back (P := Tryz.prog) _ 107 9 TU8 ⟨W.heap.size, 0, none⟩ 1 [UInt8.ofNat D] Tryz.underlying107 Tryz.underlying5 Tryz.underlying9 (fun j hj => by
    obtain rfl : j = 0 := by simpa using hj
    rw [Addr.add_lit, Lib.cell_of_heap (World.alloc_heap_new W _)]
    simp [UInt8.toNat_ofNat']
    omega)
theorem dec_step {n : Nat} (h : 9 < n) : Lib.decDigits n = Lib.decDigits (n / 10) ++ [UInt8.ofNat (48 + n % 10)] := by
  rw [Lib.decDigits, dif_neg (by omega)]
theorem dec_last {n : Nat} (h : n ≤ 9) : Lib.decDigits n = [UInt8.ofNat (48 + n)] := by
  rw [Lib.decDigits, dif_pos (by omega)]

set_option maxRecDepth 100000 in
set_option maxHeartbeats 4000000 in
theorem rDecimal_any (u : Nat) (hu : u ≤ 1099511627776) (w : World) :
    Calls Tryz.prog 87 #[.int .i64 (u : Int)] w fun e w' => e = .returned (.string (dcB (u : Int))) ∧ Below w.heap.size w w' := by
  have hlen : (Lib.decDigits u).length ≤ 13 := by
    have := dcB_size (v := (u : Int)) (by omega) (by omega)
    unfold dcB at this
    rw [Lib.itoa_nonneg] at this
    exact this
  have HLEN := Lib.hid hlen
  clear hlen
  go_enter Tryz.func87, Tryz.ntmps87
  go_wp2
  go_loopw [0, 3] (fun x y wr => ∃ (n : Nat) (o : ByteArray), x = .int .i64 (n : Int) ∧ y = .string o ∧ Hid (n ≤ 1099511627776) ∧ Hid (Lib.decDigits u = Lib.decDigits n ++ o.data.toList) ∧ Hid (Below w.heap.size w wr)) (fun x _ _ => (intOf x).toNat)
  case atStart => exact ⟨u, ⟨#[]⟩, rfl, rfl, Lib.hid hu, Lib.hid (by simp), Lib.hid (Below.refl _ _)⟩
  case round =>
    obtain ⟨n, o, rfl, rfl, HN, HD, HB⟩ := hrel
    have hn := HN.out
    have hos : o.size ≤ 13 := by
      have := congrArg List.length HD.out
      rw [List.length_append] at this
      have h2 := HLEN.out
      have e : o.size = o.data.toList.length := (Array.length_toList (xs := o.data)).symm
      omega
    by_cases hc : 9 < n
    · have k1 : (9 : Int) < (n : Int) := by omega
      obtain ⟨r, hr⟩ : ∃ r, n % 10 = r := ⟨_, rfl⟩
      obtain ⟨q, hq⟩ : ∃ q, n / 10 = q := ⟨_, rfl⟩
      obtain ⟨D, hDe⟩ : ∃ D, 48 + r = D := ⟨_, rfl⟩
      have hrl : r < 10 := by omega
      have m1 : (n : Int).tmod 10 = (r : Int) := by rw [Int.tmod_eq_emod_of_nonneg (by omega)]; omega
      have m2 : (n : Int).tdiv 10 = (q : Int) := by rw [Int.tdiv_eq_ediv_of_nonneg (by omega)]; omega
      have m3 : (48 : Int) + (r : Int) = (D : Int) := by omega
      have m4 : IntKind.i64.wrap (D : Int) = (D : Int) := by rw [IntKind.wrap_i64]; omega
      have m5 : IntKind.u8.wrap (D : Int) = (D : Int) := by
        have e : IntKind.u8.wrap (D : Int) = (D : Int) % 256 := by rfl
        rw [e]; omega
      have m6 : IntKind.i64.wrap (q : Int) = (q : Int) := by rw [IntKind.wrap_i64]; omega
      have m7 : IntKind.i64.wrap (r : Int) = (r : Int) := by rw [IntKind.wrap_i64]; omega
      have hcv := dg_run D (by omega) wr
      have hadd := catS ⟨#[UInt8.ofNat D]⟩ o (by have e : (ByteArray.mk #[UInt8.ofNat D]).size = 1 := rfl; omega) (wr.alloc (.cells #[.int .u8 (D : Int)] TU8))
      have HD2 : Hid (Lib.decDigits u = Lib.decDigits q ++ (⟨#[UInt8.ofNat D]⟩ ++ o : ByteArray).data.toList) := Lib.hid (by
        rw [HD.out, dec_step hc, hq, hr, hDe]
        simp)
      have HB2 : Hid (Below w.heap.size w (wr.alloc (.cells #[.int .u8 (D : Int)] TU8))) := Lib.hid (HB.out.alloc HB.out.size _)
      have HN2 : Hid (q ≤ 1099511627776) := Lib.hid (by omega)
      have hqn : q < n := by omega
      clear hr hq hDe hn
      go_wp2
      go_roundw
      case rel => exact ⟨q, _, rfl, rfl, HN2, HD2, HB2⟩
      case measure => simp [intOf]; omega
    · have k1 : ¬ (9 : Int) < (n : Int) := by omega
      obtain ⟨D, hDe⟩ : ∃ D, 48 + n = D := ⟨_, rfl⟩
      have m3 : (48 : Int) + (n : Int) = (D : Int) := by omega
      have m4 : IntKind.i64.wrap (D : Int) = (D : Int) := by rw [IntKind.wrap_i64]; omega
      have m5 : IntKind.u8.wrap (D : Int) = (D : Int) := by
        have e : IntKind.u8.wrap (D : Int) = (D : Int) % 256 := by rfl
        rw [e]; omega
      have hcv := dg_run D (by omega) wr
      have hadd := catS ⟨#[UInt8.ofNat D]⟩ o (by have e : (ByteArray.mk #[UInt8.ofNat D]).size = 1 := rfl; omega) (wr.alloc (.cells #[.int .u8 (D : Int)] TU8))
      have HR : Hid ((⟨#[UInt8.ofNat D]⟩ ++ o : ByteArray) = dcB (u : Int)) := Lib.hid (by
        apply ByteArray.ext
        apply Array.toList_inj.1
        have e : (dcB (u : Int)).data.toList = Lib.decDigits u := by unfold dcB; rw [Lib.itoa_nonneg]
        rw [e, HD.out, dec_last (by omega), hDe]
        simp)
      have HB2 : Hid (Below w.heap.size w (wr.alloc (.cells #[.int .u8 (D : Int)] TU8))) := Lib.hid (HB.out.alloc HB.out.size _)
      clear hDe hn
      go_wp2
      go_ret
      exact ⟨by rw [← HR.out]; rfl, HB2.out⟩

set_option maxRecDepth 100000 in
set_option maxHeartbeats 4000000 in
theorem rPrec_any (e : Ex) (a : Option Addr) (n c : Nat) (w : World) (hp : prE e = 0) :
    Calls Tryz.prog 89 #[exV e (.slice a n c)] w fun x w' => x = .returned (.int .i64 (pcE e.o)) ∧ Below w.heap.size w w' := by
  have HB : Hid (Below w.heap.size w (w.alloc (.cells #[.int .i64 e.k, .int .i64 e.o, .string e.s, .int .i64 e.v, .slice a n c] TX))) := Lib.hid (below_allocW w _)
  obtain ⟨x0, x1, x2, x3, x4⟩ := boxX w e.k e.o e.s e.v (.slice a n c) e.es
  obtain ⟨k, o, s, v, es⟩ := e
  simp only [exV, Ex.k, Ex.o, Ex.s, Ex.v, Nat.zero_add] at *
  obtain ⟨h1, _⟩ := prE_zero.1 hp
  rcases prP_zero.1 h1 with ⟨rfl, rfl, rfl, _, _, _⟩ | ⟨rfl, rfl, _, rfl, _⟩ | ⟨rfl, ho, rfl, rfl, _⟩ | ⟨rfl, o1, o2, rfl, rfl, _⟩
  · clear h1 hp
    go_enter Tryz.func89, Tryz.ntmps89
    go_wp2
    go_ret
    exact ⟨by rw [pc_zero]; rfl, HB.out⟩
  · clear h1 hp
    go_enter Tryz.func89, Tryz.ntmps89
    go_wp2
    go_ret
    exact ⟨by rw [pc_zero]; rfl, HB.out⟩
  · clear h1 hp
    have HP := Lib.hid (pc_un ho)
    go_enter Tryz.func89, Tryz.ntmps89
    go_wp2
    go_ret
    exact ⟨by rw [HP.out]; rfl, HB.out⟩
  · clear h1 hp
    rcases op_cases o1 o2 with rfl | rfl | rfl | rfl | rfl | rfl | rfl | rfl | rfl | rfl | rfl | rfl | rfl <;>
    · go_enter Tryz.func89, Tryz.ntmps89
      go_wp2
      go_ret
      exact ⟨rfl, HB.out⟩

end Go.Proofs.YtfgaihajopfmfaaGreatDoor
