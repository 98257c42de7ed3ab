/-
  The function that Substitute replaces by.
-/
import Derived.Test.YtfgaihajopfmfaaGreatDoorExRepC
namespace Go.Proofs.YtfgaihajopfmfaaGreatDoor
set_option linter.unusedSimpArgs false
set_option linter.unusedVariables false
open Go.RowKit

structure SubC (bn bb : Nat) (nm : ByteArray) (y : Ex) (slb : Value) (w : World) : Prop where
  n : w.heap[bn]? = some (.cells #[.string nm] 9 (0, 0))
  at_ : AtX w bb 0 y slb
  k : KX w y slb
  p : prE y = 0
  s : szE y ≤ 100
theorem SubC.carry {bn bb : Nat} {nm : ByteArray} {y : Ex} {slb : Value} {w w' : World} (h : SubC bn bb nm y slb w) (hb : Below w.heap.size w w') : SubC bn bb nm y slb w' :=
  ⟨(hb.block _ (Array.getElem?_eq_some_iff.1 h.n).1).trans h.n, h.at_.keep (hb.block _ h.at_.lt), h.k.carry hb, h.p, h.s⟩
set_option maxRecDepth 100000 in
set_option maxHeartbeats 4000000 in
theorem subst1_any (bn bb : Nat) (nm : ByteArray) (y : Ex) (slb : Value) (e : Ex) (sl : Value) (w : World) (hK : KX w e sl) (hC : SubC bn bb nm y slb w) : Calls Tryz.prog 56 #[exV e sl, .pointer (some ⟨bn, 0, none⟩), .pointer (some ⟨bb, 0, none⟩)] w (RetR w.heap.size (sbF nm y e) w) := by
  obtain ⟨a, c, sf, rfl, h1, h2, hc⟩ := KA.inv hK
  obtain ⟨b1, c1, sf1, rfl, h11, h12, hc1⟩ := KA.inv hC.k
  obtain ⟨W, hW⟩ : ∃ W, (w.alloc (.cells #[.int .i64 e.k, .int .i64 e.o, .string e.s, .int .i64 e.v, .slice a e.es.length c] TX (0, 0))).alloc (.cells #[.int .i64 0, .int .i64 0, .string ⟨#[]⟩, .int .i64 0, .slice none 0 0] TX (0, 0)) = W := ⟨_, rfl⟩
  obtain ⟨t0, t1, hb⟩ := twoBlocks w (.cells #[.int .i64 e.k, .int .i64 e.o, .string e.s, .int .i64 e.v, .slice a e.es.length c] TX (0, 0)) (.cells #[.int .i64 0, .int .i64 0, .string ⟨#[]⟩, .int .i64 0, .slice none 0 0] TX (0, 0))
  rw [hW] at t0 t1 hb
  have HC := Lib.hid (hC.carry hb)
  have H1 := Lib.hid t1
  have HB := Lib.hid hb
  have HW := Lib.hid hW
  have hsz : W.heap.size = w.heap.size + 2 := by rw [← hW]; simp
  have HSZ := Lib.hid hsz
  have hn := cell_one hC.n
  have hnl : bn < w.heap.size := (Array.getElem?_eq_some_iff.1 hC.n).1
  obtain ⟨u0, u1, u2, u3, u4⟩ := hC.at_
  simp only [Nat.zero_add] at u1 u2 u3 u4
  have hbl : bb < w.heap.size := hC.at_.lt
  have HT := Lib.hid (fun o p => twoBlocks w o p)
  have HCL := Lib.hid (clone_any y _ W (HC.out.k) HC.out.p HC.out.s)
  simp only [exV] at HCL ⊢
  clear hK hC hc hc1 t0 t1 hb hW hsz
  by_cases hk : e.k = 2
  · obtain ⟨q1, q2⟩ := ieq hk
    by_cases hs : e.s = nm
    · obtain ⟨s1, s2, s3⟩ := str_yes hs
      have HE : Hid (sbF nm y e = some y) := Lib.hid (by unfold sbF; rw [if_pos ⟨hk, hs⟩])
      clear hk hs
      go_enter Tryz.func56, Tryz.ntmps56
      go_wp2_with fail
      try rw [HW.out]
      refine HCL.out.mono ?_
      rintro x w4 ⟨a4, c4, rfl, hk4, b4⟩
      have H14 := Lib.hid ((b4.block _ (Array.getElem?_eq_some_iff.1 H1.out).1).trans H1.out)
      have HB4 := Lib.hid (HB.out.trans (b4.mono HB.out.size))
      have HK4 := Lib.hid (hk4.mono (ψ := fun b => w.heap.size + 2 ≤ b) (fun b _ h => by have := HSZ.out; omega))
      have HH4 := Lib.hid (setRow_heap w4 (w.heap.size + 1) _ #[.int .i64 y.k, .int .i64 y.o, .string y.s, .int .i64 y.v, .slice a4 y.es.length c4] _ _ H14.out)
      have HB9 : Hid (Below w.heap.size w (w4.setRow (w.heap.size + 1) #[.int .i64 y.k, .int .i64 y.o, .string y.s, .int .i64 y.v, .slice a4 y.es.length c4])) := Lib.hid (below_setRow HB4.out (by omega) _)
      have HK9 := Lib.hid ((KA.put HK4.out (g := w.heap.size + 1) (by omega) #[.int .i64 y.k, .int .i64 y.o, .string y.s, .int .i64 y.v, .slice a4 y.es.length c4]).mono (ψ := fun b => w.heap.size ≤ b) (fun b _ h => by omega))
      simp only [exV]
      clear hk4 b4
      go_wp2_with (refine wpList_store_row rfl TX (.tmp 4) (.tmp 16) rfl (w.heap.size + 1) #[.int .i64 y.k, .int .i64 y.o, .string y.s, .int .i64 y.v, .slice a4 y.es.length c4] rfl rfl _ _ H14.out (by kernel_rfl) rfl (by simp [Value.oneCell']) ?_)
      have hl := run_loadVar_row (P := Tryz.prog) (w4.setRow (w.heap.size + 1) #[.int .i64 y.k, .int .i64 y.o, .string y.s, .int .i64 y.v, .slice a4 y.es.length c4]) (w.heap.size + 1) _ TX _ (0, 0) _ HH4.out Tryz.underlying24 rfl (by kernel_rfl)
      try simp only [Exit.inBlock, Exit.then]
      refine bodyPost_ret (v := .tuple #[exV y (.slice a4 y.es.length c4), .bool true]) ?_ rfl ⟨a4, c4, by rw [HE.out]; rfl, by rw [HE.out]; exact HK9.out, HB9.out⟩
      rw [results_cell_tmp Tryz.results56]
      simp [asAddr, hl, Result.andThen, exV]
    · obtain ⟨s1, s2, s3⟩ := str_no hs
      have HE : Hid (sbF nm y e = none) := Lib.hid (by unfold sbF; rw [if_neg (fun h => hs h.2)])
      clear hk hs
      go_enter Tryz.func56, Tryz.ntmps56
      go_wp2
      have hl := fun o => run_loadVar_row (P := Tryz.prog) ((w.alloc o).alloc (.cells #[.int .i64 0, .int .i64 0, .string ⟨#[]⟩, .int .i64 0, .slice none 0 0] TX (0, 0))) (w.heap.size + 1) _ TX _ (0, 0) _ (HT.out _ _).2.1 Tryz.underlying24 rfl (by kernel_rfl)
      refine bodyPost_ret (v := .tuple #[exV zeroX (.slice none 0 0), .bool false]) ?_ rfl ⟨none, 0, by rw [HE.out]; rfl, by rw [HE.out]; exact KA.nil0 _ _, (HT.out _ _).2.2⟩
      rw [results_cell_tmp Tryz.results56]
      simp [asAddr, hl, Result.andThen, exV, zeroX, Ex.k, Ex.o, Ex.s, Ex.v]
      rfl
  · obtain ⟨q1, q2⟩ := ine hk
    have HE : Hid (sbF nm y e = none) := Lib.hid (by unfold sbF; rw [if_neg (fun h => hk h.1)])
    clear hk
    go_enter Tryz.func56, Tryz.ntmps56
    go_wp2
    have hl := fun o => run_loadVar_row (P := Tryz.prog) ((w.alloc o).alloc (.cells #[.int .i64 0, .int .i64 0, .string ⟨#[]⟩, .int .i64 0, .slice none 0 0] TX (0, 0))) (w.heap.size + 1) _ TX _ (0, 0) _ (HT.out _ _).2.1 Tryz.underlying24 rfl (by kernel_rfl)
    refine bodyPost_ret (v := .tuple #[exV zeroX (.slice none 0 0), .bool false]) ?_ rfl ⟨none, 0, by rw [HE.out]; rfl, by rw [HE.out]; exact KA.nil0 _ _, (HT.out _ _).2.2⟩
    rw [results_cell_tmp Tryz.results56]
    simp [asAddr, hl, Result.andThen, exV, zeroX, Ex.k, Ex.o, Ex.s, Ex.v]
    rfl

end Go.Proofs.YtfgaihajopfmfaaGreatDoor
