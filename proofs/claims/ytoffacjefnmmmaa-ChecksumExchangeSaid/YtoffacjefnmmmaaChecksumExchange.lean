/-
  A string has another checksum if two different bytes that are at most 256 places apart are exchanged: the law ChecksumExchange returns true at every input, and leaves its arguments as they were. No condition.
-/
import Derived.Test.YtoffacjefnmmmaaChanged
import Derived.ProofKit
import Derived.OpenShut
import Derived.ShutString
namespace Go.Proofs.Ytoffacjefnmmmaa
open Go.RowKit

theorem keepR_start {b cap n : Nat} {l : List UInt8} {r : ByteArray} {w w' : World} (hB : BytesAt b l w') (hb : Below b w w') (hz : b + 1 ≤ w'.heap.size) (hn : Hid (l.length = n)) (hr : Hid (strOf l = r)) :
    (convert 35 9 (.slice (some ⟨b, 0, none⟩) n cap)).run Try.prog w'.drew = .ok (.string r) w'.drew ∧ BytesAt b l w'.drew ∧ Below b w w'.drew ∧ b + 1 ≤ w'.drew.heap.size := by
  have h2 : BytesAt b l w'.drew := ⟨hB.cells, hB.free⟩
  have hc := string_of b cap n l hn.out w'.drew h2
  rw [hr.out] at hc
  exact ⟨hc, h2, hb.drew, hz⟩
theorem keepR {b cap n : Nat} {l : List UInt8} {r : ByteArray} {w w' w'' : World} (hn : Hid (l.length = n)) (hr : Hid (strOf l = r))
    (h : (convert 35 9 (.slice (some ⟨b, 0, none⟩) n cap)).run Try.prog w' = .ok (.string r) w' ∧ BytesAt b l w' ∧ Below b w w' ∧ b + 1 ≤ w'.heap.size) (hb : Below w'.heap.size w' w'') :
    (convert 35 9 (.slice (some ⟨b, 0, none⟩) n cap)).run Try.prog w'' = .ok (.string r) w'' ∧ BytesAt b l w'' ∧ Below b w w'' ∧ b + 1 ≤ w''.heap.size := by
  obtain ⟨_, h2, h3, h4⟩ := h
  have hs := hb.size
  have h5 := h2.below hb (by omega)
  have hc := string_of b cap n l hn.out w'' h5
  rw [hr.out] at hc
  exact ⟨hc, h5, h3.trans (hb.mono (by omega)), by omega⟩
theorem keepR_below {b cap n : Nat} {l : List UInt8} {r : ByteArray} {w w' : World}
    (h : (convert 35 9 (.slice (some ⟨b, 0, none⟩) n cap)).run Try.prog w' = .ok (.string r) w' ∧ BytesAt b l w' ∧ Below b w w' ∧ b + 1 ≤ w'.heap.size) : Below b w w' := h.2.2.1

set_option maxRecDepth 100000 in
set_option maxHeartbeats 2000000 in
theorem checksumExchange_main (s : ByteArray) (at_ i k : Nat) (c : UInt8) (hat : at_ ≤ 65535) (h0 : 1 ≤ s.size) (h1 : s.size ≤ 500) (hi : (at_ : Int) % (s.size : Int) = (i : Int)) (hk : (i : Int) + 1 + (c.toNat : Int) = (k : Int)) (his : i < s.size) (hks : k < s.size)
    (hxy : s[i] ≠ s[k]) (w : World) :
    Calls Try.prog 8 #[.string s, .int .u16 (at_ : Int), .int .u8 (c.toNat : Int)] w fun e w' => e = .returned (.bool true) ∧ Below w.heap.size w w' := by
  have hz : ((s.size : Int) == 0) = false := by rw [beq_eq_false_iff_ne]; omega
  have hik : i < k := by omega
  have hc8 := byte_lt c
  have hkd : k - i ≤ 256 := by omega
  have z1 : ¬ (s.size : Int) = 0 := by omega
  have z2 : ¬ s.size = 0 := by omega
  go_enter Try.func8, Try.ntmps8
  go_wp2_with fail
  rw [hi]
  have i0 : (0 : Int) ≤ (i : Int) := by omega
  have i1 : (i : Int) < (s.size : Int) := by omega
  have k0 : (0 : Int) ≤ (k : Int) := by omega
  have k1 : (k : Int) < (s.size : Int) := by omega
  have gd : decide ((s.size : Int) ≤ (k : Int)) = false := by simp; omega
  have gd2 : decide (s.size ≤ k) = false := by simp; omega
  have ge : ((s[i].toNat : Int) == (s[k].toNat : Int)) = false := by
    rw [beq_eq_false_iff_ne]
    intro e
    exact hxy (UInt8.toNat_inj.1 (by omega))
  clear hi hk
  go_quiet (fail)
  obtain ⟨w0, hw0⟩ : ∃ w0, w.drewN nq = w0 := ⟨_, rfl⟩
  have b0 : Below w.heap.size w w0 := by rw [← hw0]; exact ⟨rfl, rfl, rfl, Nat.le_refl _, fun _ _ => rfl⟩
  have z0 : w0.heap.size = w.heap.size := by rw [← hw0]; rfl
  rw [hw0]
  clear hw0
  obtain ⟨cap, w1, hrun, hB, hb, hz1⟩ := bytes_of s w0
  rw [z0] at hrun hB hb hz1
  have HZ := Lib.hid hz1
  clear z0 hz1
  go_wp2
  clear hrun
  obtain ⟨x, hx⟩ : ∃ x, s[i] = x := ⟨_, rfl⟩
  obtain ⟨y, hy⟩ : ∃ y, s[k] = y := ⟨_, rfl⟩
  have ci : w1.cell? ⟨w.heap.size, i, none⟩ = some (.int .u8 (x.toNat : Int)) := by rw [← hx]; exact hB.cells i (by simpa using his)
  have ck : w1.cell? ⟨w.heap.size, k, none⟩ = some (.int .u8 (y.toNat : Int)) := by rw [← hy]; exact hB.cells k (by simpa using hks)
  have fi := hB.free i (by simpa using his)
  have fk := hB.free k (by simpa using hks)
  have n1 : ¬ i = k := by omega
  have n2 : ¬ k = i := by omega
  have hil : i < s.data.toList.length := by simpa using his
  have hkl : k < s.data.toList.length := by simpa using hks
  have hxl : s.data.toList[i] = x := hx
  have hyl : s.data.toList[k] = y := hy
  have hne := sumN_swap_ne s.data.toList i k hik hkl hkd (by rw [hxl, hyl, ← hx, ← hy]; exact hxy)
  rw [hxl, hyl] at hne
  have hB2 := (hB.set i hil y).set k (by rw [List.length_set]; exact hkl) x
  obtain ⟨l2, hl2⟩ : ∃ l2, (s.data.toList.set i y).set k x = l2 := ⟨_, rfl⟩
  rw [hl2] at hne hB2
  have hll : l2.length = s.size := by rw [← hl2]; simp
  obtain ⟨r, hr⟩ : ∃ r, strOf l2 = r := ⟨_, rfl⟩
  have hrd : r.data.toList = l2 := by rw [← hr, strOf_toList]
  have hrs : r.size ≤ 9223372036854775807 := by rw [← hr, strOf_size]; omega
  have hb2 : ((sumN s.data.toList : Int) != (sumN r.data.toList : Int)) = true := by
    rw [bne_iff_ne, hrd]
    omega
  have hs : s.size ≤ 9223372036854775807 := by omega
  have HS := Lib.hid hs
  have HR := Lib.hid hrs
  have HL := Lib.hid hll
  have HRR := Lib.hid hr
  clear hx hy ge gd gd2 hxy hil hkl hxl hyl hne hl2 hll hr hrd hs hrs
  go_region
  obtain ⟨w2, hw2⟩ : ∃ w2, ((w1.setCell ⟨w.heap.size, i, none⟩ (.int .u8 (y.toNat : Int))).setCell ⟨w.heap.size, k, none⟩ (.int .u8 (x.toNat : Int))).drew = w2 := ⟨_, rfl⟩
  rw [hw2]
  have hB3 : BytesAt w.heap.size l2 w2 := by rw [← hw2]; exact ⟨hB2.cells, hB2.free⟩
  have hb3 : Below w.heap.size w w2 := by
    rw [← hw2]
    exact (((b0.trans hb).setCell (Nat.le_refl _) _).setCell (Nat.le_refl _) _).drew
  have hz3 : w.heap.size + 1 ≤ w2.heap.size := by rw [← hw2]; simp [HZ.out]
  clear hw2 hB2 hB hb b0 ci ck fi fk
  go_wp2_with fail
  go_region_held3 (fun w' => (convert 35 9 (.slice (some ⟨w.heap.size, 0, none⟩) s.size cap)).run Try.prog w' = .ok (.string r) w' ∧ BytesAt w.heap.size l2 w' ∧ Below w.heap.size w w' ∧ w.heap.size + 1 ≤ w'.heap.size)
    (first | exact keepR_start hB3 hb3 hz3 HL HRR | assumption | exact keepR HL HRR (by assumption) (by assumption))
    (first | (go_at_call 18; refine (sum_any _ (by first | exact HS.out | exact HR.out) _).mono ?_; rintro e w4 ⟨rfl, b4⟩) | (go_at_call 13; refine (awake_any _).mono ?_; rintro e w5 ⟨rfl, b5⟩))
  have hb5 : Below w.heap.size w w5 := keepR_below (by assumption)
  go_wp2
  go_ret
  exact ⟨rfl, hb5⟩

set_option maxRecDepth 100000 in
set_option maxHeartbeats 2000000 in
theorem checksumExchange_far (s : ByteArray) (at_ i k : Nat) (c : UInt8) (hat : at_ ≤ 65535) (h0 : 1 ≤ s.size) (h1 : s.size ≤ 500) (hi : (at_ : Int) % (s.size : Int) = (i : Int)) (hk : (i : Int) + 1 + (c.toNat : Int) = (k : Int)) (his : i < s.size) (hks : s.size ≤ k) (w : World) :
    Calls Try.prog 8 #[.string s, .int .u16 (at_ : Int), .int .u8 (c.toNat : Int)] w fun e w' => e = .returned (.bool true) ∧ Below w.heap.size w w' := by
  have hz : ((s.size : Int) == 0) = false := by rw [beq_eq_false_iff_ne]; omega
  have hc8 := byte_lt c
  have z1 : ¬ (s.size : Int) = 0 := by omega
  have z2 : ¬ s.size = 0 := by omega
  go_enter Try.func8, Try.ntmps8
  go_wp2_with fail
  rw [hi]
  have i0 : (0 : Int) ≤ (i : Int) := by omega
  have i1 : (i : Int) < (s.size : Int) := by omega
  have k0 : (0 : Int) ≤ (k : Int) := by omega
  have gd : decide ((s.size : Int) ≤ (k : Int)) = true := by simp; omega
  have gd2 : decide (s.size ≤ k) = true := by simp; omega
  clear hi hk
  go_quiet (fail)
  obtain ⟨w0, hw0⟩ : ∃ w0, w.drewN nq = w0 := ⟨_, rfl⟩
  have b0 : Below w.heap.size w w0 := by rw [← hw0]; exact ⟨rfl, rfl, rfl, Nat.le_refl _, fun _ _ => rfl⟩
  rw [hw0]
  clear hw0
  go_wp2_with fail
  refine (awake_any _).mono ?_
  rintro e w1 ⟨rfl, b1⟩
  go_wp2
  go_ret
  exact ⟨rfl, b0.trans (b1.mono b0.size)⟩

set_option maxRecDepth 100000 in
set_option maxHeartbeats 2000000 in
theorem checksumExchange_same (s : ByteArray) (at_ i k : Nat) (c : UInt8) (hat : at_ ≤ 65535) (h0 : 1 ≤ s.size) (h1 : s.size ≤ 500) (hi : (at_ : Int) % (s.size : Int) = (i : Int)) (hk : (i : Int) + 1 + (c.toNat : Int) = (k : Int)) (his : i < s.size) (hks : k < s.size) (hxy : s[i] = s[k]) (w : World) :
    Calls Try.prog 8 #[.string s, .int .u16 (at_ : Int), .int .u8 (c.toNat : Int)] w fun e w' => e = .returned (.bool true) ∧ Below w.heap.size w w' := by
  have hz : ((s.size : Int) == 0) = false := by rw [beq_eq_false_iff_ne]; omega
  have hc8 := byte_lt c
  have z1 : ¬ (s.size : Int) = 0 := by omega
  have z2 : ¬ s.size = 0 := by omega
  go_enter Try.func8, Try.ntmps8
  go_wp2_with fail
  rw [hi]
  have i0 : (0 : Int) ≤ (i : Int) := by omega
  have i1 : (i : Int) < (s.size : Int) := by omega
  have k0 : (0 : Int) ≤ (k : Int) := by omega
  have k1 : (k : Int) < (s.size : Int) := by omega
  have gd : decide ((s.size : Int) ≤ (k : Int)) = false := by simp; omega
  have gd2 : decide (s.size ≤ k) = false := by simp; omega
  have ge : ((s[i].toNat : Int) == (s[k].toNat : Int)) = true := by rw [hxy]; simp
  clear hi hk hxy
  go_quiet (fail)
  obtain ⟨w0, hw0⟩ : ∃ w0, w.drewN nq = w0 := ⟨_, rfl⟩
  have b0 : Below w.heap.size w w0 := by rw [← hw0]; exact ⟨rfl, rfl, rfl, Nat.le_refl _, fun _ _ => rfl⟩
  rw [hw0]
  clear hw0
  go_wp2_with fail
  refine (awake_any _).mono ?_
  rintro e w1 ⟨rfl, b1⟩
  go_wp2
  go_ret
  exact ⟨rfl, b0.trans (b1.mono b0.size)⟩

set_option maxRecDepth 100000 in
set_option maxHeartbeats 2000000 in
theorem checksumExchange_walk (s : ByteArray) (at_ : Nat) (c : UInt8) (hat : at_ ≤ 65535) (hs : s.size ≤ 9223372036854775807) (w : World) :
    Calls Try.prog 8 #[.string s, .int .u16 (at_ : Int), .int .u8 (c.toNat : Int)] w fun e w' => e = .returned (.bool true) ∧ Below w.heap.size w w' := by
  by_cases h1 : 500 < s.size
  · have hz : ((s.size : Int) == 0) = false := by rw [beq_eq_false_iff_ne]; omega
    go_enter Try.func8, Try.ntmps8
    go_wp2_with fail
    refine (awake_any _).mono ?_
    rintro e w1 ⟨rfl, b1⟩
    go_wp2
    go_ret
    exact ⟨rfl, b1⟩
  · by_cases h0 : s.size = 0
    · have hz : ((s.size : Int) == 0) = true := by rw [h0]; rfl
      clear h0
      go_enter Try.func8, Try.ntmps8
      go_wp2_with fail
      refine (awake_any _).mono ?_
      rintro e w1 ⟨rfl, b1⟩
      go_wp2
      go_ret
      exact ⟨rfl, b1⟩
    · have his : at_ % s.size < s.size := Nat.mod_lt _ (by omega)
      have hi : (at_ : Int) % (s.size : Int) = ((at_ % s.size : Nat) : Int) := (Int.natCast_emod _ _).symm
      obtain ⟨k, hk⟩ : ∃ k : Nat, ((at_ % s.size : Nat) : Int) + 1 + (c.toNat : Int) = (k : Int) := ⟨at_ % s.size + 1 + c.toNat, by omega⟩
      by_cases hks : k < s.size
      · by_cases hxy : s[at_ % s.size] = s[k]
        · exact checksumExchange_same s at_ _ k c hat (by omega) (by omega) hi hk his hks hxy w
        · exact checksumExchange_main s at_ _ k c hat (by omega) (by omega) hi hk his hks hxy w
      · exact checksumExchange_far s at_ _ k c hat (by omega) (by omega) hi hk his (by omega) w

end Go.Proofs.Ytoffacjefnmmmaa
namespace Go.Proofs.Ytoffacjefnmmmaa.checksumExchange
open Go.ChangeShapes Go.WideShapes Go.ChangeAt Go.RowKit
open Go.ChangeMaps (open_string shut_string)
set_option linter.unusedVariables false

theorem own : ownKnob Try.prog.godebug = none := by kernel_rfl
theorem laidOut : laidOutB Try.prog = true := by kernel_rfl

theorem walk (a0 : ByteArray) (a1 : Int) (a2 : Int) (w0 : a0.size ≤ maxLen) (w1 : (Lit.int .u16 a1).wf = true) (w2 : (Lit.int .u8 a2).wf = true) (w : World) :
    Calls Try.prog 8 #[.string a0, .int .u16 a1, .int .u8 a2] w fun e w' => e = .returned (.bool true) ∧ Below w.heap.size w w' := by
  obtain ⟨m, rfl, hm⟩ := wf_u16 w1; obtain ⟨c, rfl⟩ := wf_u8 w2; exact checksumExchange_walk a0 m c hm (size_in w0) w

set_option maxRecDepth 100000 in
theorem lifted (os : Os) (started : os.Started) (H : Type) (enc : TypeId × Value → H) :
    ReturnsInHanded {} Try.checked os 8 .any (Rows.checksumExchangeSpec.pre6 enc Try.prog Try.f8 Rows.checksumExchangeRow.domain false) (Rows.checksumExchangeSpec.post enc Try.prog Try.f8 false true false false) := by
  refine returnsInHanded_of_change (C := Try.checked) own started (by kernel_rfl) Try.func8
    (ChangeSpec.witness6 (enc := enc) (C := Try.checked) false ⟨#[], #[.string ByteArray.empty, .int .u16 0, .int .u8 0], []⟩ 8 (by kernel_rfl) (by kernel_rfl) (by kernel_rfl) (by kernel_rfl)) ?_
  intro W base args ds gs before hval0 hW hcnd _
  have hval : ∀ (j : Nat) t v, Try.f8.params[j]? = some t → args[j]? = some v → Value.okWide Try.prog W .any base t v := hval0
  have hW' := hW
  obtain ⟨p, q, hA0, hV, rfl, hfz, hnd⟩ := hW
  have hA : DataW.TrodAll enc Try.prog W 0 (fun _ => true) true Try.f8.params.toList args.toList ds p := hA0
  rw [Try.params8] at hA hval
  obtain ⟨v0, vs0, d0, ds0, p0, q0, hargs, rfl, rfl, h0, r0⟩ := trodAll_cons hA
  obtain ⟨v1, vs1, d1, ds1, p1, q1, rfl, rfl, rfl, h1, r1⟩ := trodAll_cons r0
  obtain ⟨v2, vs2, d2, ds2, p2, q2, rfl, rfl, rfl, h2, r2⟩ := trodAll_cons r1
  obtain ⟨rfl, rfl, rfl⟩ := trodAll_nil r2
  obtain rfl : args = #[v0, v1, v2] := by cases args; simp_all
  obtain ⟨rfl, rfl⟩ := trodVars_none hV
  obtain ⟨a0, rfl, rfl, rfl, w0⟩ := open_string Try.underlying9 (hval 0 9 v0 rfl rfl) h0
  obtain ⟨a1, rfl, rfl, rfl, w1⟩ := open_int Try.underlying37 (hval 1 37 v1 rfl rfl) h1
  obtain ⟨a2, rfl, rfl, rfl, w2⟩ := open_int Try.underlying5 (hval 2 5 v2 rfl rfl) h2
  clear hA0 hval0
  simp only [List.append_nil] at hW'
  refine (walk a0 a1 a2 w0 w1 w2 W).mono fun e W' ⟨he, hg⟩ => ?_
  subst he
  exact ⟨_, rfl, _, _, _, [], [], [], hW', (trodAll_cons_mk (shut_bool Try.underlying4 _) trodAll_mk0), (trodAll_cons_mk (shut_string Try.underlying9 w0) (trodAll_cons_mk (shut_int Try.underlying37 w1) (trodAll_cons_mk (shut_int Try.underlying5 w2) trodAll_mk0))), rfl, hg.frame _, fun h => by cases h⟩

theorem over : Rows.checksumExchangeRow.holds Try.pinned (OpenSpec.ofChange Rows.checksumExchangeSpec) :=
  OpenClaim.holds_of_wide 8 Try.f8 rfl rfl rfl rfl rfl rfl rfl ⟨rfl, rfl, rfl, rfl, rfl⟩ rfl rfl rfl rfl rfl (by kernel_rfl) Try.func8 (by kernel_rfl)
    (of_decide_eq_true (by kernel_rfl)) (by unfold Func.isWrapper; first | (rw [if_pos (by decide +kernel)]; kernel_rfl) | (rw [if_neg (by decide +kernel)]; exact ⟨rfl, rfl⟩))
    (fun os started H enc _ => lifted os started H enc)

theorem proved : Rows.ChecksumExchangeSaid :=
  over
end Go.Proofs.Ytoffacjefnmmmaa.checksumExchange

