/-
  A text or a list of the greatest length can be encoded and read, a longer one is ErrLimit (texts of one byte that is repeated, and lists of one integer): the law CodecLimits returns true at every input, and leaves its arguments as they were. No condition.
-/
import Derived.Test.YtdnjjppidolnbaaSame
import Derived.Test.YtdnjjppidolnbaaAwake
import Derived.Test.YtdnjjppidolnbaaLawKit
import Derived.Test.YtdnjjppidolnbaaRefList
import Derived.Test.YtdnjjppidolnbaaRound
import Derived.Test.YtdnjjppidolnbaaReadListB
import Derived.Test.YtdnjjppidolnbaaReadTextB
import Derived.ProofKit
import Derived.OpenShut
import Derived.ShutString
namespace Go.Proofs.Ytdnjjppidolnbaa
open Go.RowKit


theorem encText_length_le (t : List UInt8) : (encText t).length ≤ 2 * t.length + 2 := by
  have := escText_length t
  simp [encText]
  omega
theorem encList_length_le (zs : List Int) (h : AllR zs) : (encList zs).length ≤ 9 * zs.length + 1 := by
  have := flat_length zs h
  simp [encList] at this ⊢
  omega
theorem listL_ok {zs : List Int} (h : zs.length ≤ 20000) (hr : AllR zs) : listL zs = encList zs ∧ listE zs = 0 := by
  unfold listL listE
  have hn : ¬ 20000 < zs.length := by omega
  rw [if_neg hn, if_neg hn, if_pos hr, if_pos hr]
  exact ⟨rfl, rfl⟩
theorem listL_bad {zs : List Int} (h : zs.length ≤ 20000) (hr : ¬ AllR zs) : listE zs = 2 := by
  unfold listE
  have hn : ¬ 20000 < zs.length := by omega
  rw [if_neg hn, if_neg hr]
theorem listL_long {zs : List Int} (h : 20000 < zs.length) : listL zs = [] ∧ listE zs = 4 := by
  unfold listL listE
  rw [if_pos h, if_pos h]
  exact ⟨rfl, rfl⟩

theorem encList_replicate (N : Nat) (n : Int) : (encList (List.replicate N n)).length = N * (encInt n).length + 1 := by
  unfold encList
  rw [List.length_append, List.flatMap_replicate, List.length_flatten, List.map_replicate]
  simp [List.sum_replicate_nat]
theorem readList_enc (zs : List Int) (hall : AllR zs) (hlz : zs.length ≤ 20000) (hl : (encList zs).length ≤ 9223372036854775807) (u : World) :
    Calls Try.prog 25 #[.string (strOf (encList zs))] u fun e w' => ∃ ad cap, e = .returned (.tuple #[.slice ad zs.length cap, .int .i64 ((strOf (encList zs)).size : Int), .int .i64 0]) ∧ IntsA w'.heap.size w' ad zs ∧ Below u.heap.size u w' := by
  have h := readList_any (strOf (encList zs)) (by rw [strOf_size]; exact hl) u
  have hd := decLf_encList ((encList zs).length + 1) zs [] [] 0 hall (by rw [List.append_nil]; omega) (by unfold maxL; simp only [List.length_nil]; omega)
  rw [List.append_nil] at hd
  unfold ReadsL decL at h
  rw [strOf_toList, hd] at h
  simp only [Rd.val, Rd.len, Rd.e, List.nil_append, Nat.zero_add] at h
  rw [strOf_size]
  exact h
def fillL (n : Int) (k N : Nat) : List Value := List.replicate k (.int .i64 n) ++ List.replicate (N - k) (.int .i64 0)
theorem fillL_zero (n : Int) (N : Nat) : (madeCells #[.int .i64 0] N).toList = fillL n 0 N := by
  rw [toList_madeCells_one]
  simp [fillL]
theorem fillL_get (n : Int) (k N : Nat) (h : k < N) : (fillL n k N)[k]? = some (.int .i64 0) := by
  unfold fillL
  rw [List.getElem?_append_right (by simp), List.length_replicate, Nat.sub_self, List.getElem?_replicate, if_pos (by omega)]
theorem fillL_set (n : Int) (k N : Nat) (h : k < N) : (fillL n k N).set k (.int .i64 n) = fillL n (k + 1) N := by
  unfold fillL
  rw [List.set_append_right _ _ (by simp), List.length_replicate, Nat.sub_self]
  obtain ⟨d, hd⟩ : ∃ d, N - k = d + 1 := ⟨N - k - 1, by omega⟩
  rw [hd, show N - (k + 1) = d from by omega, List.replicate_succ, List.set_cons_zero, List.replicate_succ', List.append_assoc]
  rfl
theorem fillL_full (n : Int) (N : Nat) : fillL n N N = (List.replicate N n).map (Value.int .i64) := by
  simp [fillL]
theorem byteOf {c : Int} (h0 : 0 ≤ c) (h1 : c ≤ 255) : ∃ x : UInt8, c = (x.toNat : Int) :=
  ⟨UInt8.ofNat c.toNat, by rw [ofNat_toNat_lt (by omega)]; omega⟩
theorem repeat_one (x : UInt8) (k : Nat) : Lib.repeatL [x] k = List.replicate k x := by
  have := Lib.repeatL_replicate x 1 k
  simpa using this
theorem append_self (a b : List UInt8) : (strOf a) ++ (strOf b) = strOf (a ++ b) := by
  apply ByteArray.ext
  simp [strOf]

/-- The text of the law: what one byte's string, its repetition, its encoding and a longer one are. -/
theorem limits_text (x : UInt8) : ∃ X T S : ByteArray, X.size = 1 ∧ T.size = 100000 ∧
    (∀ w : World, (convert 42 9 (.slice (some ⟨w.heap.size, 0, none⟩) 1 1)).run Try.prog (w.alloc (.cells #[.int .u8 (x.toNat : Int)] T8)) = .ok (.string X) (w.alloc (.cells #[.int .u8 (x.toNat : Int)] T8))) ∧
    (∀ w : World, Calls Try.prog 28 #[.string X, .int .i64 100000] w fun e w' => e = .returned (.string T) ∧ Below w.heap.size w w') ∧
    (∀ w : World, Calls Try.prog 16 #[.string T] w fun e w' => e = .returned (.tuple #[.string S, .int .i64 0]) ∧ Below w.heap.size w w') ∧
    (∀ w : World, Calls Try.prog 18 #[.string S] w fun e w' => e = .returned (.tuple #[.string T, .int .i64 (S.size : Int), .int .i64 0]) ∧ Below w.heap.size w w') ∧
    (∀ w : World, Calls Try.prog 16 #[.string (T ++ X)] w fun e w' => e = .returned (.tuple #[.string ⟨#[]⟩, .int .i64 4]) ∧ Below w.heap.size w w') := by
  have hT : (List.replicate 100000 x).length = 100000 := List.length_replicate
  have hTX : (List.replicate 100000 x ++ [x]).length = 100001 := by rw [List.length_append, hT]; rfl
  have hR := repeat_one x 100000
  generalize List.replicate 100000 x = L at hT hTX hR
  refine ⟨strOf [x], strOf L, strOf (encText L), rfl, by rw [strOf_size, hT], fun w => ?_, fun w => ?_, fun w => ?_, fun w => ?_, fun w => ?_⟩
  · refine run_convert_bytes_back (P := Try.prog) _ 42 9 T8 ⟨w.heap.size, 0, none⟩ 1 [x] Try.underlying42 Try.underlying5 Try.underlying9 fun j hj => ?_
    have : j = 0 := by simpa using hj
    subst this
    exact (cell_of_row (w.alloc (.cells #[.int .u8 (x.toNat : Int)] T8)) w.heap.size 0 #[.int .u8 (x.toNat : Int)] T8 (0, 0) (heap_alloc_new w _)).trans rfl
  · have h := Try.strings_Repeat (strOf [x]) 100000 w (by decide) (by rw [show (strOf [x]).size = 1 from rfl]; decide)
    rw [strOf_toList, hR] at h
    exact h
  · have h := text_any (strOf L) w (by rw [strOf_size, hT]; decide)
    unfold textL textE at h
    rw [strOf_toList, if_pos (by rw [hT]; exact Nat.le_refl _), if_pos (by rw [hT]; exact Nat.le_refl _)] at h
    exact h
  · have hl := encText_length_le L
    have h := readText_any (strOf (encText L)) (by rw [strOf_size]; omega) w
    unfold readTextV at h
    have hd := decT_encText L [] [] 0 (by simp only [List.length_nil]; omega)
    rw [List.append_nil] at hd
    rw [strOf_toList, hd] at h
    simp only [Rd.val, Rd.len, Rd.e, List.nil_append, Nat.zero_add] at h
    rw [← strOf_size] at h
    exact h
  · have h := text_any (strOf (L ++ [x])) w (by rw [strOf_size, hTX]; decide)
    unfold textL textE at h
    rw [strOf_toList, if_neg (by rw [hTX]; decide), if_neg (by rw [hTX]; decide)] at h
    rw [append_self]
    exact h

set_option maxRecDepth 100000 in
set_option maxHeartbeats 16000000 in
theorem codecLimits_walk (c n more : Int) (N : Nat) (hc0 : 0 ≤ c) (hc1 : c ≤ 255) (hm0 : 0 ≤ more) (hm1 : more ≤ 255) (hN : (20000 : Int) + more % 2 = (N : Int)) (w : World) :
    Calls Try.prog 6 #[.int .u8 c, .int .i64 n, .int .u8 more] w fun e w' => e = .returned (.bool true) ∧ Below w.heap.size w w' := by
  obtain ⟨x, rfl⟩ := byteOf hc0 hc1
  obtain ⟨X, T, S, hX, hT, hcv, hrep, htx, hrt, hty⟩ := limits_text x
  have HREP := Lib.hid hrep
  have HTX := Lib.hid htx
  have HRT := Lib.hid hrt
  have HTY := Lib.hid hty
  clear hrep htx hrt hty
  have hcv0 := hcv w
  have hb0 : Below w.heap.size w (w.alloc (.cells #[.int .u8 (x.toNat : Int)] T8)) := (Below.refl _ w).alloc (Nat.le_refl _) _
  obtain ⟨i0, hi, hz0, hz1, hz2⟩ := info_parts infoI
  go_enter Try.func6, Try.ntmps6
  go_wp2_with fail
  refine (HREP.out _).mono ?_
  rintro e w1 ⟨rfl, b1⟩
  have c1 := hb0.trans (b1.mono hb0.size)
  have s1 := c1.size
  clear hcv0
  go_wp2_with fail
  refine (HTX.out _).mono ?_
  rintro e w2 ⟨rfl, b2⟩
  have c2 := c1.trans (b2.mono s1)
  have s2 := c2.size
  go_wp2_with fail
  refine (HRT.out _).mono ?_
  rintro e w3 ⟨rfl, b3⟩
  have c3 := c2.trans (b3.mono s2)
  have s3 := c3.size
  have hcv1 := hcv w3
  have hb1 : Below w.heap.size w (w3.alloc (.cells #[.int .u8 (x.toNat : Int)] T8)) := c3.alloc s3 _
  have s4 := hb1.size
  go_wp2_with fail
  refine (HTY.out _).mono ?_
  rintro e w4 ⟨rfl, b4⟩
  have c4 := hb1.trans (b4.mono s4)
  have s5 := c4.size
  clear hcv1 hcv hb1 hb0 b1 b2 b3 b4 c1 c2 c3 s1 s2 s3 s4
  have hN0 : (20000 : Int) ≤ (N : Int) := by omega
  have hN1 : (N : Int) ≤ 20001 := by omega
  have hNn : N ≤ 20001 := by omega
  have HNC : Hid (N = 20000 ∨ N = 20001) := Lib.hid (by omega)
  obtain ⟨G, hG⟩ : ∃ G, w4.heap.size = G := ⟨_, rfl⟩
  go_wp2_with (at_make; refine wpList_make_full _ rfl (.tmp 71) (.tmp 71) 34 rfl w.heap.size TI i0 (.int .i64 0) 1 Try.underlying34 hi hz0 hz1 .i64 .i64 _ _ N rfl rfl rfl rfl (by rw [hz2]; omega) (by unfold maxLen; omega) s5 ?_)
  intro w5 ho5 hg5
  rw [fillL_zero n N] at ho5
  have c5 : Below w.heap.size w w5 := c4.grown hg5 s5 (fun j hj => by cases hj)
  have HO5 := Lib.hid ho5
  have hGB : w.heap.size ≤ G := by omega
  clear ho5 hg5 hm0 hm1 hN
  go_wp2
  go_loopw [75] (fun i wr => ∃ k : Nat, k ≤ N ∧ i = .int .i64 k ∧ Hid (wr.ownsRow w.heap.size TI 1 (.slice (some ⟨G, 0, none⟩) N N) N (fillL n k N)) ∧ Below w.heap.size w wr) (fun i _ => N - (intOf i).toNat)
  case atStart => exact ⟨0, Nat.zero_le _, rfl, HO5, c5⟩
  case round =>
    obtain ⟨k, hk, rfl, HO, hb⟩ := hrel
    have hsz := hb.size
    by_cases hlt : k < N
    · have cx : wr.cell? ⟨G, k, none⟩ = some (.int .i64 0) := (World.ownsRow.cellAt HO.out k (by omega)).trans (fillL_get n k N hlt)
      have fz : wr.frozen? ⟨G, k, none⟩ = false := World.ownsRow.frozenAt HO.out k
      have HS := World.ownsRow.stored HO.out k (.int .i64 n)
      rw [fillL_set n k N hlt] at HS
      have HS1 := Lib.hid HS.1
      have hb2 : Below w.heap.size w (wr.setCell ⟨G, k, none⟩ (.int .i64 n)) := hb.setCell (p := ⟨G, k, none⟩) hGB _
      clear HS
      go_wp2
      go_roundw
      case rel => exact ⟨k + 1, by omega, by go_num, HS1, hb2⟩
      case measure => simp [intOf]; omega
    · have hkN : k = N := by omega
      have hrow := HO.out
      rw [hkN, fillL_full n N] at hrow
      have hI0 := (ownsRow_ints hrow).2
      obtain ⟨zs, hzl, HZ, HI⟩ : ∃ zs : List Int, zs.length = N ∧ Hid (zs = List.replicate N n) ∧ Hid (IntsA wr.heap.size wr (some ⟨G, 0, none⟩) zs) := ⟨_, List.length_replicate, Lib.hid rfl, Lib.hid hI0⟩
      have HZL := Lib.hid hzl
      clear hrow hI0 hzl
      have hri := int_any n wr
      by_cases hc : 20000 < N
      · have hcI : (20000 : Int) < (N : Int) := by omega
        have hli := fun (u : World) (b : Below wr.heap.size wr u) => list_anyA (some ⟨G, 0, none⟩) N zs u ((HI.out.below b).mono b.size) (by rw [HZL.out]; omega)
        rw [(listL_long (by rw [HZL.out]; exact hc)).1, (listL_long (by rw [HZL.out]; exact hc)).2, HZL.out, show strOf [] = ⟨#[]⟩ from rfl] at hli
        have HLI := Lib.hid hli
        generalize strOf (intL n) = o at hri
        generalize intE n = ie at hri
        have HRI := Lib.hid hri
        clear hli hri
        go_wp2_with fail
        refine HRI.out.mono ?_
        rintro e w6 ⟨rfl, b6⟩
        have c6 := hb.trans (b6.mono hsz)
        have s6 := c6.size
        go_wp2_with fail
        refine (HLI.out _ b6).mono ?_
        rintro e w7 ⟨rfl, b7⟩
        have c7 := c6.trans (b7.mono s6)
        have s7 := c7.size
        go_wp2_with fail
        refine (awake_any _).mono ?_
        rintro e w8 ⟨rfl, b8⟩
        go_wp2
        go_ret
        exact ⟨rfl, c7.trans (b8.mono s7)⟩
      · have hcI : (N : Int) ≤ 20000 := by omega
        have hNe : N = 20000 := by omega
        have hlz : zs.length ≤ 20000 := by rw [HZL.out]; omega
        by_cases hn : InR n
        · have hall : AllR zs := by
            rw [HZ.out]
            intro y hy
            rw [(List.mem_replicate.1 hy).2]
            exact hn
          have hlen : (encList zs).length = 20000 * (encInt n).length + 1 := by
            rw [HZ.out, hNe]; exact encList_replicate 20000 n
          unfold intL intE at hri
          rw [if_pos hn, if_pos hn] at hri
          have hel := encInt_length_le hn
          have hli := fun (u : World) (b : Below wr.heap.size wr u) => list_anyA (some ⟨G, 0, none⟩) N zs u ((HI.out.below b).mono b.size) (by omega)
          rw [(listL_ok hlz hall).1, (listL_ok hlz hall).2, HZL.out] at hli
          have hrl := fun (u : World) => readList_enc zs hall hlz (by omega) u
          simp only [HZL.out] at hrl
          have hA : (strOf (encList zs)).size = 20000 * (strOf (encInt n)).size + 1 := by rw [strOf_size, strOf_size]; exact hlen
          have hO : (strOf (encInt n)).size ≤ 9 := by rw [strOf_size]; exact hel
          clear hel hlen
          generalize strOf (encInt n) = o at hri hA hO
          generalize strOf (encList zs) = q at hli hrl hA
          have hAI : (q.size : Int) = 20000 * (o.size : Int) + 1 := by omega
          have hOI : (o.size : Int) ≤ 9 := by omega
          have HRI := Lib.hid hri
          have HLI := Lib.hid hli
          have HRL := Lib.hid hrl
          clear hli hri hrl hA hO hNe hlz hall hn hc
          go_wp2_with fail
          refine HRI.out.mono ?_
          rintro e w6 ⟨rfl, b6⟩
          have c6 := hb.trans (b6.mono hsz)
          have s6 := c6.size
          go_wp2_with fail
          refine (HLI.out _ b6).mono ?_
          rintro e w7 ⟨rfl, b7⟩
          have c7 := c6.trans (b7.mono s6)
          have s7 := c7.size
          have d7 := b6.trans (b7.mono b6.size)
          go_wp2_with fail
          refine (HRL.out _).mono ?_
          rintro e w8 ⟨ad, cap, rfl, hI8, b8⟩
          have c8 := c7.trans (b8.mono s7)
          have s8 := c8.size
          have d8 := d7.trans (b8.mono d7.size)
          have hsm := same_any wr.heap.size w8.heap.size (some ⟨G, 0, none⟩) ad N cap zs zs w8 (HI.out.below d8) hI8 (by rw [HZL.out]; omega) (by rw [HZL.out]; omega)
          simp only [decide_true, HZL.out] at hsm
          have HSM := Lib.hid hsm
          clear hsm hI8
          go_wp2_with fail
          refine HSM.out.mono ?_
          rintro e w9 ⟨rfl, b9⟩
          have c9 := c8.trans (b9.mono s8)
          have s9 := c9.size
          go_wp2_with fail
          refine (awake_any _).mono ?_
          rintro e w10 ⟨rfl, b10⟩
          go_wp2
          go_ret
          exact ⟨rfl, c9.trans (b10.mono s9)⟩
        · have hnall : ¬ AllR zs := fun h => hn (h n (by rw [HZ.out, hNe]; exact List.mem_replicate.2 ⟨by decide, rfl⟩))
          unfold intE at hri
          rw [if_neg hn] at hri
          have hli := fun (u : World) (b : Below wr.heap.size wr u) => list_anyA (some ⟨G, 0, none⟩) N zs u ((HI.out.below b).mono b.size) (by omega)
          rw [listL_bad hlz hnall, HZL.out] at hli
          generalize strOf (intL n) = o at hri
          generalize strOf (listL zs) = q at hli
          have HRI := Lib.hid hri
          have HLI := Lib.hid hli
          clear hli hri hNe hlz hnall hn hc
          go_wp2_with fail
          refine HRI.out.mono ?_
          rintro e w6 ⟨rfl, b6⟩
          have c6 := hb.trans (b6.mono hsz)
          have s6 := c6.size
          go_wp2_with fail
          refine (HLI.out _ b6).mono ?_
          rintro e w7 ⟨rfl, b7⟩
          have c7 := c6.trans (b7.mono s6)
          have s7 := c7.size
          go_wp2_with fail
          refine (awake_any _).mono ?_
          rintro e w8 ⟨rfl, b8⟩
          go_wp2
          go_ret
          exact ⟨rfl, c7.trans (b8.mono s7)⟩

theorem codecLimits_all (c n more : Int) (hc : (Lit.int .u8 c).wf = true) (hm : (Lit.int .u8 more).wf = true) (w : World) :
    Calls Try.prog 6 #[.int .u8 c, .int .i64 n, .int .u8 more] w fun e w' => e = .returned (.bool true) ∧ Below w.heap.size w w' := by
  simp [Lit.wf] at hc hm
  exact codecLimits_walk c n more (20000 + (more % 2).toNat) hc.1 hc.2 hm.1 hm.2 (by omega) w

end Go.Proofs.Ytdnjjppidolnbaa
namespace Go.Proofs.Ytdnjjppidolnbaa.codecLimits
open Go.ChangeShapes Go.WideShapes Go.ChangeAt Go.RowKit
open Go.ChangeMaps (open_string shut_string)
set_option linter.unusedVariables false

theorem own : ownKnob Try.prog.godebug = none := by kernel_rfl
theorem laidOut : laidOutB Try.prog = true := by kernel_rfl

theorem walk (a0 : Int) (a1 : Int) (a2 : Int) (w0 : (Lit.int .u8 a0).wf = true) (w1 : (Lit.int .i64 a1).wf = true) (w2 : (Lit.int .u8 a2).wf = true) (w : World) :
    Calls Try.prog 6 #[.int .u8 a0, .int .i64 a1, .int .u8 a2] w fun e w' => e = .returned (.bool true) ∧ Below w.heap.size w w' := by
  exact codecLimits_all a0 a1 a2 w0 w2 w

set_option maxRecDepth 100000 in
theorem lifted (os : Os) (started : os.Started) (H : Type) (enc : TypeId × Value → H) :
    ReturnsInHanded {} Try.checked os 6 .any (Rows.codecLimitsSpec.pre6 enc Try.prog Try.f6 Rows.codecLimitsRow.domain false) (Rows.codecLimitsSpec.post enc Try.prog Try.f6 false true false false) := by
  refine returnsInHanded_of_change (C := Try.checked) own started (by kernel_rfl) Try.func6
    (ChangeSpec.witness6 (enc := enc) (C := Try.checked) false ⟨#[], #[.int .u8 0, .int .i64 0, .int .u8 0], []⟩ 8 (by kernel_rfl) (by kernel_rfl) (by kernel_rfl) (by kernel_rfl)) ?_
  intro W base args ds gs before hval0 hW hcnd _
  have hval : ∀ (j : Nat) t v, Try.f6.params[j]? = some t → args[j]? = some v → Value.okWide Try.prog W .any base t v := hval0
  have hW' := hW
  obtain ⟨p, q, hA0, hV, rfl, hfz, hnd⟩ := hW
  have hA : DataW.TrodAll enc Try.prog W 0 (fun _ => true) true Try.f6.params.toList args.toList ds p := hA0
  rw [Try.params6] at hA hval
  obtain ⟨v0, vs0, d0, ds0, p0, q0, hargs, rfl, rfl, h0, r0⟩ := trodAll_cons hA
  obtain ⟨v1, vs1, d1, ds1, p1, q1, rfl, rfl, rfl, h1, r1⟩ := trodAll_cons r0
  obtain ⟨v2, vs2, d2, ds2, p2, q2, rfl, rfl, rfl, h2, r2⟩ := trodAll_cons r1
  obtain ⟨rfl, rfl, rfl⟩ := trodAll_nil r2
  obtain rfl : args = #[v0, v1, v2] := by cases args; simp_all
  obtain ⟨rfl, rfl⟩ := trodVars_none hV
  obtain ⟨a0, rfl, rfl, rfl, w0⟩ := open_int Try.underlying5 (hval 0 5 v0 rfl rfl) h0
  obtain ⟨a1, rfl, rfl, rfl, w1⟩ := open_int Try.underlying3 (hval 1 3 v1 rfl rfl) h1
  obtain ⟨a2, rfl, rfl, rfl, w2⟩ := open_int Try.underlying5 (hval 2 5 v2 rfl rfl) h2
  clear hA0 hval0
  simp only [List.append_nil] at hW'
  refine (walk a0 a1 a2 w0 w1 w2 W).mono fun e W' ⟨he, hg⟩ => ?_
  subst he
  exact ⟨_, rfl, _, _, _, [], [], [], hW', (trodAll_cons_mk (shut_bool Try.underlying4 _) trodAll_mk0), (trodAll_cons_mk (shut_int Try.underlying5 w0) (trodAll_cons_mk (shut_int Try.underlying3 w1) (trodAll_cons_mk (shut_int Try.underlying5 w2) trodAll_mk0))), rfl, hg.frame _, fun h => by cases h⟩

theorem over : Rows.codecLimitsRow.holds Try.pinned (OpenSpec.ofChange Rows.codecLimitsSpec) :=
  OpenClaim.holds_of_wide 6 Try.f6 rfl rfl rfl rfl rfl rfl rfl ⟨rfl, rfl, rfl, rfl, rfl⟩ rfl rfl rfl rfl rfl (by kernel_rfl) Try.func6 (by kernel_rfl)
    (of_decide_eq_true (by kernel_rfl)) (by unfold Func.isWrapper; first | (rw [if_pos (by decide +kernel)]; kernel_rfl) | (rw [if_neg (by decide +kernel)]; exact ⟨rfl, rfl⟩))
    (fun os started H enc _ => lifted os started H enc)

theorem proved : Rows.CodecLimitsSaid :=
  over
end Go.Proofs.Ytdnjjppidolnbaa.codecLimits

