/-
  What codec.ReadList and the reference's ReadList return, for every string.
-/
import Derived.Test.YtpkmdonejmbnoaaReadList
import Derived.Test.YtpkmdonejmbnoaaRefReadInt
namespace Go.Proofs.Ytpkmdonejmbnoaa
open Go.RowKit

/-- The result of ReadList: the list lies in memory. -/
def ReadsL (s : ByteArray) (w : World) (e : Ending) (w' : World) : Prop :=
  ∃ ad cap, e = .returned (.tuple #[.slice ad ((decL s.data.toList).val []).length cap, .int .i64 ((decL s.data.toList).len : Int), .int .i64 (decL s.data.toList).e]) ∧ IntsA w'.heap.size w' ad ((decL s.data.toList).val []) ∧ Below w.heap.size w w'

theorem ownsRow_ints {w : World} {B n cap : Nat} {ad : Option Addr} {out : List Int} (h : w.ownsRow B TI 1 (.slice ad n cap) n (out.map (Value.int .i64))) : n = out.length ∧ IntsA w.heap.size w ad out := by
  have hn : n = out.length := by have := h.1; simp at this; omega
  refine ⟨hn, fun j hj => ?_⟩
  rcases h.2 with ⟨e, h0⟩ | ⟨g, cap', cur, e, _, hg, _⟩
  · omega
  · cases e
    have hlt := (Array.getElem?_eq_some_iff.1 hg).1
    refine ⟨g, 0, rfl, hlt, ?_⟩
    have := h.cells (g := g) rfl j (.int .i64 (out[j]?.getD 0)) (by simp [hj])
    have e2 : (⟨g, 0, none⟩ : Addr).add j = ⟨g, 0 + j, none⟩ := by unfold Addr.add; split <;> simp_all
    rwa [e2] at this
theorem intsA_nil (n : Nat) (w : World) (ad : Option Addr) : IntsA n w ad [] := fun j hj => by simp at hj

theorem lsPost_ok_of {s : ByteArray} {out : List Int} {a' : Nat} (h : LsPost s out a' 0) : out = (decL s.data.toList).val [] ∧ a' = (decL s.data.toList).len ∧ (decL s.data.toList).e = 0 := by
  unfold LsPost at h
  cases hd : decL s.data.toList with
  | ok x k => rw [hd] at h; simp only [Rd.val, Rd.len, Rd.e]; exact ⟨h.1, h.2.1, trivial⟩
  | err e => rw [hd] at h; exact absurd rfl h.2
theorem lsPost_err_of {s : ByteArray} {out : List Int} {a' : Nat} {f : Int} (hf : f ≠ 0) (h : LsPost s out a' f) : (decL s.data.toList).val [] = [] ∧ (decL s.data.toList).len = 0 ∧ (decL s.data.toList).e = f := by
  unfold LsPost at h
  cases hd : decL s.data.toList with
  | ok x k => rw [hd] at h; exact absurd h.2.2 hf
  | err e => rw [hd] at h; simp only [Rd.val, Rd.len, Rd.e]; exact ⟨trivial, trivial, h.1.symm⟩

def ReadsLr (b : Nat) (s : ByteArray) (w : World) (e : Ending) (w' : World) : Prop :=
  ∃ ad cap, e = .returned (.tuple #[.slice ad ((decL s.data.toList).val []).length cap, .int .i64 ((decL s.data.toList).len : Int), .int .i64 (decL s.data.toList).e]) ∧ IntsA w'.heap.size w' ad ((decL s.data.toList).val []) ∧ w.grownBy w' (some b)

set_option maxRecDepth 100000 in
set_option maxHeartbeats 1000000 in
theorem results_list (b : Nat) (s : ByteArray) (hs : s.size ≤ 9223372036854775807) (w : World) (h : Rdr b s 0 0 w) :
    Calls Try.prog 66 #[.pointer (some ⟨b, 0, none⟩), .func (.func 67) #[.pointer (some ⟨b, 0, none⟩)] #[]] w (ReadsLr b s w) := by
  go_enter Try.func66, Try.ntmps66
  go_wp2_with fail
  refine (listR_any b s hs _ h).mono ?_
  rintro e w1 ⟨ad, n, cap, out, a', f', rfl, ho, hp, hR, hO⟩
  obtain ⟨c0, c1, c2, f1, f2⟩ := hR.cells
  have HO := Lib.hid (fun q => (⟨hO.os, hO.tape, hO.output, hO.size, hO.block⟩ : w.grownBy (w1.drewN q) (some b)))
  obtain ⟨hn, hI⟩ := ownsRow_ints ho
  by_cases hf : f' = 0
  · subst hf
    have HP := Lib.hid (lsPost_ok_of hp)
    have HN := Lib.hid hn
    have HI := Lib.hid hI
    clear hp hn hI
    go_wp2
    go_quiet (fail)
    go_wp2
    go_ret3
    refine ⟨ad, cap, ?_, ?_, HO.out _⟩
    · rw [← HP.out.1, ← HP.out.2.1, HP.out.2.2, ← HN.out]; rfl
    · rw [← HP.out.1]; exact HI.out
  · have hd : (f' != 0) = true := by simpa using hf
    have HP := Lib.hid (lsPost_err_of hf hp)
    clear hp hf hn hI
    go_wp2
    go_quiet (fail)
    go_wp2
    go_ret3
    refine ⟨none, 0, ?_, ?_, HO.out _⟩
    · rw [HP.out.1, HP.out.2.1, HP.out.2.2]; rfl
    · rw [HP.out.1]; exact intsA_nil _ _ _

set_option maxHeartbeats 1000000 in
theorem readList_any (s : ByteArray) (hs : s.size ≤ 9223372036854775807) (w : World) :
    Calls Try.prog 49 #[.string s] w (ReadsL s w) := by
  have hR : Rdr w.heap.size s 0 0 (w.alloc (.cells #[.string s, .int .i64 0, .int .i64 0] TR)) := World.alloc_heap_new w _
  go_enter Try.func49, Try.ntmps49
  go_wp2_with fail
  refine (results_list w.heap.size s hs _ hR).mono ?_
  rintro e w1 ⟨ad, cap, rfl, hI, hO⟩
  have hb : Below w.heap.size w w1 := ((Below.refl _ w).alloc (Nat.le_refl _) _).grown hO (by simp) (fun k hk => by cases hk; exact Nat.le_refl _)
  have HI := Lib.hid hI
  clear hI
  go_wp2
  go_ret3
  exact ⟨ad, cap, rfl, HI.out, hb⟩

/-! ### The reference -/

theorem extract_list (s : ByteArray) (a : Nat) : (s.extract a s.size).data.toList = s.data.toList.drop a := by
  rw [ByteArray.data_extract, Array.toList_extract, List.extract_eq_take_drop]
  exact List.take_of_length_le (by simp)
theorem decInt_err_ne {l : List UInt8} {e : Nat} (h : decInt l = .err e) : e ≠ 0 := by
  cases l with
  | nil => simp [decInt] at h; omega
  | cons c r =>
    rw [decInt] at h
    by_cases h1 : 8 < kOf c
    · rw [if_pos h1] at h; cases h; decide
    · rw [if_neg h1] at h
      by_cases h2 : r.length < kOf c
      · rw [if_pos h2] at h; cases h; decide
      · rw [if_neg h2] at h
        split at h
        · cases h
        · cases h; decide

theorem readsL_err {s : ByteArray} {w w' : World} {k : Nat} {ad : Option Addr} {cap : Nat} (h : decL s.data.toList = .err k) (hb : Below w.heap.size w w') : ReadsL s w (.returned (.tuple #[.slice ad 0 cap, .int .i64 0, .int .i64 (k : Int)])) w' := by
  unfold ReadsL; rw [h]; exact ⟨ad, cap, rfl, intsA_nil _ _ _, hb⟩
theorem readsL_ok {s : ByteArray} {w w' : World} {x : List Int} {k n : Nat} {ad : Option Addr} {cap : Nat} (h : decL s.data.toList = .ok x k) (hn : n = x.length) (hI : IntsA w'.heap.size w' ad x) (hb : Below w.heap.size w w') : ReadsL s w (.returned (.tuple #[.slice ad n cap, .int .i64 (k : Int), .int .i64 0])) w' := by
  unfold ReadsL; rw [h, hn]; exact ⟨ad, cap, rfl, hI, hb⟩

theorem ownsRowI_new (w : World) (B : Nat) (hB : B ≤ w.heap.size) : (w.alloc (.cells #[] TI)).ownsRow B TI 1 (.slice (some ⟨w.heap.size, 0, none⟩) 0 0) 0 [] :=
  ⟨rfl, .inr ⟨w.heap.size, 0, #[], rfl, hB, World.alloc_heap_new w _, Nat.le_refl _, by decide, rfl, rfl⟩⟩

set_option maxRecDepth 100000 in
set_option maxHeartbeats 4000000 in
theorem refReadList_any (s : ByteArray) (hs : s.size ≤ 9223372036854775807) (w : World) :
    Calls Try.prog 50 #[.string s] w (ReadsL s w) := by
  obtain ⟨i0, hi, hz0, hz1, hz2⟩ := info_parts infoI
  go_enter Try.func50, Try.ntmps50
  go_wp2
  go_loopw [5, 6] (fun v i wr => ∃ (a n g cap : Nat) (out : List Int), a ≤ s.size ∧ i = .int .i64 a ∧ n ≤ 20000 ∧ v = .slice (some ⟨g, 0, none⟩) n cap ∧ wr.ownsRow w.heap.size TI 1 (.slice (some ⟨g, 0, none⟩) n cap) n (out.map (Value.int .i64)) ∧ Below w.heap.size w wr ∧ Hid (Run s a n out 0)) (fun _ i _ => s.size - (intOf i).toNat)
  case atStart =>
    refine ⟨0, 0, w.heap.size, 0, [], Nat.zero_le _, rfl, by omega, rfl, ownsRowI_new w _ (Nat.le_refl _), (Below.refl _ w).alloc (Nat.le_refl _) _, Lib.hid (.inl ⟨rfl, by omega, by omega, rfl, s.size + 1, by omega, ?_⟩)⟩
    unfold decL
    simp
  case round =>
    obtain ⟨a, n, g, cap, out, ha, rfl, hn, rfl, ho, hb, HR⟩ := hrel
    have hsz := hb.size
    have hg := ho.lt g rfl
    by_cases hend : a = s.size
    · have HT := Lib.hid (run_end (hend ▸ HR.out))
      have hab : ((a : Int) == (s.size : Int)) = true := by rw [hend]; simp
      clear hend
      go_wp2
      go_ret3
      exact readsL_err HT.out (hb.alloc hsz _)
    · have hlt : a < s.size := by omega
      have hab : ((a : Int) == (s.size : Int)) = false := by rw [beq_eq_false_iff_ne]; omega
      have hrs := run_stop hlt HR.out
      have hrf := run_full hlt HR.out
      have hrn := run_next hlt HR.out
      obtain ⟨c, hcc⟩ : ∃ c, s[a] = c := ⟨_, rfl⟩
      rw [hcc] at hrs hrf hrn
      have HRS := Lib.hid hrs
      have HRF := Lib.hid hrf
      have HRN := Lib.hid hrn
      have hc8 := byte_lt c
      clear hrs hrf hrn hend
      by_cases hc1 : c = 1
      · have hcb : ((c.toNat : Int) == 1) = true := (byte_beq c 1 (by decide) hc1).1
        have HT := Lib.hid (HRS.out hc1)
        have HI := Lib.hid (ownsRow_ints ho)
        clear hc1
        go_wp2
        go_ret3
        exact readsL_ok HT.out HI.out.1 HI.out.2 hb
      · have hcb : ((c.toNat : Int) == 1) = false := (byte_bne c 1 (by decide) hc1).1
        by_cases hfull : n = 20000
        · have HT := Lib.hid (HRF.out hc1 hfull)
          have hnb : ((n : Int) == 20000) = true := by rw [hfull]; rfl
          clear hc1 hfull
          go_wp2
          go_ret3
          exact readsL_err HT.out (hb.alloc hsz _)
        · have hnb : ((n : Int) == 20000) = false := by rw [beq_eq_false_iff_ne]; omega
          have HNX := Lib.hid (HRN.out hc1 hfull)
          have hnl : n < 20000 := by omega
          clear hc1 hfull
          have hri := refReadInt_any (s.extract a s.size) wr (by rw [ByteArray.size_extract]; omega)
          rw [extract_list] at hri
          unfold ReadsInt at hri
          cases hd : decInt (s.data.toList.drop a) with
          | err e =>
            rw [hd] at hri
            have hne := decInt_err_ne hd
            have HT : Hid (decL s.data.toList = .err e) := Lib.hid (by
              have := (HNX.out 0 0 (e : Int) (by unfold IntPost; rw [hd]; exact ⟨rfl, by omega⟩)).1
              rcases this with ⟨h1, _⟩ | ⟨e', h1, _, h3⟩
              · omega
              · have : e = e' := by omega
                rw [this]; exact h3)
            have heb : ((e : Int) != 0) = true := by rw [bne_iff_ne]; omega
            simp only [Rd.val, Rd.len, Rd.e] at hri
            have HRI := Lib.hid hri
            clear hri hne hd HNX
            go_wp2_with fail
            refine HRI.out.mono ?_
            rintro e' w' ⟨rfl, rfl⟩
            go_wp2
            go_ret3
            exact readsL_err HT.out (hb.alloc hsz _)
          | ok x k =>
            rw [hd] at hri
            have hrun := HNX.out x (a + k) 0 (by unfold IntPost; rw [hd]; exact ⟨rfl, rfl, rfl⟩)
            have hk1 := (hrun.2 rfl).1
            have hk2 := (hrun.2 rfl).2
            have HRUN := Lib.hid hrun.1
            simp only [Rd.val, Rd.len, Rd.e] at hri
            have HRI := Lib.hid hri
            clear hri hd HNX hrun
            go_wp2_with fail
            refine HRI.out.mono ?_
            rintro e' w' ⟨rfl, rfl⟩
            go_wp2_with (at_builtin; refine wpList_append_own _ rfl _ _ 22 rfl w.heap.size TI i0 (.int .i64 0) 1 8 Try.underlying22 hi hz0 hz1 hz2 rfl (by decide) _ n _ rfl (ho.alloc _) ⟨wr.heap.size, 0, none⟩ 1 1 [.int .i64 x] rfl rfl ?c1 ?c2 ?c3 ?c4 ?c5 ?_)
            case c1 =>
              intro j u hj
              match j, hj with
              | 0, hj => simp at hj; subst hj; simp [Addr.add]
            case c2 => intro u hu; simp at hu; subst hu; rfl
            case c3 => unfold maxLen; omega
            case c4 => omega
            case c5 => simp; omega
            intro v' w3 hown' hgrow hnil
            obtain ⟨g3, cap3, hv3⟩ := ownsRow_some hown' hnil
            subst hv3
            have hb3 : Below w.heap.size w w3 := (hb.alloc hsz _).grown hgrow (by simp; omega) (fun k hk => by cases hk; exact hg.1)
            clear hnil hgrow
            go_wp2
            go_roundw
            case rel => exact ⟨a + k, n + 1, g3, cap3, out ++ [x], hk2, by go_num, by omega, rfl, by simpa using hown', hb3, Lib.hid HRUN.out⟩
            case measure => simp [intOf]; omega

theorem decLf_length (F : Nat) (l : List UInt8) (out : List Int) (p : Nat) (h : out.length ≤ maxL) : ((decLf F l out p).val []).length ≤ maxL := by
  induction F generalizing l out p with
  | zero => rw [decLf]; exact Nat.zero_le _
  | succ F ih =>
    cases l with
    | nil => rw [decLf_nil]; exact Nat.zero_le _
    | cons c r =>
      rw [decLf_cons]
      by_cases h1 : c = 1
      · rw [if_pos h1]; exact h
      · rw [if_neg h1]
        by_cases h2 : out.length = maxL
        · rw [if_pos h2]; exact Nat.zero_le _
        · rw [if_neg h2]
          cases decInt (c :: r) with
          | err e => exact Nat.zero_le _
          | ok n k => exact ih _ _ _ (by simp; omega)
theorem decL_length (l : List UInt8) : ((decL l).val []).length ≤ 20000 := decLf_length _ l [] 0 (Nat.zero_le _)

end Go.Proofs.Ytpkmdonejmbnoaa
