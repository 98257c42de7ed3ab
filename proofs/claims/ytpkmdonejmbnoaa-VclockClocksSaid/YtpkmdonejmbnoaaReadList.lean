/-
  What codec's reader does at a list, and what codec.ReadList returns, for every string.
-/
import Derived.Test.YtpkmdonejmbnoaaRdrMore
import Derived.Test.YtpkmdonejmbnoaaRefList
namespace Go.Proofs.Ytpkmdonejmbnoaa
open Go.RowKit

abbrev TI : TypeId := 3
theorem infoI : (Try.prog.info? TI).map (fun i => (i.zero, i.size, i.bytes)) = some (some (.int .i64 0), 1, 8) := by kernel_rfl

def maxL : Nat := 20000
def Rd.bind (r : Rd Int) (g : Int → Nat → Rd (List Int)) : Rd (List Int) :=
  match r with
  | .ok n k => g n k
  | .err e => .err e
/-- What reads a list: the fuel, what is left of the string, what has been read, the place. -/
def decLf : Nat → List UInt8 → List Int → Nat → Rd (List Int)
  | 0, _, _, _ => .err 11
  | F + 1, l, out, p =>
    if l = [] then .err 11
    else if l.headD 0 = 1 then .ok out (p + 1)
    else if out.length = maxL then .err 4
    else (decInt l).bind fun n k => decLf F (l.drop k) (out ++ [n]) (p + k)
theorem decLf_nil (F : Nat) (out : List Int) (p : Nat) : decLf F [] out p = .err 11 := by
  cases F with
  | zero => rw [decLf]
  | succ F => rw [decLf, if_pos rfl]
theorem decLf_cons (F : Nat) (c : UInt8) (r : List UInt8) (out : List Int) (p : Nat) : decLf (F + 1) (c :: r) out p = if c = 1 then .ok out (p + 1) else if out.length = maxL then .err 4 else (decInt (c :: r)).bind fun n k => decLf F ((c :: r).drop k) (out ++ [n]) (p + k) := by
  rw [decLf, if_neg (by simp)]
  rfl
def decL (l : List UInt8) : Rd (List Int) := decLf (l.length + 1) l [] 0

def LsPost (s : ByteArray) (out : List Int) (a' : Nat) (f' : Int) : Prop :=
  match decL s.data.toList with
  | .ok x k => out = x ∧ a' = k ∧ f' = 0
  | .err e => f' = (e : Int) ∧ f' ≠ 0

def Run (s : ByteArray) (a : Nat) (n : Nat) (out : List Int) (f : Int) : Prop :=
  (f = 0 ∧ a ≤ s.size ∧ n ≤ 20000 ∧ n = out.length ∧ ∃ F, s.size < a + F ∧ decLf F (s.data.toList.drop a) out a = decL s.data.toList) ∨ (∃ e : Nat, f = (e : Int) ∧ f ≠ 0 ∧ decL s.data.toList = .err e)

theorem run_end {s : ByteArray} {n : Nat} {out : List Int} (h : Run s s.size n out 0) : decL s.data.toList = .err 11 := by
  rcases h with ⟨_, _, _, _, F, hF, he⟩ | ⟨e, h1, h2, _⟩
  · rw [← he, List.drop_of_length_le (by simp), decLf_nil]
  · exact absurd rfl h2
theorem run_stop {s : ByteArray} {a n : Nat} {out : List Int} (ha : a < s.size) (h : Run s a n out 0) (hc : s[a] = 1) : decL s.data.toList = .ok out (a + 1) := by
  rcases h with ⟨_, _, _, _, F, hF, he⟩ | ⟨e, h1, h2, _⟩
  · rw [← he, drop_cons s a ha]
    cases F with
    | zero => omega
    | succ F => rw [decLf_cons, if_pos hc]
  · exact absurd rfl h2
theorem run_full {s : ByteArray} {a n : Nat} {out : List Int} (ha : a < s.size) (h : Run s a n out 0) (hc : s[a] ≠ 1) (hn : n = 20000) : decL s.data.toList = .err 4 := by
  rcases h with ⟨_, _, _, ho, F, hF, he⟩ | ⟨e, h1, h2, _⟩
  · rw [← he, drop_cons s a ha]
    cases F with
    | zero => omega
    | succ F => rw [decLf_cons, if_neg hc, if_pos (by unfold maxL; omega)]
  · exact absurd rfl h2
theorem run_next {s : ByteArray} {a n : Nat} {out : List Int} (ha : a < s.size) (h : Run s a n out 0) (hc : s[a] ≠ 1) (hn : n ≠ 20000) (x : Int) (a' : Nat) (f' : Int) (hp : IntPost s a x a' f') :
    Run s a' (n + 1) (out ++ [x]) f' ∧ (f' = 0 → a < a' ∧ a' ≤ s.size) := by
  rcases h with ⟨_, _, h3, ho, F, hF, he⟩ | ⟨e, h1, h2, _⟩
  · cases F with
    | zero => omega
    | succ F =>
      rw [drop_cons s a ha, decLf_cons, if_neg hc, if_neg (by unfold maxL; omega), ← drop_cons s a ha] at he
      unfold IntPost at hp
      cases hd : decInt (s.data.toList.drop a) with
      | err e =>
        rw [hd] at hp he
        exact ⟨.inr ⟨e, hp.1, hp.2, he.symm⟩, fun h => absurd h hp.2⟩
      | ok y k =>
        rw [hd] at hp he
        obtain ⟨rfl, rfl, rfl⟩ := hp
        obtain ⟨_, hk1, hk2, _⟩ := decInt_canonical hd
        simp at hk2
        refine ⟨.inl ⟨rfl, by omega, by omega, by simp; omega, F, by omega, ?_⟩, fun _ => by omega⟩
        rw [← he, Rd.bind, List.drop_drop]
  · exact absurd rfl h2

theorem ownsRow_only {wr w' : World} {B b n : Nat} {v : Value} {xs : List Value} (ho : wr.ownsRow B TI 1 v n xs) (hb : b < B) (k : OnlyB b wr w') : w'.ownsRow B TI 1 v n xs := by
  refine ho.kept k.grown ?_
  cases hob : Value.ownBlock v with
  | none => exact .inl rfl
  | some j => exact .inr (by intro e; cases e; have := (ho.lt _ hob).1; omega)

def ListPostR (b : Nat) (s : ByteArray) (w : World) (e : Ending) (w' : World) : Prop :=
  ∃ ad n cap out a' f', e = .returned (.slice ad n cap) ∧ w'.ownsRow w.heap.size TI 1 (.slice ad n cap) n (out.map (Value.int .i64)) ∧ LsPost s out a' f' ∧ Rdr b s a' f' w' ∧ w.grownBy w' (some b)

theorem lsPost_err {s : ByteArray} {e : Nat} {f : Int} (h : decL s.data.toList = .err e) (hf : f = (e : Int)) (h0 : f ≠ 0) (out : List Int) (a : Nat) : LsPost s out a f := by
  unfold LsPost; rw [h]; exact ⟨hf, h0⟩
theorem lsPost_ok {s : ByteArray} {out : List Int} {k : Nat} (h : decL s.data.toList = .ok out k) : LsPost s out k 0 := by
  unfold LsPost; rw [h]; exact ⟨rfl, rfl, rfl⟩

set_option maxRecDepth 100000 in
set_option maxHeartbeats 4000000 in
theorem listR_any (b : Nat) (s : ByteArray) (hs : s.size ≤ 9223372036854775807) (w : World) (h : Rdr b s 0 0 w) :
    Calls Try.prog 67 #[.pointer (some ⟨b, 0, none⟩)] w (ListPostR b s w) := by
  obtain ⟨i0, hi, hz0, hz1, hz2⟩ := info_parts infoI
  have hbl := h.lt
  go_enter Try.func67, Try.ntmps67
  go_wp2
  go_loopw [3] (fun v wr => ∃ (a n : Nat) (f : Int) (ad : Option Addr) (cap : Nat) (out : List Int), v = .slice ad n cap ∧ wr.ownsRow w.heap.size TI 1 (.slice ad n cap) n (out.map (Value.int .i64)) ∧ Rdr b s a f wr ∧ w.grownBy wr (some b) ∧ Hid (Run s a n out f)) (fun _ wr => if intOf ((wr.cell? ⟨b, 2, none⟩).getD undef) = 0 then s.size + 1 - (intOf ((wr.cell? ⟨b, 1, none⟩).getD undef)).toNat else 0)
  case atStart =>
    refine ⟨0, 0, 0, none, 0, [], rfl, World.ownsRow_nil _ _ _ _, h, ⟨rfl, rfl, rfl, Nat.le_refl _, fun _ _ _ => rfl⟩, Lib.hid (.inl ⟨rfl, by omega, by omega, rfl, s.size + 1, by omega, ?_⟩)⟩
    unfold decL
    simp
  case round =>
    obtain ⟨a, n, f, ad, cap, out, rfl, ho, hR, hg, HR⟩ := hrel
    have hm1 : (wr.cell? ⟨b, 1, none⟩).getD undef = .int .i64 (a : Int) := by rw [hR.cells.2.1]; rfl
    have hm2 : (wr.cell? ⟨b, 2, none⟩).getD undef = .int .i64 f := by rw [hR.cells.2.2.1]; rfl
    have HM1 := Lib.hid hm1
    have HM2 := Lib.hid hm2
    clear hm1 hm2
    have hsz := hg.size
    obtain ⟨c0, c1, c2, f1, f2⟩ := hR.cells
    by_cases hf : f = 0
    · subst hf
      have ha : a ≤ s.size := by
        rcases HR.out with ⟨_, h2, _⟩ | ⟨e, _, h2, _⟩
        · exact h2
        · exact absurd rfl h2
      have hn : n ≤ 20000 := by
        rcases HR.out with ⟨_, _, h3, _⟩ | ⟨e, _, h2, _⟩
        · exact h3
        · exact absurd rfl h2
      have ha0 : (0 : Int) ≤ (a : Int) := by omega
      by_cases hend : a = s.size
      · have HT := Lib.hid (run_end (hend ▸ HR.out))
        have hab : ((a : Int) == (s.size : Int)) = true := by rw [hend]; simp
        clear hend
        go_wp2
        go_quiet (fail)
        go_wp2_with fail
        refine (fail_any b s _ _ _ _ (hR.drew _)).mono ?_
        rintro e w2 ⟨rfl, hR2, hO2⟩
        go_wp2
        go_roundw
        case rel =>
          refine ⟨a, n, _, ad, cap, out, rfl, ?_, hR2, ?_, Lib.hid (.inr ⟨11, rfl, by decide, HT.out⟩)⟩
          · exact ownsRow_only ho hbl (((OnlyB.refl b wr).drew _).trans hO2)
          · exact grownBy_trans hg (((OnlyB.refl b wr).drew _).trans hO2).grown
        case measure =>
          rw [HM1.out, HM2.out, hR2.cells.2.2.1]
          simp [intOf, orErr]
          omega
      · have hlt : a < s.size := by omega
        have haI : (a : Int) < (s.size : Int) := by omega
        have hab : ((a : Int) == (s.size : Int)) = false := by rw [beq_eq_false_iff_ne]; omega
        have hrs := run_stop hlt HR.out
        have hrf := run_full hlt HR.out
        have hrn := run_next hlt HR.out
        obtain ⟨c, hcc⟩ : ∃ c, s[a] = c := ⟨_, rfl⟩
        rw [hcc] at hrs hrf hrn
        have HRS := Lib.hid hrs
        have HRF := Lib.hid hrf
        have HRN := Lib.hid hrn
        have hc8 := byte_lt c
        clear hrs hrf hrn hend
        by_cases hc1 : c = 1
        · have hcb : ((c.toNat : Int) == 1) = true := (byte_beq c 1 (by decide) hc1).1
          have HT := Lib.hid (HRS.out hc1)
          clear hc1
          go_wp2
          go_quiet (fail)
          go_wp2
          go_quiet (fail)
          go_wp2
          go_ret
          exact ⟨ad, n, cap, out, a + 1, 0, rfl, ownsRow_only ho hbl (((OnlyB.refl b wr).drew _).trans (onlyB_set b 1 _ _)), lsPost_ok HT.out, (hR.drew _).set1 (a + 1), grownBy_trans hg (((OnlyB.refl b wr).drew _).trans (onlyB_set b 1 _ _)).grown⟩
        · have hcb : ((c.toNat : Int) == 1) = false := (byte_bne c 1 (by decide) hc1).1
          by_cases hfull : n = 20000
          · have HT := Lib.hid (HRF.out hc1 hfull)
            have hnb : ((n : Int) == 20000) = true := by rw [hfull]; rfl
            clear hc1 hfull
            go_wp2
            go_quiet (fail)
            go_wp2
            go_quiet (fail)
            go_wp2_with fail
            refine (fail_any b s a 0 _ _ (hR.drew _)).mono ?_
            rintro e w2 ⟨rfl, hR2, hO2⟩
            go_wp2
            go_roundw
            case rel =>
              exact ⟨a, n, _, ad, cap, out, rfl, ownsRow_only ho hbl (((OnlyB.refl b wr).drew _).trans hO2), hR2, grownBy_trans hg (((OnlyB.refl b wr).drew _).trans hO2).grown, Lib.hid (.inr ⟨4, rfl, by decide, HT.out⟩)⟩
            case measure =>
              rw [HM1.out, HM2.out, hR2.cells.2.2.1]
              simp [intOf, orErr]
              omega
          · have hnb : ((n : Int) == 20000) = false := by rw [beq_eq_false_iff_ne]; omega
            have HNX := Lib.hid (HRN.out hc1 hfull)
            have hnl : n < 20000 := by omega
            clear hc1 hfull
            go_wp2
            go_quiet (fail)
            go_wp2
            go_quiet (fail)
            go_wp2_with fail
            refine (integer_any b s a ha hs _ (hR.drew _)).mono ?_
            rintro e w2 ⟨x, a', f', rfl, hp, hR2, hO2⟩
            have hOO : OnlyB b wr w2 := ((OnlyB.refl b wr).drew _).trans hO2
            have hrun := HNX.out x a' f' hp
            have ho2 := ownsRow_only ho hbl hOO
            have hg2 := grownBy_trans hg hOO.grown
            have hsz2 := hg2.size
            have HRUN := Lib.hid hrun
            clear hp hrun HNX
            go_wp2_with (at_builtin; refine wpList_append_own _ rfl _ _ 22 rfl w.heap.size TI i0 (.int .i64 0) 1 8 Try.underlying22 hi hz0 hz1 hz2 rfl (by decide) _ n _ rfl (ho2.alloc _) ⟨w2.heap.size, 0, none⟩ 1 1 [.int .i64 x] rfl rfl ?c1 ?c2 ?c3 ?c4 ?c5 ?_)
            case c1 =>
              intro j u hj
              match j, hj with
              | 0, hj => simp at hj; subst hj; simp [Addr.add]
            case c2 => intro u hu; simp at hu; subst hu; rfl
            case c3 => unfold maxLen; omega
            case c4 => omega
            case c5 => simp; omega
            intro v' w3 hown' hgrow hnil
            have hv' : v' ≠ .slice none 0 0 := by intro e; simp [e] at hnil
            obtain ⟨g3, cap3, hv3⟩ := ownsRow_some hown' hv'
            subst hv3
            have hbw : Below w.heap.size w2 w3 := ((Below.refl _ w2).alloc hsz2 _).grown hgrow (by simp; omega) (fun k hk => (ho2.lt k hk).1)
            have hR3 := hR2.below hbl hbw
            have hg3 := grownBy_of_below hg2 (Nat.le_refl _) hbw
            clear hnil hgrow hv'
            go_wp2
            go_roundw
            case rel => exact ⟨a', n + 1, f', _, cap3, out ++ [x], rfl, by simpa using hown', hR3, hg3, Lib.hid HRUN.out.1⟩
            case measure =>
              rw [HM1.out, HM2.out, hR3.cells.2.2.1, hR3.cells.2.1]
              have h1 := HRUN.out.2
              by_cases hf0 : f' = 0
              · have := h1 hf0
                simp [intOf, hf0]
                omega
              · simp [intOf, hf0]
                omega
    · have hfb : (f == 0) = false := by simpa using hf
      have HT := Lib.hid (show ∃ e : Nat, f = (e : Int) ∧ decL s.data.toList = .err e by
        rcases HR.out with ⟨h1, _⟩ | ⟨e, h1, _, h3⟩
        · exact absurd h1 hf
        · exact ⟨e, h1, h3⟩)
      have HF := Lib.hid hf
      clear hf
      go_wp2
      go_ret
      obtain ⟨e, he1, he2⟩ := HT.out
      exact ⟨none, 0, 0, [], a, f, rfl, World.ownsRow_nil _ _ _ _, lsPost_err he2 he1 HF.out _ _, hR, hg⟩

end Go.Proofs.Ytpkmdonejmbnoaa
