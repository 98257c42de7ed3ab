/-
  What codec's reader does at a text, and what codec.ReadText returns, for every string.
-/
import Derived.Test.YtdnjjppidolnbaaReadIntB
namespace Go.Proofs.Ytdnjjppidolnbaa
open Go.RowKit

/-- What reads a text: what is left of the string, what has been read, the place. -/
def decT : List UInt8 → List UInt8 → Nat → Rd (List UInt8)
  | [], _, _ => .err 11
  | [c], out, _ => if c = 0 then .err 11 else if out.length = 100000 then .err 4 else .err 11
  | c :: d :: r, out, p =>
    if c = 0 then
      if d = 1 then .ok out (p + 2)
      else if d = 255 then (if out.length = 100000 then .err 4 else decT r (out ++ [0]) (p + 2))
      else .err 12
    else if out.length = 100000 then .err 4 else decT (d :: r) (out ++ [c]) (p + 1)

theorem decT_byte (c : UInt8) (r out : List UInt8) (p : Nat) (hc : c ≠ 0) : decT (c :: r) out p = if out.length = 100000 then .err 4 else decT r (out ++ [c]) (p + 1) := by
  cases r with
  | nil => simp [decT, hc]
  | cons d t => rw [decT, if_neg hc]

/-- What textByte finds. -/
def TBy (s : ByteArray) (a : Nat) (c : UInt8) (more : Bool) (a' : Nat) (f' : Int) : Prop :=
  (more = true ∧ f' = 0 ∧ a < a' ∧ a' ≤ s.size ∧ ∀ out, decT (s.data.toList.drop a) out a = if out.length = 100000 then .err 4 else decT (s.data.toList.drop a') (out ++ [c]) a')
  ∨ (more = false ∧ f' = 0 ∧ ∀ out, decT (s.data.toList.drop a) out a = .ok out a')
  ∨ (more = false ∧ ∃ e : Nat, f' = (e : Int) ∧ e ≠ 0 ∧ ∀ out, decT (s.data.toList.drop a) out a = .err e)

theorem tb_end (s : ByteArray) (c : UInt8) (a' : Nat) : TBy s s.size c false a' 11 := by
  refine .inr (.inr ⟨rfl, 11, rfl, by omega, fun out => ?_⟩)
  rw [List.drop_of_length_le (by simp)]; rfl
theorem tb_byte (s : ByteArray) (a : Nat) (h : a < s.size) (hc : s[a] ≠ 0) : TBy s a s[a] true (a + 1) 0 := by
  refine .inl ⟨rfl, rfl, by omega, by omega, fun out => ?_⟩
  rw [drop_cons s a h, decT_byte _ _ _ _ hc]
theorem tb_zero_end (s : ByteArray) (a : Nat) (h : a < s.size) (hc : s[a] = 0) (he : a + 1 = s.size) (c : UInt8) (a' : Nat) : TBy s a c false a' 11 := by
  refine .inr (.inr ⟨rfl, 11, rfl, by omega, fun out => ?_⟩)
  rw [drop_cons s a h, List.drop_of_length_le (by simp; omega), hc]; rfl
theorem tb_stop (s : ByteArray) (a : Nat) (h : a + 1 < s.size) (hc : s[a] = 0) (hd : s[a + 1] = 1) (c : UInt8) : TBy s a c false (a + 1 + 1) 0 := by
  refine .inr (.inl ⟨rfl, rfl, fun out => ?_⟩)
  rw [drop_cons s a (by omega), drop_cons s (a + 1) h, hc, hd, decT, if_pos rfl, if_pos rfl]
theorem tb_zero (s : ByteArray) (a : Nat) (h : a + 1 < s.size) (hc : s[a] = 0) (hd : s[a + 1] = 255) : TBy s a 0 true (a + 1 + 1) 0 := by
  refine .inl ⟨rfl, rfl, by omega, by omega, fun out => ?_⟩
  rw [drop_cons s a (by omega), drop_cons s (a + 1) h, hc, hd, decT, if_pos rfl, if_neg (by decide), if_pos rfl]
theorem tb_bad (s : ByteArray) (a : Nat) (h : a + 1 < s.size) (hc : s[a] = 0) (h1 : s[a + 1] ≠ 1) (h2 : s[a + 1] ≠ 255) (c : UInt8) (a' : Nat) : TBy s a c false a' 12 := by
  refine .inr (.inr ⟨rfl, 12, rfl, by omega, fun out => ?_⟩)
  rw [drop_cons s a (by omega), drop_cons s (a + 1) h, hc, decT, if_pos rfl, if_neg h1, if_neg h2]

theorem byte_eq (c : UInt8) (n : Nat) (hn : n < 256) : c = UInt8.ofNat n ↔ c.toNat = n := by
  constructor
  · rintro rfl; exact ofNat_toNat_lt hn
  · intro h; exact UInt8.toNat_inj.1 (by rw [h, ofNat_toNat_lt hn])
theorem byte_beq (c : UInt8) (n : Nat) (hn : n < 256) (h : c = UInt8.ofNat n) : ((c.toNat : Int) == (n : Int)) = true ∧ ((c.toNat : Int) != (n : Int)) = false := by
  have := (byte_eq c n hn).1 h
  rw [this]; simp
theorem byte_bne (c : UInt8) (n : Nat) (hn : n < 256) (h : c ≠ UInt8.ofNat n) : ((c.toNat : Int) == (n : Int)) = false ∧ ((c.toNat : Int) != (n : Int)) = true := by
  have : c.toNat ≠ n := fun e => h ((byte_eq c n hn).2 e)
  constructor
  · rw [beq_eq_false_iff_ne]; omega
  · rw [bne_iff_ne]; omega

def TByPost (b : Nat) (s : ByteArray) (a : Nat) (w : World) (e : Ending) (w' : World) : Prop :=
  ∃ (c : UInt8) (more : Bool) (a' : Nat) (f' : Int), e = .returned (.tuple #[.int .u8 (c.toNat : Int), .bool more]) ∧ TBy s a c more a' f' ∧ Rdr b s a' f' w' ∧ OnlyB b w w'

set_option maxRecDepth 100000 in
set_option maxHeartbeats 2000000 in
theorem textByte_any (b : Nat) (s : ByteArray) (a : Nat) (ha : a ≤ s.size) (hs : s.size ≤ 9223372036854775807) (w : World) (h : Rdr b s a 0 w) :
    Calls Try.prog 56 #[.pointer (some ⟨b, 0, none⟩)] w (TByPost b s a w) := by
  by_cases he : a = s.size
  · subst he
    have HT := Lib.hid (fun a' => tb_end s 0 a')
    go_enter Try.func56, Try.ntmps56
    go_wp2_with fail
    refine (next_end b s 0 _ h).mono ?_
    rintro e w1 ⟨rfl, h1, k1⟩
    have h1' : Rdr b s s.size 11 w1 := h1
    obtain ⟨c0, c1, c2, f1, f2⟩ := h1'.cells
    clear h1
    go_wp2
    go_quiet (fail)
    go_wp2
    go_ret2
    exact ⟨0, false, _, _, rfl, HT.out _, h1'.drew _, k1.drew _⟩
  · have hl : a < s.size := by omega
    have hnx := next_byte b s a 0 w h hs hl
    by_cases hc : s[a] = 0
    · by_cases he2 : a + 1 = s.size
      · have HT := Lib.hid (fun c a' => tb_zero_end s a hl hc he2 c a')
        rw [hc] at hnx
        have HN := Lib.hid hnx
        clear hnx hc he ha hl
        obtain rfl : a = s.size - 1 := by omega
        have hsz : s.size - 1 + 1 = s.size := he2
        go_enter Try.func56, Try.ntmps56
        go_wp2_with fail
        refine HN.out.mono ?_
        rintro e w1 ⟨rfl, h1, k1⟩
        rw [hsz] at h1
        obtain ⟨c0, c1, c2, f1, f2⟩ := h1.cells
        clear hsz he2
        go_wp2_with fail
        refine (next_end b s 0 _ h1).mono ?_
        rintro e w2 ⟨rfl, h2, k2⟩
        go_wp2_with fail
        refine (fail_any b s _ _ _ _ h2).mono ?_
        rintro e w3 ⟨rfl, h3, k3⟩
        go_wp2
        go_ret2
        exact ⟨0, false, _, _, rfl, HT.out _ _, h3, (k1.trans k2).trans k3⟩
      · have hl2 : a + 1 < s.size := by omega
        have hs1 := fun hd c => tb_stop s a hl2 hc hd c
        have hs2 := fun hd => tb_zero s a hl2 hc hd
        have hs3 := fun h1 h2 c a' => tb_bad s a hl2 hc h1 h2 c a'
        rw [hc] at hnx
        have HN := Lib.hid hnx
        have hnx2 := fun w1 (h1 : Rdr b s (a + 1) 0 w1) => next_byte b s (a + 1) 0 w1 h1 hs hl2
        obtain ⟨d, hd⟩ : ∃ d, s[a + 1] = d := ⟨_, rfl⟩
        rw [hd] at hs1 hs2 hs3
        simp only [hd] at hnx2
        have HN2 := Lib.hid hnx2
        have H1 := Lib.hid hs1
        have H2 := Lib.hid hs2
        have H3 := Lib.hid hs3
        clear hnx hc he ha hl hl2 he2 hnx2 hd hs1 hs2 hs3
        by_cases d1 : d = 1
        · have q1 : ((d.toNat : Int) == 1) = true := (byte_beq d 1 (by decide) d1).1
          have q2 : ((d.toNat : Int) != 1) = false := (byte_beq d 1 (by decide) d1).2
          have q3 : ((d.toNat : Int) == 255) = false := (byte_bne d 255 (by decide) (by rw [d1]; decide)).1
          have q4 : ((d.toNat : Int) != 255) = true := (byte_bne d 255 (by decide) (by rw [d1]; decide)).2
          have HD := Lib.hid d1
          clear d1
          go_enter Try.func56, Try.ntmps56
          go_wp2_with fail
          refine HN.out.mono ?_
          rintro e w1 ⟨rfl, h1, k1⟩
          obtain ⟨c0, c1, c2, f1, f2⟩ := h1.cells
          go_wp2_with fail
          refine (HN2.out _ h1).mono ?_
          rintro e w2 ⟨rfl, h2, k2⟩
          go_wp2
          go_ret2
          exact ⟨0, false, _, _, rfl, H1.out HD.out 0, h2, k1.trans k2⟩
        · have q1 : ((d.toNat : Int) == 1) = false := (byte_bne d 1 (by decide) d1).1
          have q2 : ((d.toNat : Int) != 1) = true := (byte_bne d 1 (by decide) d1).2
          by_cases d2 : d = 255
          · have q3 : ((d.toNat : Int) == 255) = true := (byte_beq d 255 (by decide) d2).1
            have q4 : ((d.toNat : Int) != 255) = false := (byte_beq d 255 (by decide) d2).2
            have HD := Lib.hid d2
            clear d1 d2
            go_enter Try.func56, Try.ntmps56
            go_wp2_with fail
            refine HN.out.mono ?_
            rintro e w1 ⟨rfl, h1, k1⟩
            obtain ⟨c0, c1, c2, f1, f2⟩ := h1.cells
            go_wp2_with fail
            refine (HN2.out _ h1).mono ?_
            rintro e w2 ⟨rfl, h2, k2⟩
            go_wp2
            go_ret2
            exact ⟨0, true, _, _, rfl, H2.out HD.out, h2, k1.trans k2⟩
          · have q3 : ((d.toNat : Int) == 255) = false := (byte_bne d 255 (by decide) d2).1
            have q4 : ((d.toNat : Int) != 255) = true := (byte_bne d 255 (by decide) d2).2
            have HD := Lib.hid d1
            have HE := Lib.hid d2
            clear d1 d2
            go_enter Try.func56, Try.ntmps56
            go_wp2_with fail
            refine HN.out.mono ?_
            rintro e w1 ⟨rfl, h1, k1⟩
            obtain ⟨c0, c1, c2, f1, f2⟩ := h1.cells
            go_wp2_with fail
            refine (HN2.out _ h1).mono ?_
            rintro e w2 ⟨rfl, h2, k2⟩
            go_wp2_with fail
            refine (fail_any b s _ _ _ _ h2).mono ?_
            rintro e w3 ⟨rfl, h3, k3⟩
            go_wp2
            go_ret2
            exact ⟨0, false, _, _, rfl, H3.out HD.out HE.out 0 _, h3, (k1.trans k2).trans k3⟩
    · have HT := Lib.hid (tb_byte s a hl hc)
      obtain ⟨c, hcc⟩ : ∃ c, s[a] = c := ⟨_, rfl⟩
      rw [hcc] at hnx HT hc
      have HN := Lib.hid hnx
      have q1 : ((c.toNat : Int) == 0) = false := (byte_bne c 0 (by decide) hc).1
      have q2 : ((c.toNat : Int) != 0) = true := (byte_bne c 0 (by decide) hc).2
      clear hnx hcc hc
      go_enter Try.func56, Try.ntmps56
      go_wp2_with fail
      refine HN.out.mono ?_
      rintro e w1 ⟨rfl, h1, k1⟩
      obtain ⟨c0, c1, c2, f1, f2⟩ := h1.cells
      go_wp2
      go_quiet (fail)
      go_wp2
      go_ret2
      exact ⟨c, true, _, _, rfl, HT.out, h1.drew _, k1.drew _⟩

end Go.Proofs.Ytdnjjppidolnbaa
