/-
  The library's functions that the lexer calls.
-/
import Derived.Shelf.Strconv.AtoiAll
import Derived.Shelf.Strings.Prefix
import Derived.Shelf.Strings.Count
import Derived.Shelf.Strings.LastIndex
import Derived.Lib.AtoiAllCases
import Derived.Laws.CopyOwn
import Derived.Test.YtdgphhdkeikbaaaDoorLxTok
namespace Go.Proofs.YtdgphhdkeikbaaaDoor
set_option linter.unusedSimpArgs false
set_option linter.unusedVariables false
open Go.RowKit Go.Shelf Go.Sort
def Tryd.atoiC_ren : Go.Shelf.Ren := ⟨fun | 172 => 97 | 244 => 105 | 245 => 106 | 247 => 112 | 279 => 113 | 280 => 114 | 281 => 115 | 282 => 116 | 287 => 118 | 316 => 119 | 171 => 110 | 205 => 120 | 321 => 122 | 322 => 123 | 243 => 117 | 246 => 121 | 283 => 124 | 284 => 125 | 285 => 126 | 286 => 127 | 129 => 129 | 317 => 128 | 318 => 130 | 319 => 131 | 320 => 132 | 337 => 133 | 338 => 134 | n => n, fun | 9 => 9 | 3 => 3 | 75 => 45 | 76 => 46 | 4 => 4 | 5 => 5 | 167 => 117 | 37 => 39 | 0 => 0 | 85 => 118 | 2 => 2 | 168 => 120 | 53 => 123 | 175 => 124 | 46 => 108 | 210 => 128 | 127 => 73 | 145 => 134 | 143 => 132 | 21 => 21 | 171 => 135 | 173 => 138 | 212 => 141 | 51 => 112 | 20 => 20 | 213 => 142 | 232 => 146 | 233 => 147 | 80 => 49 | n => n, fun | 15 => 2 | 16 => 3 | 17 => 4 | 18 => 5 | 19 => 6 | n => n⟩
theorem Tryd.atoiC : Go.Proofs.LaysC.n172 Tryd.prog Tryd.atoiC_ren := {
  mixed := by kernel_rfl
  f129 := Tryd.func129.trans (congrArg some (by kernel_rfl))
  f171 := Tryd.func110.trans (congrArg some (by kernel_rfl))
  f172 := Tryd.func97.trans (congrArg some (by kernel_rfl))
  f205 := Tryd.func120.trans (congrArg some (by kernel_rfl))
  f243 := Tryd.func117.trans (congrArg some (by kernel_rfl))
  f244 := Tryd.func105.trans (congrArg some (by kernel_rfl))
  f245 := Tryd.func106.trans (congrArg some (by kernel_rfl))
  f246 := Tryd.func121.trans (congrArg some (by kernel_rfl))
  f247 := Tryd.func112.trans (congrArg some (by kernel_rfl))
  f279 := Tryd.func113.trans (congrArg some (by kernel_rfl))
  f280 := Tryd.func114.trans (congrArg some (by kernel_rfl))
  f281 := Tryd.func115.trans (congrArg some (by kernel_rfl))
  f282 := Tryd.func116.trans (congrArg some (by kernel_rfl))
  f283 := Tryd.func124.trans (congrArg some (by kernel_rfl))
  f284 := Tryd.func125.trans (congrArg some (by kernel_rfl))
  f285 := Tryd.func126.trans (congrArg some (by kernel_rfl))
  f286 := Tryd.func127.trans (congrArg some (by kernel_rfl))
  f287 := Tryd.func118.trans (congrArg some (by kernel_rfl))
  f316 := Tryd.func119.trans (congrArg some (by kernel_rfl))
  f317 := Tryd.func128.trans (congrArg some (by kernel_rfl))
  f318 := Tryd.func130.trans (congrArg some (by kernel_rfl))
  f319 := Tryd.func131.trans (congrArg some (by kernel_rfl))
  f320 := Tryd.func132.trans (congrArg some (by kernel_rfl))
  f321 := Tryd.func122.trans (congrArg some (by kernel_rfl))
  f322 := Tryd.func123.trans (congrArg some (by kernel_rfl))
  f337 := Tryd.func133.trans (congrArg some (by kernel_rfl))
  f338 := Tryd.func134.trans (congrArg some (by kernel_rfl))
  t0 := Tryd.underlying0
  a0 := Tryd.isAgg0
  z0 := Tryd.sizeOf0
  v0 := Tryd.zeroValue0
  t2 := Tryd.underlying2
  a2 := Tryd.isAgg2
  z2 := Tryd.sizeOf2
  v2 := Tryd.zeroValue2
  t3 := Tryd.underlying3
  a3 := Tryd.isAgg3
  z3 := Tryd.sizeOf3
  v3 := Tryd.zeroValue3
  t4 := Tryd.underlying4
  a4 := Tryd.isAgg4
  z4 := Tryd.sizeOf4
  v4 := Tryd.zeroValue4
  t5 := Tryd.underlying5
  a5 := Tryd.isAgg5
  z5 := Tryd.sizeOf5
  v5 := Tryd.zeroValue5
  t9 := Tryd.underlying9
  a9 := Tryd.isAgg9
  z9 := Tryd.sizeOf9
  v9 := Tryd.zeroValue9
  t20 := Tryd.underlying20
  a20 := Tryd.isAgg20
  z20 := Tryd.sizeOf20
  v20 := Tryd.zeroValue20
  t21 := Tryd.underlying21
  a21 := Tryd.isAgg21
  z21 := Tryd.sizeOf21
  v21 := Tryd.zeroValue21
  t37 := Tryd.underlying39
  a37 := Tryd.isAgg39
  z37 := Tryd.sizeOf39
  v37 := Tryd.zeroValue39
  t46 := Tryd.underlying108
  a46 := Tryd.isAgg108
  z46 := Tryd.sizeOf108
  v46 := Tryd.zeroValue108
  t51 := Tryd.underlying112
  a51 := Tryd.isAgg112
  z51 := Tryd.sizeOf112
  v51 := Tryd.zeroValue112
  t53 := Tryd.underlying123
  a53 := Tryd.isAgg123
  z53 := Tryd.sizeOf123
  v53 := Tryd.zeroValue123
  t75 := Tryd.underlying45
  a75 := Tryd.isAgg45
  z75 := Tryd.sizeOf45
  v75 := Tryd.zeroValue45
  t76 := Tryd.underlying46
  a76 := Tryd.isAgg46
  z76 := Tryd.sizeOf46
  v76 := Tryd.zeroValue46
  t85 := Tryd.underlying118
  a85 := Tryd.isAgg118
  z85 := Tryd.sizeOf118
  v85 := Tryd.zeroValue118
  t127 := Tryd.underlying73
  a127 := Tryd.isAgg73
  z127 := Tryd.sizeOf73
  v127 := Tryd.zeroValue73
  t143 := Tryd.underlying132
  a143 := Tryd.isAgg132
  z143 := Tryd.sizeOf132
  v143 := Tryd.zeroValue132
  t145 := Tryd.underlying134
  a145 := Tryd.isAgg134
  z145 := Tryd.sizeOf134
  v145 := Tryd.zeroValue134
  t167 := Tryd.underlying117
  a167 := Tryd.isAgg117
  z167 := Tryd.sizeOf117
  v167 := Tryd.zeroValue117
  t168 := Tryd.underlying120
  a168 := Tryd.isAgg120
  z168 := Tryd.sizeOf120
  v168 := Tryd.zeroValue120
  t171 := Tryd.underlying135
  a171 := Tryd.isAgg135
  z171 := Tryd.sizeOf135
  v171 := Tryd.zeroValue135
  t173 := Tryd.underlying138
  a173 := Tryd.isAgg138
  z173 := Tryd.sizeOf138
  v173 := Tryd.zeroValue138
  t175 := Tryd.underlying124
  a175 := Tryd.isAgg124
  z175 := Tryd.sizeOf124
  v175 := Tryd.zeroValue124
  t210 := Tryd.underlying128
  a210 := Tryd.isAgg128
  z210 := Tryd.sizeOf128
  v210 := Tryd.zeroValue128
  t212 := Tryd.underlying141
  a212 := Tryd.isAgg141
  z212 := Tryd.sizeOf141
  v212 := Tryd.zeroValue141
  t213 := Tryd.underlying142
  a213 := Tryd.isAgg142
  z213 := Tryd.sizeOf142
  t232 := Tryd.underlying146
  a232 := Tryd.isAgg146
  z232 := Tryd.sizeOf146
  v232 := Tryd.zeroValue146
  t233 := Tryd.underlying147
  a233 := Tryd.isAgg147
  z233 := Tryd.sizeOf147
  v233 := Tryd.zeroValue147
  g15 := by kernel_rfl
  g16 := by kernel_rfl
  g17 := by kernel_rfl
  g18 := by kernel_rfl
  g19 := by kernel_rfl
  t80 := Tryd.underlying49
  a80 := Tryd.isAgg49
  z80 := Tryd.sizeOf49
  v80 := Tryd.zeroValue49
  i0 := by kernel_rfl
  i2 := by kernel_rfl
  i3 := by kernel_rfl
  i4 := by kernel_rfl
  i5 := by kernel_rfl
  i9 := by kernel_rfl
  i20 := by kernel_rfl
  i21 := by kernel_rfl
  i37 := by kernel_rfl
  i46 := by kernel_rfl
  i51 := by kernel_rfl
  i53 := by kernel_rfl
  i75 := by kernel_rfl
  i76 := by kernel_rfl
  i80 := by kernel_rfl
  i85 := by kernel_rfl
  i127 := by kernel_rfl
  i143 := by kernel_rfl
  i145 := by kernel_rfl
  i167 := by kernel_rfl
  i168 := by kernel_rfl
  i171 := by kernel_rfl
  i173 := by kernel_rfl
  i175 := by kernel_rfl
  i210 := by kernel_rfl
  i212 := by kernel_rfl
  i232 := by kernel_rfl
  i233 := by kernel_rfl
  m15 := by kernel_rfl
  m16 := by kernel_rfl
  m17 := by kernel_rfl
  m18 := by kernel_rfl
  m19 := by kernel_rfl
  c0 := by kernel_rfl
  c2 := by kernel_rfl
  c3 := by kernel_rfl
  c4 := by kernel_rfl
  c5 := by kernel_rfl
  c9 := by kernel_rfl
  c20 := by kernel_rfl
  c21 := by kernel_rfl
  c37 := by kernel_rfl
  c46 := by kernel_rfl
  c51 := by kernel_rfl
  c53 := by kernel_rfl
  c75 := by kernel_rfl
  c76 := by kernel_rfl
  c80 := by kernel_rfl
  c85 := by kernel_rfl
  c127 := by kernel_rfl
  c143 := by kernel_rfl
  c145 := by kernel_rfl
  c167 := by kernel_rfl
  c168 := by kernel_rfl
  c171 := by kernel_rfl
  c173 := by kernel_rfl
  c175 := by kernel_rfl
  c210 := by kernel_rfl
  c212 := by kernel_rfl
  c213 := by kernel_rfl
  c232 := by kernel_rfl
  c233 := by kernel_rfl }
def Tryd.hasPrefix_ren : Go.Shelf.Ren := ⟨fun | 99 => 18 | 206 => 40 | n => n, fun | 9 => 9 | 4 => 4 | 3 => 3 | n => n, fun | n => n⟩
theorem Tryd.hasPrefix : Go.Proofs.Lays.n99 Tryd.prog Tryd.hasPrefix_ren := {
  mixed := by kernel_rfl
  f99 := Tryd.func18.trans (congrArg some (by kernel_rfl))
  f206 := Tryd.func40.trans (congrArg some (by kernel_rfl))
  t3 := Tryd.underlying3
  a3 := Tryd.isAgg3
  z3 := Tryd.sizeOf3
  v3 := Tryd.zeroValue3
  t4 := Tryd.underlying4
  a4 := Tryd.isAgg4
  z4 := Tryd.sizeOf4
  v4 := Tryd.zeroValue4
  t9 := Tryd.underlying9
  a9 := Tryd.isAgg9
  z9 := Tryd.sizeOf9
  v9 := Tryd.zeroValue9 }
def Tryd.countS_ren : Go.Shelf.Ren := ⟨fun | 138 => 44 | 195 => 63 | 218 => 64 | 143 => 65 | 219 => 90 | 217 => 98 | 225 => 99 | 224 => 100 | 267 => 101 | 266 => 107 | 314 => 108 | n => n, fun | 9 => 9 | 3 => 3 | 4 => 4 | 5 => 5 | 0 => 0 | 46 => 108 | 146 => 113 | 51 => 112 | n => n, fun | 1 => 1 | n => n⟩
theorem Tryd.countS : Go.Proofs.Lays.n138 Tryd.prog Tryd.countS_ren := {
  mixed := by kernel_rfl
  f138 := Tryd.func44.trans (congrArg some (by kernel_rfl))
  f143 := Tryd.func65.trans (congrArg some (by kernel_rfl))
  f195 := Tryd.func63.trans (congrArg some (by kernel_rfl))
  f217 := Tryd.func98.trans (congrArg some (by kernel_rfl))
  f218 := Tryd.func64.trans (congrArg some (by kernel_rfl))
  f219 := Tryd.func90.trans (congrArg some (by kernel_rfl))
  f224 := Tryd.func100.trans (congrArg some (by kernel_rfl))
  f225 := Tryd.func99.trans (congrArg some (by kernel_rfl))
  f266 := Tryd.func107.trans (congrArg some (by kernel_rfl))
  f267 := Tryd.func101.trans (congrArg some (by kernel_rfl))
  f314 := Tryd.func108.trans (congrArg some (by kernel_rfl))
  t0 := Tryd.underlying0
  a0 := Tryd.isAgg0
  z0 := Tryd.sizeOf0
  v0 := Tryd.zeroValue0
  t3 := Tryd.underlying3
  a3 := Tryd.isAgg3
  z3 := Tryd.sizeOf3
  v3 := Tryd.zeroValue3
  t4 := Tryd.underlying4
  a4 := Tryd.isAgg4
  z4 := Tryd.sizeOf4
  v4 := Tryd.zeroValue4
  t5 := Tryd.underlying5
  a5 := Tryd.isAgg5
  z5 := Tryd.sizeOf5
  v5 := Tryd.zeroValue5
  t9 := Tryd.underlying9
  a9 := Tryd.isAgg9
  z9 := Tryd.sizeOf9
  v9 := Tryd.zeroValue9
  t46 := Tryd.underlying108
  a46 := Tryd.isAgg108
  z46 := Tryd.sizeOf108
  v46 := Tryd.zeroValue108
  t51 := Tryd.underlying112
  a51 := Tryd.isAgg112
  z51 := Tryd.sizeOf112
  v51 := Tryd.zeroValue112
  t146 := Tryd.underlying113
  a146 := Tryd.isAgg113
  z146 := Tryd.sizeOf113
  v146 := Tryd.zeroValue113
  g1 := by kernel_rfl }
def Tryd.lastIx_ren : Go.Shelf.Ren := ⟨fun | 149 => 45 | 222 => 66 | n => n, fun | 9 => 9 | 5 => 5 | 3 => 3 | 4 => 4 | n => n, fun | n => n⟩
theorem Tryd.lastIx : Go.Proofs.Lays.n149 Tryd.prog Tryd.lastIx_ren := {
  mixed := by kernel_rfl
  f149 := Tryd.func45.trans (congrArg some (by kernel_rfl))
  f222 := Tryd.func66.trans (congrArg some (by kernel_rfl))
  t3 := Tryd.underlying3
  a3 := Tryd.isAgg3
  z3 := Tryd.sizeOf3
  v3 := Tryd.zeroValue3
  t4 := Tryd.underlying4
  a4 := Tryd.isAgg4
  z4 := Tryd.sizeOf4
  v4 := Tryd.zeroValue4
  t5 := Tryd.underlying5
  a5 := Tryd.isAgg5
  z5 := Tryd.sizeOf5
  v5 := Tryd.zeroValue5
  t9 := Tryd.underlying9
  a9 := Tryd.isAgg9
  z9 := Tryd.sizeOf9
  v9 := Tryd.zeroValue9 }
theorem hasPrefix_any (s p : ByteArray) (w : World) : Calls Tryd.prog 18 #[.string s, .string p] w fun e w' => e = .returned (.bool (Lib.hasPrefix s.data.toList p.data.toList)) ∧ w' = w := Any.strings_HasPrefix Tryd.hasPrefix s p w

/-! ### Numbers -/
def rdA (acc : Nat) (l : LBy) : Nat := l.foldl (fun a c => a * 10 + (c.toNat - 48)) acc
theorem rdA_le (l : LBy) : ∀ acc, acc ≤ rdA acc l := by
  induction l with
  | nil => intro acc; exact Nat.le_refl _
  | cons c r ih =>
    intro acc
    have := ih (acc * 10 + (c.toNat - 48))
    show acc ≤ rdA (acc * 10 + (c.toNat - 48)) r
    omega
theorem dg_toNat {c : UInt8} (h : isDg c = true) : 48 ≤ c.toNat ∧ c.toNat ≤ 57 := by
  simp only [isDg, Bool.and_eq_true, decide_eq_true_eq, UInt8.le_iff_toNat_le] at h
  have : (48 : UInt8).toNat = 48 := rfl
  have : (57 : UInt8).toNat = 57 := rfl
  omega
theorem parse_digits (l : LBy) : ∀ acc, (∀ c ∈ l, isDg c = true) → acc < 18446744073709551616 → Lib.parseUint10 acc l = if rdA acc l < 18446744073709551616 then .ok (rdA acc l) else .range := by
  induction l with
  | nil => intro acc _ h; simp [Lib.parseUint10, rdA, h]
  | cons c r ih =>
    intro acc hd h
    have hc := dg_toNat (hd c (by simp))
    have hle := rdA_le r (acc * 10 + (c.toNat - 48))
    have he : rdA acc (c :: r) = rdA (acc * 10 + (c.toNat - 48)) r := rfl
    rw [Lib.parseUint10, if_pos hc, he]
    by_cases h1 : 1844674407370955162 ≤ acc
    · rw [if_pos h1, if_neg (by omega)]
    · rw [if_neg h1]
      by_cases h2 : 18446744073709551616 ≤ acc * 10 + (c.toNat - 48)
      · rw [if_pos h2, if_neg (by omega)]
      · rw [if_neg h2]
        exact ih _ (fun x hx => hd x (by simp [hx])) (by omega)
theorem atoi_digits (l : LBy) (h0 : l ≠ []) (hd : ∀ c ∈ l, isDg c = true) : Lib.atoiAll l = if rdN l < 9223372036854775808 then .ok (rdN l : Int) else .range := by
  cases l with
  | nil => exact absurd rfl h0
  | cons c r =>
    have hc := dg_toNat (hd c (by simp))
    rw [Lib.atoiAll_plain c r (by omega) (by omega)]
    have hp : Lib.parseMag (c :: r) = if rdN (c :: r) < 18446744073709551616 then .ok (rdN (c :: r)) else .range := by
      unfold Lib.parseMag
      rw [if_neg (by simp)]
      exact parse_digits (c :: r) 0 hd (by omega)
    rw [hp]
    by_cases h1 : rdN (c :: r) < 18446744073709551616
    · rw [if_pos h1]
      unfold Lib.signless
      by_cases h2 : rdN (c :: r) < 9223372036854775808
      · simp [h2]
      · simp [h2]
    · rw [if_neg h1, if_neg (by omega)]
      rfl
/-- What the lexer asks of the package's variables. -/
def ErV (w : World) : Prop := ∃ te pe, w.cell? ⟨3, 0, none⟩ = some (.iface te pe)
theorem ErV.lt {w : World} (h : ErV w) : 3 < w.heap.size := by
  obtain ⟨te, pe, h⟩ := h
  exact Lib.lt_of_cell h
theorem ErV.below {w w' : World} {B : Nat} (h : ErV w) (hb : Below B w w') (hB : 3 < B) : ErV w' := by
  obtain ⟨te, pe, h⟩ := h
  exact ⟨te, pe, (hb.cell hB).trans h⟩
/-- What Atoi returns for digits. -/
theorem atoi_any (s : ByteArray) (w : World) (hs : s.size ≤ 4000) (h0 : 1 ≤ s.size) (hd : ∀ c ∈ s.data.toList, isDg c = true) (hv : ErV w) :
    Calls Tryd.prog 97 #[.string s] w fun e w' => (∃ x v, e = .returned (.tuple #[.int .i64 x, v]) ∧ (if rdN s.data.toList < 9223372036854775808 then x = (rdN s.data.toList : Int) ∧ v = .nilIface else ∃ t p, v = .iface t p)) ∧ Below w.heap.size w w' := by
  have hne : s.data.toList ≠ [] := by
    intro e
    have := congrArg List.length e
    rw [list_len] at this
    simp only [List.length_nil] at this
    omega
  have ha := atoi_digits _ hne hd
  by_cases h : rdN s.data.toList < 9223372036854775808
  · rw [if_pos h] at ha
    refine (Any.strconv_Atoi_ok Tryd.atoiC s (by omega) _ ha w).mono ?_
    rintro e w' ⟨rfl, hw⟩
    refine ⟨⟨_, _, rfl, by rw [if_pos h]; exact ⟨rfl, rfl⟩⟩, ?_⟩
    rcases hw with rfl | ⟨t, rfl⟩
    · exact Below.refl _ _
    · exact Lib.bytesWorld_below _ _ _
  · rw [if_neg h] at ha
    obtain ⟨te, pe, hv⟩ := hv
    refine (Any.strconv_Atoi_range Tryd.atoiC s (by omega) ha _ w hv (.inr ⟨te, pe, rfl⟩)).mono ?_
    rintro e w' ⟨N, rfl, _, _, hb⟩
    exact ⟨⟨_, _, rfl, by rw [if_neg h]; exact ⟨_, _, rfl⟩⟩, hb⟩
/-- What numberAt returns for a word. -/
def numR (l : LBy) (s : ByteArray) (a : Nat) : Tk × Int := if nbB l = false then (zTk, 3) else if 1099511627776 < rdN l then (zTk, 2) else (⟨2, s, rdN l, a⟩, 0)
theorem rdN_nonneg (l : LBy) : True := trivial
set_option maxHeartbeats 2000000 in
theorem numberAt_any (s : ByteArray) (a : Nat) (w : World) (hs : s.size ≤ 4000) (h0 : 1 ≤ s.size) (hn : ∀ c ∈ s.data.toList, isNmC c = true) (hv : ErV w) :
    Calls Tryd.prog 89 #[.string s, .int .i64 (a : Int)] w fun x w' => x = .returned (.tuple #[tkV (numR s.data.toList s a).1, .int .i64 (numR s.data.toList s a).2]) ∧ Below w.heap.size w w' := by
  obtain ⟨W, hW⟩ : ∃ W, w.alloc (.cells #[.int .i64 0, .string ⟨#[]⟩, .int .i64 0, .int .i64 0] TTk) = W := ⟨_, rfl⟩
  have hb : Below w.heap.size w W := by rw [← hW]; exact (Below.refl _ w).alloc (Nat.le_refl _) _
  have hs1 : W.heap.size = w.heap.size + 1 := by rw [← hW]; simp
  have hg : W.heap[w.heap.size]? = some (.cells #[.int .i64 0, .string ⟨#[]⟩, .int .i64 0, .int .i64 0] TTk (0, 0)) := by rw [← hW]; exact heapNew w _
  have HN := Lib.hid (isNumber_any s W hs h0 hn)
  have HW := Lib.hid hW
  have HB := Lib.hid hb
  have HS1 := Lib.hid hs1
  have HG := Lib.hid hg
  have HV := Lib.hid hv
  obtain ⟨R, hR⟩ : ∃ R, numR s.data.toList s a = R := ⟨_, rfl⟩
  have HRR := Lib.hid hR
  rw [hR]
  have hlt := hv.lt
  clear hb hs1 hg hv hR
  by_cases h : nbB s.data.toList = false
  · have HE : Hid (R = (zTk, 3)) := Lib.hid (by rw [← HRR.out]; unfold numR; rw [if_pos h])
    rw [h] at HN
    clear h hn hW
    go_enter Tryd.func89, Tryd.ntmps89
    go_wp2_with fail
    rw [HW.out]
    refine HN.out.mono ?_
    rintro x w1 ⟨rfl, b1⟩
    have HG1 := Lib.hid ((b1.block _ (by rw [HS1.out]; omega)).trans HG.out)
    have HB1 := Lib.hid (HB.out.trans (b1.mono HB.out.size))
    clear b1
    go_wp2_with (refine wpList_store_row rfl TTk (.tmp 4) (.tmp 11) rfl w.heap.size #[.int .i64 0, .string ⟨#[]⟩, .int .i64 0, .int .i64 0] rfl rfl _ _ HG1.out (by kernel_rfl) rfl (by simp [Value.oneCell']) ?_)
    try simp only [Exit.inBlock, Exit.then]
    exact bodyPost_ret (ret_tk Tryd.results89 _ w.heap.size zTk _ _ (setRow_heap _ _ _ _ _ _ HG1.out) rfl rfl) rfl ⟨by rw [HE.out]; rfl, below_setRow HB1.out (Nat.le_refl _) _⟩
  · have hb : nbB s.data.toList = true := by simpa using h
    have hdg : ∀ c ∈ s.data.toList, isDg c = true := by
      unfold nbB at hb
      simp only [Bool.and_eq_true, List.all_eq_true] at hb
      exact hb.1
    have hu : numR s.data.toList s a = if 1099511627776 < rdN s.data.toList then (zTk, 2) else (⟨2, s, rdN s.data.toList, a⟩, 0) := by unfold numR; rw [if_neg h]
    have HU := Lib.hid hu
    have HDG := Lib.hid hdg
    rw [hb] at HN
    clear h hn hW hu hdg hb
    go_enter Tryd.func89, Tryd.ntmps89
    go_wp2_with fail
    rw [HW.out]
    refine HN.out.mono ?_
    rintro x w1 ⟨rfl, b1⟩
    have HG1 := Lib.hid ((b1.block _ (by rw [HS1.out]; omega)).trans HG.out)
    have HB1 := Lib.hid (HB.out.trans (b1.mono HB.out.size))
    have HA := Lib.hid (atoi_any s w1 hs h0 HDG.out (HV.out.below HB1.out hlt))
    clear b1
    go_wp2_with fail
    refine HA.out.mono ?_
    rintro x w2 ⟨⟨x0, v, rfl, hx⟩, b2⟩
    have HG2 := Lib.hid ((b2.block _ (by have := HB1.out.size; have := ltH HG1.out; omega)).trans HG1.out)
    have HB2 := Lib.hid (HB1.out.trans (b2.mono HB1.out.size))
    clear b2
    by_cases h1 : rdN s.data.toList < 9223372036854775808
    · rw [if_pos h1] at hx
      obtain ⟨rfl, rfl⟩ := hx
      by_cases h2 : 1099511627776 < rdN s.data.toList
      · have k2 : decide ((1099511627776 : Int) < (rdN s.data.toList : Int)) = true := by simpa using (by omega : (1099511627776 : Int) < (rdN s.data.toList : Int))
        have HE : Hid (R = (zTk, 2)) := Lib.hid (by rw [← HRR.out, HU.out, if_pos h2])
        generalize rdN s.data.toList = n at k2
        clear h1 h2
        go_wp2_with (refine wpList_store_row rfl TTk (.tmp 4) (.tmp 23) rfl w.heap.size #[.int .i64 0, .string ⟨#[]⟩, .int .i64 0, .int .i64 0] rfl rfl _ _ HG2.out (by kernel_rfl) rfl (by simp [Value.oneCell']) ?_)
        try simp only [Exit.inBlock, Exit.then]
        exact bodyPost_ret (ret_tk Tryd.results89 _ w.heap.size zTk _ _ (setRow_heap _ _ _ _ _ _ HG2.out) rfl rfl) rfl ⟨by rw [HE.out]; rfl, below_setRow HB2.out (Nat.le_refl _) _⟩
      · have k2 : decide ((1099511627776 : Int) < (rdN s.data.toList : Int)) = false := by simpa using (by omega : (rdN s.data.toList : Int) ≤ 1099511627776)
        have HE : Hid (R = (⟨2, s, rdN s.data.toList, a⟩, 0)) := Lib.hid (by rw [← HRR.out, HU.out, if_neg h2])
        obtain ⟨n, hnn⟩ : ∃ n, rdN s.data.toList = n := ⟨_, rfl⟩
        rw [hnn] at k2 HE
        rw [hnn]
        clear h1 h2 hnn
        go_wp2_with (refine wpList_store_row rfl TTk (.tmp 4) (.tmp 27) rfl w.heap.size #[.int .i64 2, .string s, .int .i64 (n : Int), .int .i64 (a : Int)] rfl rfl _ _ HG2.out (by kernel_rfl) rfl (by simp [Value.oneCell']) ?_)
        try simp only [Exit.inBlock, Exit.then]
        exact bodyPost_ret (ret_tk Tryd.results89 _ w.heap.size ⟨2, s, (n : Int), a⟩ _ _ (setRow_heap _ _ _ _ _ _ HG2.out) rfl rfl) rfl ⟨by rw [HE.out]; rfl, below_setRow HB2.out (Nat.le_refl _) _⟩
    · rw [if_neg h1] at hx
      obtain ⟨t, q, rfl⟩ := hx
      have HE : Hid (R = (zTk, 2)) := Lib.hid (by rw [← HRR.out, HU.out, if_pos (by omega)])
      clear h1
      go_wp2_with (refine wpList_store_row rfl TTk (.tmp 4) (.tmp 23) rfl w.heap.size #[.int .i64 0, .string ⟨#[]⟩, .int .i64 0, .int .i64 0] rfl rfl _ _ HG2.out (by kernel_rfl) rfl (by simp [Value.oneCell']) ?_)
      try simp only [Exit.inBlock, Exit.then]
      exact bodyPost_ret (ret_tk Tryd.results89 _ w.heap.size zTk _ _ (setRow_heap _ _ _ _ _ _ HG2.out) rfl rfl) rfl ⟨by rw [HE.out]; rfl, below_setRow HB2.out (Nat.le_refl _) _⟩
end Go.Proofs.YtdgphhdkeikbaaaDoor
