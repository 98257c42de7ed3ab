/-
  The library's functions that the lexer calls.
-/
import Derived.Shelf.Strconv.AtoiAll
import Derived.Shelf.Strings.Prefix
import Derived.Shelf.Strings.Count
import Derived.Shelf.Strings.LastIndex
import Derived.Lib.AtoiAllCases
import Derived.Laws.CopyOwn
import Derived.Test.YtdgphhdkeikbaaaGreatDoorLxTok
namespace Go.Proofs.YtdgphhdkeikbaaaGreatDoor
set_option linter.unusedSimpArgs false
set_option linter.unusedVariables false
open Go.RowKit Go.Shelf Go.Sort
def Tryz.atoiC_ren : Go.Shelf.Ren := ⟨fun | 172 => 112 | 244 => 130 | 245 => 131 | 247 => 142 | 279 => 143 | 280 => 144 | 281 => 145 | 282 => 146 | 287 => 152 | 316 => 153 | 171 => 68 | 205 => 154 | 321 => 157 | 322 => 158 | 243 => 94 | 246 => 119 | 283 => 135 | 284 => 136 | 285 => 137 | 286 => 138 | 129 => 106 | 317 => 147 | 318 => 148 | 319 => 149 | 320 => 150 | 337 => 155 | 338 => 156 | n => n, fun | 9 => 9 | 3 => 3 | 75 => 117 | 76 => 118 | 4 => 4 | 5 => 5 | 167 => 140 | 37 => 133 | 0 => 0 | 85 => 141 | 2 => 2 | 168 => 143 | 53 => 109 | 175 => 151 | 46 => 84 | 210 => 155 | 127 => 158 | 145 => 161 | 143 => 159 | 21 => 21 | 171 => 131 | 173 => 134 | 212 => 147 | 51 => 107 | 20 => 20 | 213 => 148 | 232 => 162 | 233 => 163 | 80 => 114 | n => n, fun | 15 => 3 | 16 => 4 | 17 => 2 | 18 => 5 | 19 => 6 | n => n⟩
theorem Tryz.atoiC : Go.Proofs.LaysC.n172 Tryz.prog Tryz.atoiC_ren := {
  mixed := by kernel_rfl
  f129 := Tryz.func106.trans (congrArg some (by kernel_rfl))
  f171 := Tryz.func68.trans (congrArg some (by kernel_rfl))
  f172 := Tryz.func112.trans (congrArg some (by kernel_rfl))
  f205 := Tryz.func154.trans (congrArg some (by kernel_rfl))
  f243 := Tryz.func94.trans (congrArg some (by kernel_rfl))
  f244 := Tryz.func130.trans (congrArg some (by kernel_rfl))
  f245 := Tryz.func131.trans (congrArg some (by kernel_rfl))
  f246 := Tryz.func119.trans (congrArg some (by kernel_rfl))
  f247 := Tryz.func142.trans (congrArg some (by kernel_rfl))
  f279 := Tryz.func143.trans (congrArg some (by kernel_rfl))
  f280 := Tryz.func144.trans (congrArg some (by kernel_rfl))
  f281 := Tryz.func145.trans (congrArg some (by kernel_rfl))
  f282 := Tryz.func146.trans (congrArg some (by kernel_rfl))
  f283 := Tryz.func135.trans (congrArg some (by kernel_rfl))
  f284 := Tryz.func136.trans (congrArg some (by kernel_rfl))
  f285 := Tryz.func137.trans (congrArg some (by kernel_rfl))
  f286 := Tryz.func138.trans (congrArg some (by kernel_rfl))
  f287 := Tryz.func152.trans (congrArg some (by kernel_rfl))
  f316 := Tryz.func153.trans (congrArg some (by kernel_rfl))
  f317 := Tryz.func147.trans (congrArg some (by kernel_rfl))
  f318 := Tryz.func148.trans (congrArg some (by kernel_rfl))
  f319 := Tryz.func149.trans (congrArg some (by kernel_rfl))
  f320 := Tryz.func150.trans (congrArg some (by kernel_rfl))
  f321 := Tryz.func157.trans (congrArg some (by kernel_rfl))
  f322 := Tryz.func158.trans (congrArg some (by kernel_rfl))
  f337 := Tryz.func155.trans (congrArg some (by kernel_rfl))
  f338 := Tryz.func156.trans (congrArg some (by kernel_rfl))
  t0 := Tryz.underlying0
  a0 := Tryz.isAgg0
  z0 := Tryz.sizeOf0
  v0 := Tryz.zeroValue0
  t2 := Tryz.underlying2
  a2 := Tryz.isAgg2
  z2 := Tryz.sizeOf2
  v2 := Tryz.zeroValue2
  t3 := Tryz.underlying3
  a3 := Tryz.isAgg3
  z3 := Tryz.sizeOf3
  v3 := Tryz.zeroValue3
  t4 := Tryz.underlying4
  a4 := Tryz.isAgg4
  z4 := Tryz.sizeOf4
  v4 := Tryz.zeroValue4
  t5 := Tryz.underlying5
  a5 := Tryz.isAgg5
  z5 := Tryz.sizeOf5
  v5 := Tryz.zeroValue5
  t9 := Tryz.underlying9
  a9 := Tryz.isAgg9
  z9 := Tryz.sizeOf9
  v9 := Tryz.zeroValue9
  t20 := Tryz.underlying20
  a20 := Tryz.isAgg20
  z20 := Tryz.sizeOf20
  v20 := Tryz.zeroValue20
  t21 := Tryz.underlying21
  a21 := Tryz.isAgg21
  z21 := Tryz.sizeOf21
  v21 := Tryz.zeroValue21
  t37 := Tryz.underlying133
  a37 := Tryz.isAgg133
  z37 := Tryz.sizeOf133
  v37 := Tryz.zeroValue133
  t46 := Tryz.underlying84
  a46 := Tryz.isAgg84
  z46 := Tryz.sizeOf84
  v46 := Tryz.zeroValue84
  t51 := Tryz.underlying107
  a51 := Tryz.isAgg107
  z51 := Tryz.sizeOf107
  v51 := Tryz.zeroValue107
  t53 := Tryz.underlying109
  a53 := Tryz.isAgg109
  z53 := Tryz.sizeOf109
  v53 := Tryz.zeroValue109
  t75 := Tryz.underlying117
  a75 := Tryz.isAgg117
  z75 := Tryz.sizeOf117
  v75 := Tryz.zeroValue117
  t76 := Tryz.underlying118
  a76 := Tryz.isAgg118
  z76 := Tryz.sizeOf118
  v76 := Tryz.zeroValue118
  t85 := Tryz.underlying141
  a85 := Tryz.isAgg141
  z85 := Tryz.sizeOf141
  v85 := Tryz.zeroValue141
  t127 := Tryz.underlying158
  a127 := Tryz.isAgg158
  z127 := Tryz.sizeOf158
  v127 := Tryz.zeroValue158
  t143 := Tryz.underlying159
  a143 := Tryz.isAgg159
  z143 := Tryz.sizeOf159
  v143 := Tryz.zeroValue159
  t145 := Tryz.underlying161
  a145 := Tryz.isAgg161
  z145 := Tryz.sizeOf161
  v145 := Tryz.zeroValue161
  t167 := Tryz.underlying140
  a167 := Tryz.isAgg140
  z167 := Tryz.sizeOf140
  v167 := Tryz.zeroValue140
  t168 := Tryz.underlying143
  a168 := Tryz.isAgg143
  z168 := Tryz.sizeOf143
  v168 := Tryz.zeroValue143
  t171 := Tryz.underlying131
  a171 := Tryz.isAgg131
  z171 := Tryz.sizeOf131
  v171 := Tryz.zeroValue131
  t173 := Tryz.underlying134
  a173 := Tryz.isAgg134
  z173 := Tryz.sizeOf134
  v173 := Tryz.zeroValue134
  t175 := Tryz.underlying151
  a175 := Tryz.isAgg151
  z175 := Tryz.sizeOf151
  v175 := Tryz.zeroValue151
  t210 := Tryz.underlying155
  a210 := Tryz.isAgg155
  z210 := Tryz.sizeOf155
  v210 := Tryz.zeroValue155
  t212 := Tryz.underlying147
  a212 := Tryz.isAgg147
  z212 := Tryz.sizeOf147
  v212 := Tryz.zeroValue147
  t213 := Tryz.underlying148
  a213 := Tryz.isAgg148
  z213 := Tryz.sizeOf148
  t232 := Tryz.underlying162
  a232 := Tryz.isAgg162
  z232 := Tryz.sizeOf162
  v232 := Tryz.zeroValue162
  t233 := Tryz.underlying163
  a233 := Tryz.isAgg163
  z233 := Tryz.sizeOf163
  v233 := Tryz.zeroValue163
  g15 := by kernel_rfl
  g16 := by kernel_rfl
  g17 := by kernel_rfl
  g18 := by kernel_rfl
  g19 := by kernel_rfl
  t80 := Tryz.underlying114
  a80 := Tryz.isAgg114
  z80 := Tryz.sizeOf114
  v80 := Tryz.zeroValue114
  i0 := by kernel_rfl
  i2 := by kernel_rfl
  i3 := by kernel_rfl
  i4 := by kernel_rfl
  i5 := by kernel_rfl
  i9 := by kernel_rfl
  i20 := by kernel_rfl
  i21 := by kernel_rfl
  i37 := by kernel_rfl
  i46 := by kernel_rfl
  i51 := by kernel_rfl
  i53 := by kernel_rfl
  i75 := by kernel_rfl
  i76 := by kernel_rfl
  i80 := by kernel_rfl
  i85 := by kernel_rfl
  i127 := by kernel_rfl
  i143 := by kernel_rfl
  i145 := by kernel_rfl
  i167 := by kernel_rfl
  i168 := by kernel_rfl
  i171 := by kernel_rfl
  i173 := by kernel_rfl
  i175 := by kernel_rfl
  i210 := by kernel_rfl
  i212 := by kernel_rfl
  i232 := by kernel_rfl
  i233 := by kernel_rfl
  m15 := by kernel_rfl
  m16 := by kernel_rfl
  m17 := by kernel_rfl
  m18 := by kernel_rfl
  m19 := by kernel_rfl
  c0 := by kernel_rfl
  c2 := by kernel_rfl
  c3 := by kernel_rfl
  c4 := by kernel_rfl
  c5 := by kernel_rfl
  c9 := by kernel_rfl
  c20 := by kernel_rfl
  c21 := by kernel_rfl
  c37 := by kernel_rfl
  c46 := by kernel_rfl
  c51 := by kernel_rfl
  c53 := by kernel_rfl
  c75 := by kernel_rfl
  c76 := by kernel_rfl
  c80 := by kernel_rfl
  c85 := by kernel_rfl
  c127 := by kernel_rfl
  c143 := by kernel_rfl
  c145 := by kernel_rfl
  c167 := by kernel_rfl
  c168 := by kernel_rfl
  c171 := by kernel_rfl
  c173 := by kernel_rfl
  c175 := by kernel_rfl
  c210 := by kernel_rfl
  c212 := by kernel_rfl
  c213 := by kernel_rfl
  c232 := by kernel_rfl
  c233 := by kernel_rfl }
def Tryz.hasPrefix_ren : Go.Shelf.Ren := ⟨fun | 99 => 85 | 206 => 113 | n => n, fun | 9 => 9 | 4 => 4 | 3 => 3 | n => n, fun | n => n⟩
theorem Tryz.hasPrefix : Go.Proofs.Lays.n99 Tryz.prog Tryz.hasPrefix_ren := {
  mixed := by kernel_rfl
  f99 := Tryz.func85.trans (congrArg some (by kernel_rfl))
  f206 := Tryz.func113.trans (congrArg some (by kernel_rfl))
  t3 := Tryz.underlying3
  a3 := Tryz.isAgg3
  z3 := Tryz.sizeOf3
  v3 := Tryz.zeroValue3
  t4 := Tryz.underlying4
  a4 := Tryz.isAgg4
  z4 := Tryz.sizeOf4
  v4 := Tryz.zeroValue4
  t9 := Tryz.underlying9
  a9 := Tryz.isAgg9
  z9 := Tryz.sizeOf9
  v9 := Tryz.zeroValue9 }
def Tryz.countS_ren : Go.Shelf.Ren := ⟨fun | 138 => 25 | 195 => 44 | 218 => 45 | 143 => 46 | 219 => 86 | 217 => 114 | 225 => 115 | 224 => 116 | 267 => 117 | 266 => 132 | 314 => 133 | n => n, fun | 9 => 9 | 3 => 3 | 4 => 4 | 5 => 5 | 0 => 0 | 46 => 84 | 146 => 129 | 51 => 107 | n => n, fun | 1 => 1 | n => n⟩
theorem Tryz.countS : Go.Proofs.Lays.n138 Tryz.prog Tryz.countS_ren := {
  mixed := by kernel_rfl
  f138 := Tryz.func25.trans (congrArg some (by kernel_rfl))
  f143 := Tryz.func46.trans (congrArg some (by kernel_rfl))
  f195 := Tryz.func44.trans (congrArg some (by kernel_rfl))
  f217 := Tryz.func114.trans (congrArg some (by kernel_rfl))
  f218 := Tryz.func45.trans (congrArg some (by kernel_rfl))
  f219 := Tryz.func86.trans (congrArg some (by kernel_rfl))
  f224 := Tryz.func116.trans (congrArg some (by kernel_rfl))
  f225 := Tryz.func115.trans (congrArg some (by kernel_rfl))
  f266 := Tryz.func132.trans (congrArg some (by kernel_rfl))
  f267 := Tryz.func117.trans (congrArg some (by kernel_rfl))
  f314 := Tryz.func133.trans (congrArg some (by kernel_rfl))
  t0 := Tryz.underlying0
  a0 := Tryz.isAgg0
  z0 := Tryz.sizeOf0
  v0 := Tryz.zeroValue0
  t3 := Tryz.underlying3
  a3 := Tryz.isAgg3
  z3 := Tryz.sizeOf3
  v3 := Tryz.zeroValue3
  t4 := Tryz.underlying4
  a4 := Tryz.isAgg4
  z4 := Tryz.sizeOf4
  v4 := Tryz.zeroValue4
  t5 := Tryz.underlying5
  a5 := Tryz.isAgg5
  z5 := Tryz.sizeOf5
  v5 := Tryz.zeroValue5
  t9 := Tryz.underlying9
  a9 := Tryz.isAgg9
  z9 := Tryz.sizeOf9
  v9 := Tryz.zeroValue9
  t46 := Tryz.underlying84
  a46 := Tryz.isAgg84
  z46 := Tryz.sizeOf84
  v46 := Tryz.zeroValue84
  t51 := Tryz.underlying107
  a51 := Tryz.isAgg107
  z51 := Tryz.sizeOf107
  v51 := Tryz.zeroValue107
  t146 := Tryz.underlying129
  a146 := Tryz.isAgg129
  z146 := Tryz.sizeOf129
  v146 := Tryz.zeroValue129
  g1 := by kernel_rfl }
def Tryz.lastIx_ren : Go.Shelf.Ren := ⟨fun | 149 => 26 | 222 => 47 | n => n, fun | 9 => 9 | 5 => 5 | 3 => 3 | 4 => 4 | n => n, fun | n => n⟩
theorem Tryz.lastIx : Go.Proofs.Lays.n149 Tryz.prog Tryz.lastIx_ren := {
  mixed := by kernel_rfl
  f149 := Tryz.func26.trans (congrArg some (by kernel_rfl))
  f222 := Tryz.func47.trans (congrArg some (by kernel_rfl))
  t3 := Tryz.underlying3
  a3 := Tryz.isAgg3
  z3 := Tryz.sizeOf3
  v3 := Tryz.zeroValue3
  t4 := Tryz.underlying4
  a4 := Tryz.isAgg4
  z4 := Tryz.sizeOf4
  v4 := Tryz.zeroValue4
  t5 := Tryz.underlying5
  a5 := Tryz.isAgg5
  z5 := Tryz.sizeOf5
  v5 := Tryz.zeroValue5
  t9 := Tryz.underlying9
  a9 := Tryz.isAgg9
  z9 := Tryz.sizeOf9
  v9 := Tryz.zeroValue9 }
theorem hasPrefix_any (s p : ByteArray) (w : World) : Calls Tryz.prog 85 #[.string s, .string p] w fun e w' => e = .returned (.bool (Lib.hasPrefix s.data.toList p.data.toList)) ∧ w' = w := Any.strings_HasPrefix Tryz.hasPrefix s p w

/-! ### Numbers -/
def rdA (acc : Nat) (l : LBy) : Nat := l.foldl (fun a c => a * 10 + (c.toNat - 48)) acc
theorem rdA_le (l : LBy) : ∀ acc, acc ≤ rdA acc l := by
  induction l with
  | nil => intro acc; exact Nat.le_refl _
  | cons c r ih =>
    intro acc
    have := ih (acc * 10 + (c.toNat - 48))
    show acc ≤ rdA (acc * 10 + (c.toNat - 48)) r
    omega
theorem dg_toNat {c : UInt8} (h : isDg c = true) : 48 ≤ c.toNat ∧ c.toNat ≤ 57 := by
  simp only [isDg, Bool.and_eq_true, decide_eq_true_eq, UInt8.le_iff_toNat_le] at h
  have : (48 : UInt8).toNat = 48 := rfl
  have : (57 : UInt8).toNat = 57 := rfl
  omega
theorem parse_digits (l : LBy) : ∀ acc, (∀ c ∈ l, isDg c = true) → acc < 18446744073709551616 → Lib.parseUint10 acc l = if rdA acc l < 18446744073709551616 then .ok (rdA acc l) else .range := by
  induction l with
  | nil => intro acc _ h; simp [Lib.parseUint10, rdA, h]
  | cons c r ih =>
    intro acc hd h
    have hc := dg_toNat (hd c (by simp))
    have hle := rdA_le r (acc * 10 + (c.toNat - 48))
    have he : rdA acc (c :: r) = rdA (acc * 10 + (c.toNat - 48)) r := rfl
    rw [Lib.parseUint10, if_pos hc, he]
    by_cases h1 : 1844674407370955162 ≤ acc
    · rw [if_pos h1, if_neg (by omega)]
    · rw [if_neg h1]
      by_cases h2 : 18446744073709551616 ≤ acc * 10 + (c.toNat - 48)
      · rw [if_pos h2, if_neg (by omega)]
      · rw [if_neg h2]
        exact ih _ (fun x hx => hd x (by simp [hx])) (by omega)
theorem atoi_digits (l : LBy) (h0 : l ≠ []) (hd : ∀ c ∈ l, isDg c = true) : Lib.atoiAll l = if rdN l < 9223372036854775808 then .ok (rdN l : Int) else .range := by
  cases l with
  | nil => exact absurd rfl h0
  | cons c r =>
    have hc := dg_toNat (hd c (by simp))
    rw [Lib.atoiAll_plain c r (by omega) (by omega)]
    have hp : Lib.parseMag (c :: r) = if rdN (c :: r) < 18446744073709551616 then .ok (rdN (c :: r)) else .range := by
      unfold Lib.parseMag
      rw [if_neg (by simp)]
      exact parse_digits (c :: r) 0 hd (by omega)
    rw [hp]
    by_cases h1 : rdN (c :: r) < 18446744073709551616
    · rw [if_pos h1]
      unfold Lib.signless
      by_cases h2 : rdN (c :: r) < 9223372036854775808
      · simp [h2]
      · simp [h2]
    · rw [if_neg h1, if_neg (by omega)]
      rfl
/-- What the lexer asks of the package's variables. -/
def ErV (w : World) : Prop := ∃ te pe, w.cell? ⟨4, 0, none⟩ = some (.iface te pe)
theorem ErV.lt {w : World} (h : ErV w) : 4 < w.heap.size := by
  obtain ⟨te, pe, h⟩ := h
  exact Lib.lt_of_cell h
theorem ErV.below {w w' : World} {B : Nat} (h : ErV w) (hb : Below B w w') (hB : 4 < B) : ErV w' := by
  obtain ⟨te, pe, h⟩ := h
  exact ⟨te, pe, (hb.cell hB).trans h⟩
/-- What Atoi returns for digits. -/
theorem atoi_any (s : ByteArray) (w : World) (hs : s.size ≤ 4000) (h0 : 1 ≤ s.size) (hd : ∀ c ∈ s.data.toList, isDg c = true) (hv : ErV w) :
    Calls Tryz.prog 112 #[.string s] w fun e w' => (∃ x v, e = .returned (.tuple #[.int .i64 x, v]) ∧ (if rdN s.data.toList < 9223372036854775808 then x = (rdN s.data.toList : Int) ∧ v = .nilIface else ∃ t p, v = .iface t p)) ∧ Below w.heap.size w w' := by
  have hne : s.data.toList ≠ [] := by
    intro e
    have := congrArg List.length e
    rw [list_len] at this
    simp only [List.length_nil] at this
    omega
  have ha := atoi_digits _ hne hd
  by_cases h : rdN s.data.toList < 9223372036854775808
  · rw [if_pos h] at ha
    refine (Any.strconv_Atoi_ok Tryz.atoiC s (by omega) _ ha w).mono ?_
    rintro e w' ⟨rfl, hw⟩
    refine ⟨⟨_, _, rfl, by rw [if_pos h]; exact ⟨rfl, rfl⟩⟩, ?_⟩
    rcases hw with rfl | ⟨t, rfl⟩
    · exact Below.refl _ _
    · exact Lib.bytesWorld_below _ _ _
  · rw [if_neg h] at ha
    obtain ⟨te, pe, hv⟩ := hv
    refine (Any.strconv_Atoi_range Tryz.atoiC s (by omega) ha _ w hv (.inr ⟨te, pe, rfl⟩)).mono ?_
    rintro e w' ⟨N, rfl, _, _, hb⟩
    exact ⟨⟨_, _, rfl, by rw [if_neg h]; exact ⟨_, _, rfl⟩⟩, hb⟩
/-- What numberAt returns for a word. -/
def numR (l : LBy) (s : ByteArray) (a : Nat) : Tk × Int := if nbB l = false then (zTk, 3) else if 1099511627776 < rdN l then (zTk, 2) else (⟨2, s, rdN l, a⟩, 0)
theorem rdN_nonneg (l : LBy) : True := trivial
set_option maxHeartbeats 2000000 in
theorem numberAt_any (s : ByteArray) (a : Nat) (w : World) (hs : s.size ≤ 4000) (h0 : 1 ≤ s.size) (hn : ∀ c ∈ s.data.toList, isNmC c = true) (hv : ErV w) :
    Calls Tryz.prog 84 #[.string s, .int .i64 (a : Int)] w fun x w' => x = .returned (.tuple #[tkV (numR s.data.toList s a).1, .int .i64 (numR s.data.toList s a).2]) ∧ Below w.heap.size w w' := by
  obtain ⟨W, hW⟩ : ∃ W, w.alloc (.cells #[.int .i64 0, .string ⟨#[]⟩, .int .i64 0, .int .i64 0] TTk) = W := ⟨_, rfl⟩
  have hb : Below w.heap.size w W := by rw [← hW]; exact (Below.refl _ w).alloc (Nat.le_refl _) _
  have hs1 : W.heap.size = w.heap.size + 1 := by rw [← hW]; simp
  have hg : W.heap[w.heap.size]? = some (.cells #[.int .i64 0, .string ⟨#[]⟩, .int .i64 0, .int .i64 0] TTk (0, 0)) := by rw [← hW]; exact heapNew w _
  have HN := Lib.hid (isNumber_any s W hs h0 hn)
  have HW := Lib.hid hW
  have HB := Lib.hid hb
  have HS1 := Lib.hid hs1
  have HG := Lib.hid hg
  have HV := Lib.hid hv
  obtain ⟨R, hR⟩ : ∃ R, numR s.data.toList s a = R := ⟨_, rfl⟩
  have HRR := Lib.hid hR
  rw [hR]
  have hlt := hv.lt
  clear hb hs1 hg hv hR
  by_cases h : nbB s.data.toList = false
  · have HE : Hid (R = (zTk, 3)) := Lib.hid (by rw [← HRR.out]; unfold numR; rw [if_pos h])
    rw [h] at HN
    clear h hn hW
    go_enter Tryz.func84, Tryz.ntmps84
    go_wp2_with fail
    rw [HW.out]
    refine HN.out.mono ?_
    rintro x w1 ⟨rfl, b1⟩
    have HG1 := Lib.hid ((b1.block _ (by rw [HS1.out]; omega)).trans HG.out)
    have HB1 := Lib.hid (HB.out.trans (b1.mono HB.out.size))
    clear b1
    go_wp2_with (refine wpList_store_row rfl TTk (.tmp 4) (.tmp 11) rfl w.heap.size #[.int .i64 0, .string ⟨#[]⟩, .int .i64 0, .int .i64 0] rfl rfl _ _ HG1.out (by kernel_rfl) rfl (by simp [Value.oneCell']) ?_)
    try simp only [Exit.inBlock, Exit.then]
    exact bodyPost_ret (ret_tk Tryz.results84 _ w.heap.size zTk _ _ (setRow_heap _ _ _ _ _ _ HG1.out) rfl rfl) rfl ⟨by rw [HE.out]; rfl, below_setRow HB1.out (Nat.le_refl _) _⟩
  · have hb : nbB s.data.toList = true := by simpa using h
    have hdg : ∀ c ∈ s.data.toList, isDg c = true := by
      unfold nbB at hb
      simp only [Bool.and_eq_true, List.all_eq_true] at hb
      exact hb.1
    have hu : numR s.data.toList s a = if 1099511627776 < rdN s.data.toList then (zTk, 2) else (⟨2, s, rdN s.data.toList, a⟩, 0) := by unfold numR; rw [if_neg h]
    have HU := Lib.hid hu
    have HDG := Lib.hid hdg
    rw [hb] at HN
    clear h hn hW hu hdg hb
    go_enter Tryz.func84, Tryz.ntmps84
    go_wp2_with fail
    rw [HW.out]
    refine HN.out.mono ?_
    rintro x w1 ⟨rfl, b1⟩
    have HG1 := Lib.hid ((b1.block _ (by rw [HS1.out]; omega)).trans HG.out)
    have HB1 := Lib.hid (HB.out.trans (b1.mono HB.out.size))
    have HA := Lib.hid (atoi_any s w1 hs h0 HDG.out (HV.out.below HB1.out hlt))
    clear b1
    go_wp2_with fail
    refine HA.out.mono ?_
    rintro x w2 ⟨⟨x0, v, rfl, hx⟩, b2⟩
    have HG2 := Lib.hid ((b2.block _ (by have := HB1.out.size; have := ltH HG1.out; omega)).trans HG1.out)
    have HB2 := Lib.hid (HB1.out.trans (b2.mono HB1.out.size))
    clear b2
    by_cases h1 : rdN s.data.toList < 9223372036854775808
    · rw [if_pos h1] at hx
      obtain ⟨rfl, rfl⟩ := hx
      by_cases h2 : 1099511627776 < rdN s.data.toList
      · have k2 : decide ((1099511627776 : Int) < (rdN s.data.toList : Int)) = true := by simpa using (by omega : (1099511627776 : Int) < (rdN s.data.toList : Int))
        have HE : Hid (R = (zTk, 2)) := Lib.hid (by rw [← HRR.out, HU.out, if_pos h2])
        generalize rdN s.data.toList = n at k2
        clear h1 h2
        go_wp2_with (refine wpList_store_row rfl TTk (.tmp 4) (.tmp 23) rfl w.heap.size #[.int .i64 0, .string ⟨#[]⟩, .int .i64 0, .int .i64 0] rfl rfl _ _ HG2.out (by kernel_rfl) rfl (by simp [Value.oneCell']) ?_)
        try simp only [Exit.inBlock, Exit.then]
        exact bodyPost_ret (ret_tk Tryz.results84 _ w.heap.size zTk _ _ (setRow_heap _ _ _ _ _ _ HG2.out) rfl rfl) rfl ⟨by rw [HE.out]; rfl, below_setRow HB2.out (Nat.le_refl _) _⟩
      · have k2 : decide ((1099511627776 : Int) < (rdN s.data.toList : Int)) = false := by simpa using (by omega : (rdN s.data.toList : Int) ≤ 1099511627776)
        have HE : Hid (R = (⟨2, s, rdN s.data.toList, a⟩, 0)) := Lib.hid (by rw [← HRR.out, HU.out, if_neg h2])
        obtain ⟨n, hnn⟩ : ∃ n, rdN s.data.toList = n := ⟨_, rfl⟩
        rw [hnn] at k2 HE
        rw [hnn]
        clear h1 h2 hnn
        go_wp2_with (refine wpList_store_row rfl TTk (.tmp 4) (.tmp 27) rfl w.heap.size #[.int .i64 2, .string s, .int .i64 (n : Int), .int .i64 (a : Int)] rfl rfl _ _ HG2.out (by kernel_rfl) rfl (by simp [Value.oneCell']) ?_)
        try simp only [Exit.inBlock, Exit.then]
        exact bodyPost_ret (ret_tk Tryz.results84 _ w.heap.size ⟨2, s, (n : Int), a⟩ _ _ (setRow_heap _ _ _ _ _ _ HG2.out) rfl rfl) rfl ⟨by rw [HE.out]; rfl, below_setRow HB2.out (Nat.le_refl _) _⟩
    · rw [if_neg h1] at hx
      obtain ⟨t, q, rfl⟩ := hx
      have HE : Hid (R = (zTk, 2)) := Lib.hid (by rw [← HRR.out, HU.out, if_pos (by omega)])
      clear h1
      go_wp2_with (refine wpList_store_row rfl TTk (.tmp 4) (.tmp 23) rfl w.heap.size #[.int .i64 0, .string ⟨#[]⟩, .int .i64 0, .int .i64 0] rfl rfl _ _ HG2.out (by kernel_rfl) rfl (by simp [Value.oneCell']) ?_)
      try simp only [Exit.inBlock, Exit.then]
      exact bodyPost_ret (ret_tk Tryz.results84 _ w.heap.size zTk _ _ (setRow_heap _ _ _ _ _ _ HG2.out) rfl rfl) rfl ⟨by rw [HE.out]; rfl, below_setRow HB2.out (Nat.le_refl _) _⟩
end Go.Proofs.YtdgphhdkeikbaaaGreatDoor
