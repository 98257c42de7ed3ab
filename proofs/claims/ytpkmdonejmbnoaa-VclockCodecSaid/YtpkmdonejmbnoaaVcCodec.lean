/-
  What the program's and the reference's Encode and Decode of vclock return, for every argument.
-/
import Derived.Test.YtpkmdonejmbnoaaVcRefB
import Derived.Test.YtpkmdonejmbnoaaReadListB
namespace Go.Proofs.Ytpkmdonejmbnoaa
open Go.RowKit

def kencE (zs : List Int) : Int := if vcE zs = 0 then listE zs else 1
def kencL (zs : List Int) : List UInt8 := if vcE zs = 0 then listL zs else []
/-- Whether a string is the encoding of a clock. -/
def kOk (s : ByteArray) : Prop := (decL s.data.toList).e = 0 ∧ (decL s.data.toList).len = s.size ∧ vcE ((decL s.data.toList).val []) = 0
instance (s : ByteArray) : Decidable (kOk s) := by unfold kOk; infer_instance
def kdecE (s : ByteArray) : Int := if kOk s then 0 else 12
def kdecL (s : ByteArray) : List Int := if kOk s then (decL s.data.toList).val [] else []

/-- Encode. -/
theorem vEncode_any (ad : Option Addr) (cap : Nat) (zs : List Int) (w : World) (hI : IntsA w.heap.size w ad zs) (hl : zs.length ≤ 9223372036854775807) :
    Calls Try.prog 21 #[.slice ad zs.length cap] w fun e w' => e = .returned (.tuple #[.string (strOf (kencL zs)), .int .i64 (kencE zs)]) ∧ Below w.heap.size w w' := by
  have HC := vCheck_any w.heap.size ad cap zs w hI hl
  by_cases hv : vcE zs = 0
  · rw [show kencL zs = listL zs by unfold kencL; rw [if_pos hv], show kencE zs = listE zs by unfold kencE; rw [if_pos hv]]
    rw [hv] at HC
    have HC := Lib.hid HC
    have HL := Lib.hid (list_anyA ad cap zs w hI hl)
    clear hI hv
    generalize listL zs = L at *
    generalize listE zs = x at *
    go_enter Try.func21, Try.ntmps21
    go_wp2_with fail
    refine HC.out.mono ?_
    rintro e w4 ⟨rfl, rfl⟩
    go_wp2_with fail
    refine HL.out.mono ?_
    rintro e w4 ⟨rfl, b4⟩
    go_wp2
    go_ret2
    exact ⟨rfl, b4⟩
  · rw [show kencL zs = [] by unfold kencL; rw [if_neg hv], show kencE zs = 1 by unfold kencE; rw [if_neg hv]]
    have hb : (vcE zs != 0) = true := by simpa using hv
    have HC := Lib.hid HC
    clear hI hv
    generalize vcE zs = x at *
    go_enter Try.func21, Try.ntmps21
    go_wp2_with fail
    refine HC.out.mono ?_
    rintro e w4 ⟨rfl, rfl⟩
    go_wp2
    go_ret2
    exact ⟨rfl, Below.refl _ _⟩

set_option maxHeartbeats 1000000 in
/-- Decode. -/
theorem vDecode_any (s : ByteArray) (hs : s.size ≤ 9223372036854775807) (w : World) :
    Calls Try.prog 23 #[.string s] w (RetK (kdecL s) (kdecE s) w) := by
  have HR := readList_any s hs w
  have hln := decL_length s.data.toList
  have hx : ∀ (l : List Int) (n : Nat) (x : Int), (decL s.data.toList).val [] = l → (decL s.data.toList).len = n → (decL s.data.toList).e = x → (x = 0 ∧ n = s.size ∧ vcE l = 0 → kdecL s = l ∧ kdecE s = 0) ∧ (¬ (x = 0 ∧ n = s.size ∧ vcE l = 0) → kdecL s = [] ∧ kdecE s = 12) := by
    rintro l n x rfl rfl rfl
    exact ⟨fun h => ⟨by unfold kdecL; rw [if_pos (show kOk s from h)], by unfold kdecE; rw [if_pos (show kOk s from h)]⟩, fun h => ⟨by unfold kdecL; rw [if_neg (show ¬ kOk s from h)], by unfold kdecE; rw [if_neg (show ¬ kOk s from h)]⟩⟩
  unfold ReadsL at HR
  generalize (decL s.data.toList).val [] = l at *
  generalize (decL s.data.toList).len = n at *
  generalize (decL s.data.toList).e = x at *
  have hy := hx l n x rfl rfl rfl
  have HR := Lib.hid HR
  by_cases h1 : x = 0
  · by_cases h2 : n = s.size
    · by_cases h3 : vcE l = 0
      · obtain ⟨e1, e2⟩ := hy.1 ⟨h1, h2, h3⟩
        rw [e1, e2]
        have H3 := Lib.hid h3
        clear hx hy e1 e2 h3
        subst h1
        subst h2
        go_enter Try.func23, Try.ntmps23
        go_wp2_with fail
        refine HR.out.mono ?_
        rintro e w4 ⟨a, c, rfl, hI, hb⟩
        have hc := vCheck_any w4.heap.size a c l w4 hI (by omega)
        rw [H3.out] at hc
        have HC := Lib.hid hc
        have HI := Lib.hid hI
        have HB := Lib.hid hb
        clear hc hI hb
        go_wp2_with fail
        refine HC.out.mono ?_
        rintro e w5 ⟨rfl, rfl⟩
        go_wp2
        go_ret2
        exact ⟨_, rfl, ⟨a, c, rfl, HI.out, by omega⟩, HB.out⟩
      · obtain ⟨e1, e2⟩ := hy.2 (fun h => h3 h.2.2)
        rw [e1, e2]
        have h3b : (vcE l != 0) = true := by simpa using h3
        clear hx hy e1 e2 h3
        subst h1
        subst h2
        go_enter Try.func23, Try.ntmps23
        go_wp2_with fail
        refine HR.out.mono ?_
        rintro e w4 ⟨a, c, rfl, hI, hb⟩
        have HC := Lib.hid (vCheck_any w4.heap.size a c l w4 hI (by omega))
        have HB := Lib.hid hb
        clear hI hb
        generalize vcE l = y at *
        go_wp2_with fail
        refine HC.out.mono ?_
        rintro e w5 ⟨rfl, rfl⟩
        go_wp2
        go_ret2
        exact ⟨_, rfl, KlC.nil _ _ _, HB.out⟩
    · obtain ⟨e1, e2⟩ := hy.2 (fun h => h2 h.2.1)
      rw [e1, e2]
      have h2b : ((n : Int) != (s.size : Int)) = true := by rw [bne_iff_ne]; omega
      clear hx hy e1 e2 h2
      subst h1
      go_enter Try.func23, Try.ntmps23
      go_wp2_with fail
      refine HR.out.mono ?_
      rintro e w4 ⟨a, c, rfl, hI, hb⟩
      have HB := Lib.hid hb
      clear hI hb
      go_wp2
      go_ret2
      exact ⟨_, rfl, KlC.nil _ _ _, HB.out⟩
  · obtain ⟨e1, e2⟩ := hy.2 (fun h => h1 h.1)
    rw [e1, e2]
    have h1b : (x != 0) = true := by simpa using h1
    clear hx hy e1 e2 h1
    go_enter Try.func23, Try.ntmps23
    go_wp2_with fail
    refine HR.out.mono ?_
    rintro e w4 ⟨a, c, rfl, hI, hb⟩
    have HB := Lib.hid hb
    clear hI hb
    go_wp2
    go_ret2
    exact ⟨_, rfl, KlC.nil _ _ _, HB.out⟩
theorem vEncode_at (u : Value) (zs : List Int) (w : World) (h : KlC w u zs) :
    Calls Try.prog 21 #[u] w fun e w' => e = .returned (.tuple #[.string (strOf (kencL zs)), .int .i64 (kencE zs)]) ∧ Below w.heap.size w w' := by
  obtain ⟨a, c, rfl, h1, l1⟩ := h
  exact vEncode_any a c zs w h1 l1

/-- Encode. -/
theorem rEncode_any (ad : Option Addr) (cap : Nat) (zs : List Int) (w : World) (hI : IntsA w.heap.size w ad zs) (hl : zs.length ≤ 9223372036854775807) :
    Calls Try.prog 22 #[.slice ad zs.length cap] w fun e w' => e = .returned (.tuple #[.string (strOf (kencL zs)), .int .i64 (kencE zs)]) ∧ Below w.heap.size w w' := by
  have HC := rCheck_any w.heap.size ad cap zs w hI hl
  by_cases hv : vcE zs = 0
  · rw [show kencL zs = listL zs by unfold kencL; rw [if_pos hv], show kencE zs = listE zs by unfold kencE; rw [if_pos hv]]
    rw [hv] at HC
    have HC := Lib.hid HC
    have HL := Lib.hid (refList_anyA ad cap zs w hI hl)
    clear hI hv
    generalize listL zs = L at *
    generalize listE zs = x at *
    go_enter Try.func22, Try.ntmps22
    go_wp2_with fail
    refine HC.out.mono ?_
    rintro e w4 ⟨rfl, rfl⟩
    go_wp2_with fail
    refine HL.out.mono ?_
    rintro e w4 ⟨rfl, b4⟩
    go_wp2
    go_ret2
    exact ⟨rfl, b4⟩
  · rw [show kencL zs = [] by unfold kencL; rw [if_neg hv], show kencE zs = 1 by unfold kencE; rw [if_neg hv]]
    have hb : (vcE zs != 0) = true := by simpa using hv
    have HC := Lib.hid HC
    clear hI hv
    generalize vcE zs = x at *
    go_enter Try.func22, Try.ntmps22
    go_wp2_with fail
    refine HC.out.mono ?_
    rintro e w4 ⟨rfl, rfl⟩
    go_wp2
    go_ret2
    exact ⟨rfl, Below.refl _ _⟩

set_option maxHeartbeats 1000000 in
/-- Decode. -/
theorem rDecode_any (s : ByteArray) (hs : s.size ≤ 9223372036854775807) (w : World) :
    Calls Try.prog 24 #[.string s] w (RetK (kdecL s) (kdecE s) w) := by
  have HR := refReadList_any s hs w
  have hln := decL_length s.data.toList
  have hx : ∀ (l : List Int) (n : Nat) (x : Int), (decL s.data.toList).val [] = l → (decL s.data.toList).len = n → (decL s.data.toList).e = x → (x = 0 ∧ n = s.size ∧ vcE l = 0 → kdecL s = l ∧ kdecE s = 0) ∧ (¬ (x = 0 ∧ n = s.size ∧ vcE l = 0) → kdecL s = [] ∧ kdecE s = 12) := by
    rintro l n x rfl rfl rfl
    exact ⟨fun h => ⟨by unfold kdecL; rw [if_pos (show kOk s from h)], by unfold kdecE; rw [if_pos (show kOk s from h)]⟩, fun h => ⟨by unfold kdecL; rw [if_neg (show ¬ kOk s from h)], by unfold kdecE; rw [if_neg (show ¬ kOk s from h)]⟩⟩
  unfold ReadsL at HR
  generalize (decL s.data.toList).val [] = l at *
  generalize (decL s.data.toList).len = n at *
  generalize (decL s.data.toList).e = x at *
  have hy := hx l n x rfl rfl rfl
  have HR := Lib.hid HR
  by_cases h1 : x = 0
  · by_cases h2 : n = s.size
    · by_cases h3 : vcE l = 0
      · obtain ⟨e1, e2⟩ := hy.1 ⟨h1, h2, h3⟩
        rw [e1, e2]
        have H3 := Lib.hid h3
        clear hx hy e1 e2 h3
        subst h1
        subst h2
        go_enter Try.func24, Try.ntmps24
        go_wp2_with fail
        refine HR.out.mono ?_
        rintro e w4 ⟨a, c, rfl, hI, hb⟩
        have hc := rCheck_any w4.heap.size a c l w4 hI (by omega)
        rw [H3.out] at hc
        have HC := Lib.hid hc
        have HI := Lib.hid hI
        have HB := Lib.hid hb
        clear hc hI hb
        go_wp2_with fail
        refine HC.out.mono ?_
        rintro e w5 ⟨rfl, rfl⟩
        go_wp2
        go_ret2
        exact ⟨_, rfl, ⟨a, c, rfl, HI.out, by omega⟩, HB.out⟩
      · obtain ⟨e1, e2⟩ := hy.2 (fun h => h3 h.2.2)
        rw [e1, e2]
        have h3b : (vcE l != 0) = true := by simpa using h3
        clear hx hy e1 e2 h3
        subst h1
        subst h2
        go_enter Try.func24, Try.ntmps24
        go_wp2_with fail
        refine HR.out.mono ?_
        rintro e w4 ⟨a, c, rfl, hI, hb⟩
        have HC := Lib.hid (rCheck_any w4.heap.size a c l w4 hI (by omega))
        have HB := Lib.hid hb
        clear hI hb
        generalize vcE l = y at *
        go_wp2_with fail
        refine HC.out.mono ?_
        rintro e w5 ⟨rfl, rfl⟩
        go_wp2
        go_ret2
        exact ⟨_, rfl, KlC.nil _ _ _, HB.out.alloc HB.out.size _⟩
    · obtain ⟨e1, e2⟩ := hy.2 (fun h => h2 h.2.1)
      rw [e1, e2]
      have h2b : ((n : Int) != (s.size : Int)) = true := by rw [bne_iff_ne]; omega
      clear hx hy e1 e2 h2
      subst h1
      go_enter Try.func24, Try.ntmps24
      go_wp2_with fail
      refine HR.out.mono ?_
      rintro e w4 ⟨a, c, rfl, hI, hb⟩
      have HB := Lib.hid hb
      clear hI hb
      go_wp2
      go_ret2
      exact ⟨_, rfl, KlC.nil _ _ _, HB.out.alloc HB.out.size _⟩
  · obtain ⟨e1, e2⟩ := hy.2 (fun h => h1 h.1)
    rw [e1, e2]
    have h1b : (x != 0) = true := by simpa using h1
    clear hx hy e1 e2 h1
    go_enter Try.func24, Try.ntmps24
    go_wp2_with fail
    refine HR.out.mono ?_
    rintro e w4 ⟨a, c, rfl, hI, hb⟩
    have HB := Lib.hid hb
    clear hI hb
    go_wp2
    go_ret2
    exact ⟨_, rfl, KlC.nil _ _ _, HB.out.alloc HB.out.size _⟩
theorem rEncode_at (u : Value) (zs : List Int) (w : World) (h : KlC w u zs) :
    Calls Try.prog 22 #[u] w fun e w' => e = .returned (.tuple #[.string (strOf (kencL zs)), .int .i64 (kencE zs)]) ∧ Below w.heap.size w w' := by
  obtain ⟨a, c, rfl, h1, l1⟩ := h
  exact rEncode_any a c zs w h1 l1

end Go.Proofs.Ytpkmdonejmbnoaa
