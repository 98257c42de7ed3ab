/-
  What the rows' list of variables gives.
-/
import Derived.Lib.LaidTab
import Derived.LaidMore
import Derived.LaidHandle
import Derived.MakeChecks
import Derived.Stop.LaidErr
import Derived.Test.YtdgphhdkeikbaaaDoorLxTokens
import Derived.Test.YtdgphhdkeikbaaaDoorLxRd2
import Derived.Test.YtdgphhdkeikbaaaDoorCards
namespace Go.Proofs.YtdgphhdkeikbaaaDoor
set_option linter.unusedSimpArgs false
set_option linter.unusedVariables false
open Go.RowKit

/-- An array of strings as a row lists it. -/
def strData {H : Type} (zs : List LBy) : DataW H := .agg (zs.map fun z => .lit (.string z))
theorem cells_of_strs {H : Type} {enc : TypeId × Value → H} {P : Program} {w : World} {base : Nat} {sp : Nat → Bool} {held : Bool} {fuel : Nat} {t e : TypeId} {n : Nat} {cs : List Value} {zs : List LBy} {p : List MemPlace}
    (ht : P.underlying t = some (.array n e)) (he : P.underlying e = some .string) (hce : P.cellsOf e = 1) (hct : P.cellsOf t = n)
    (h : DataW.trod enc P w base sp held fuel t cs = some (strData zs, p)) : cs = zs.map fun z => Value.string (bB z) := by
  cases fuel with
  | zero => simp [DataW.trod] at h
  | succ fuel =>
    simp only [DataW.trod, ht, hce, hct, Nat.mul_one] at h
    split at h
    · rename_i hl
      obtain ⟨xs, hm, hx⟩ := Option.map_eq_some_iff.1 h
      have hxs : xs.map (·.1) = zs.map fun z => (DataW.lit (.string z) : DataW H) := by
        have := congrArg Prod.fst hx
        simpa [strData] using this
      have hxl : xs.length = n := by simpa using Lib.mapM_length hm
      have hzl : zs.length = n := by
        have := congrArg List.length hxs
        simp at this
        omega
      apply List.ext_getElem?
      intro i
      by_cases hi : i < n
      · obtain ⟨b, hb, hf⟩ := Lib.mapM_at hm i i (by simp [hi])
        obtain ⟨z, hc, hd, _⟩ := DataW.trod_string he hf
        have h1 : cs[i]? = some (.string z) := by
          have := congrArg (·[0]?) hc
          simpa [List.getElem?_take, List.getElem?_drop] using this
        have h2 : (xs.map (·.1))[i]? = some b.1 := by simp [hb]
        rw [hxs] at h2
        have hz : i < zs.length := by omega
        rw [List.getElem?_map, List.getElem?_eq_getElem hz] at h2
        rw [hd] at h2
        simp only [Option.map_some, Option.some.injEq, DataW.lit.injEq, Lit.string.injEq] at h2
        rw [h1, List.getElem?_map, List.getElem?_eq_getElem hz, h2]
        rfl
      · rw [List.getElem?_eq_none (by omega), List.getElem?_eq_none (by simp; omega)]
    · cases h
theorem gSigns : Tryd.prog.globalNamed "nursery/lexer.signs" = some 0 := by kernel_rfl
theorem gSignsType : (Tryd.prog.globals[0]?).map (·.type) = some 106 := by kernel_rfl
theorem cellsSigns : Tryd.prog.cellsOf 106 = 21 := by kernel_rfl
theorem cellsStr : Tryd.prog.cellsOf 9 = 1 := by kernel_rfl
theorem sgV_of {W : World} {rest : List (String × DataW Unit)} (h : laidMet Tryd.prog (("nursery/lexer.signs", strData signL) :: rest) W) : SgV W := by
  obtain ⟨ps, ⟨g', t', cs, fuel, p, q, hg', ht', hvar, hd, _, _⟩, _⟩ := h
  obtain rfl := Option.some.inj (gSigns.symm.trans hg')
  obtain rfl := Option.some.inj (gSignsType.symm.trans ht')
  have hc := cells_of_strs Tryd.underlying106 Tryd.underlying9 cellsStr cellsSigns hd
  have hcs : cs = sgVs := by
    apply Array.toList_inj.1
    rw [hc]
    rfl
  unfold World.var? at hvar
  rw [gSigns] at hvar
  simp only [Option.bind_some] at hvar
  unfold SgV
  cases hh : W.heap[0]? with
  | none => rw [hh] at hvar; cases hvar
  | some o =>
    rw [hh] at hvar
    cases o with
    | cells cs' ty fz =>
      simp only [Option.some.injEq] at hvar
      exact ⟨ty, fz, by rw [hvar, hcs]⟩
    | _ => cases hvar
theorem gErr : Tryd.prog.globalNamed "strconv.ErrRange" = some 3 := by kernel_rfl
theorem gErrType : (Tryd.prog.globals[3]?).map (·.type) = some 45 := by kernel_rfl
theorem errStar : "*" ++ "errors.errorString" = "*errors.errorString" := by decide
theorem errRow (u : TypeId) (h : Tryd.prog.typeName? 3 u = some "*errors.errorString") : u = 132 :=
  typeName_ptr_named (nm := "errors.errorString") (by rw [errStar]; kernel_rfl) (by kernel_rfl) (by decide) u (by rw [errStar]; exact h)
theorem cellsErr : Tryd.prog.cellsOf 134 = 1 := by kernel_rfl
theorem erV_of {W : World} {text : LBy} {rest : List (String × DataW Unit)} (h : laidMet Tryd.prog (("strconv.ErrRange", .iface "*errors.errorString" (.ptr (.agg [.lit (.string text)]))) :: rest) W) : ErV W := by
  obtain ⟨a, s, hv, _⟩ := laid_sentinel h gErr gErrType Tryd.underlying45 errRow Tryd.underlying132 Tryd.underlying134 rfl rfl Tryd.underlying9 cellsErr cellsStr
  exact ⟨_, _, World.var?_cell gErr hv 0⟩
theorem gTab : Tryd.prog.globalNamed "internal/strconv.uint64pow10" = some 4 := by kernel_rfl
theorem gTabType : (Tryd.prog.globals[4]?).map (·.type) = some 141 := by kernel_rfl
theorem cellsT : Tryd.prog.cellsOf 141 = 20 := by kernel_rfl
theorem cellsE : Tryd.prog.cellsOf 123 = 1 := by kernel_rfl
theorem known_of {W : World} (h : laidMet Tryd.prog (("math/bits.deBruijn32tab", Rows.laid_math_bits_deBruijn32tab) :: ("math/bits.deBruijn64tab", Rows.laid_math_bits_deBruijn64tab) :: ("internal/strconv.uint64pow10", Lib.tabData .u64 Lib.pow10Tab) :: ("strconv.ErrRange", Rows.laid_strconv_ErrRange) :: ("strconv.ErrSyntax", Rows.laid_strconv_ErrSyntax) :: ("nursery/lexer.signs", strData signL) :: []) W) : LxV W ∧ TabJ W := by
  have h2 := laidMet.tail (laidMet.tail h)
  have h3 := laidMet.tail h2
  exact ⟨⟨erV_of h3, sgV_of (laidMet.tail (laidMet.tail h3))⟩, Lib.tabIs_of_head (rest := _) gTab gTabType Tryd.underlying141 Tryd.underlying123 cellsE cellsT h2⟩
end Go.Proofs.YtdgphhdkeikbaaaDoor
