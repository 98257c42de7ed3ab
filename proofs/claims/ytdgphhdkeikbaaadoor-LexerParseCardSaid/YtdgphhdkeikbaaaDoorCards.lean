/-
  DERIVED. GIVEN WITH THE SEED: THE CARDS: each row of YtdgphhdkeikbaaaDoorRows.lean that lists a variable, with what it lists TIED to the program's text (the seventh form; the later family's looks); each row that meets fmt, with fmt's text TOLD by the authors' own Lean function (tested against real Go, not proved from fmt's source: count such statements apart). THE CARD IS WHAT COUNTS. Prove the row's statement (the work); the ties are given (YtdgphhdkeikbaaaDoorTie.lean); close each card by the builder's one call (the guide's Derived/Test/ToyasCard.lean, 'card_holds'). Laid BY PROGRAM, IN A SANDBOX (cutbox-door.mjs). By AI agents, Wed Nov 11 2026. No macro, syntax, notation, axiom, sorry.
-/
import Derived.Test.YtdgphhdkeikbaaaDoorRows
import GoSem.ClaimSeven
namespace Go.Proofs.YtdgphhdkeikbaaaDoor
namespace Rows

/-- THE TIED CARD OF 'nurserylaw10.LexerExpr'. -/
def lexerExprCard : Claim7 := { stood := { row := lexerExprRow, standIns := [], harness := (true, "95b9a3e0beac20c85df65656fd31c8abbd4a65253707cc72b4a8cc4cd8ea1f5e"), looks := true }, kinds := [], alts := [], laidByText := true, laidKinds := [.data, .data, .data, .sentinel, .sentinel, .data], laidTests := true, laidLooks := .later }
def LexerExprCardSaid : Prop := Claim7.holds Tryd.pinned (.plain (OpenSpec.ofChange lexerExprSpec)) lexerExprCard

/-- THE TIED CARD OF 'nurserylaw10.LexerParse'. -/
def lexerParseCard : Claim7 := { stood := { row := lexerParseRow, standIns := [], harness := (true, "95b9a3e0beac20c85df65656fd31c8abbd4a65253707cc72b4a8cc4cd8ea1f5e"), looks := true }, kinds := [], alts := [], laidByText := true, laidKinds := [.data, .data, .data, .sentinel, .sentinel, .data], laidTests := true, laidLooks := .later }
def LexerParseCardSaid : Prop := Claim7.holds Tryd.pinned (.plain (OpenSpec.ofChange lexerParseSpec)) lexerParseCard

/-- THE TIED CARD OF 'nurserylaw10.LexerOffsets'. -/
def lexerOffsetsCard : Claim7 := { stood := { row := lexerOffsetsRow, standIns := [], harness := (true, "95b9a3e0beac20c85df65656fd31c8abbd4a65253707cc72b4a8cc4cd8ea1f5e"), looks := true }, kinds := [], alts := [], laidByText := true, laidKinds := [.data, .data, .data, .sentinel, .sentinel, .data], laidTests := true, laidLooks := .later }
def LexerOffsetsCardSaid : Prop := Claim7.holds Tryd.pinned (.plain (OpenSpec.ofChange lexerOffsetsSpec)) lexerOffsetsCard

/-- THE TIED CARD OF 'nurserylaw10.LexerSpaces'. -/
def lexerSpacesCard : Claim7 := { stood := { row := lexerSpacesRow, standIns := [], harness := (true, "95b9a3e0beac20c85df65656fd31c8abbd4a65253707cc72b4a8cc4cd8ea1f5e"), looks := true }, kinds := [], alts := [], laidByText := true, laidKinds := [.data, .data, .data, .sentinel, .sentinel, .data], laidTests := true, laidLooks := .later }
def LexerSpacesCardSaid : Prop := Claim7.holds Tryd.pinned (.plain (OpenSpec.ofChange lexerSpacesSpec)) lexerSpacesCard

/-- THE TIED CARD OF 'nurserylaw10.LexerErrors'. -/
def lexerErrorsCard : Claim7 := { stood := { row := lexerErrorsRow, standIns := [], harness := (true, "95b9a3e0beac20c85df65656fd31c8abbd4a65253707cc72b4a8cc4cd8ea1f5e"), looks := true }, kinds := [], alts := [], laidByText := true, laidKinds := [.data, .data, .data, .sentinel, .sentinel, .data], laidTests := true, laidLooks := .later }
def LexerErrorsCardSaid : Prop := Claim7.holds Tryd.pinned (.plain (OpenSpec.ofChange lexerErrorsSpec)) lexerErrorsCard

/-- THE TIED CARD OF 'nurserylaw10.LexerPositions'. -/
def lexerPositionsCard : Claim7 := { stood := { row := lexerPositionsRow, standIns := [], harness := (true, "95b9a3e0beac20c85df65656fd31c8abbd4a65253707cc72b4a8cc4cd8ea1f5e"), looks := true }, kinds := [], alts := [], laidByText := true, laidKinds := [.data, .data, .data, .sentinel, .sentinel, .data], laidTests := true, laidLooks := .later }
def LexerPositionsCardSaid : Prop := Claim7.holds Tryd.pinned (.plain (OpenSpec.ofChange lexerPositionsSpec)) lexerPositionsCard

/-- THE TIED CARD OF 'nurserylaw10.LexerParentheses'. -/
def lexerParenthesesCard : Claim7 := { stood := { row := lexerParenthesesRow, standIns := [], harness := (true, "95b9a3e0beac20c85df65656fd31c8abbd4a65253707cc72b4a8cc4cd8ea1f5e"), looks := true }, kinds := [], alts := [], laidByText := true, laidKinds := [.data, .data, .data, .sentinel, .sentinel, .data], laidTests := true, laidLooks := .later }
def LexerParenthesesCardSaid : Prop := Claim7.holds Tryd.pinned (.plain (OpenSpec.ofChange lexerParenthesesSpec)) lexerParenthesesCard

/-- THE TIED CARD OF 'nurserylaw10.LexerGrouping'. -/
def lexerGroupingCard : Claim7 := { stood := { row := lexerGroupingRow, standIns := [], harness := (true, "95b9a3e0beac20c85df65656fd31c8abbd4a65253707cc72b4a8cc4cd8ea1f5e"), looks := true }, kinds := [], alts := [], laidByText := true, laidKinds := [.data, .data, .data, .sentinel, .sentinel, .data], laidTests := true, laidLooks := .later }
def LexerGroupingCardSaid : Prop := Claim7.holds Tryd.pinned (.plain (OpenSpec.ofChange lexerGroupingSpec)) lexerGroupingCard

/-- THE SECOND FORM's CARD OF 'nurserylaw10.LexerExpr'. -/
def lexerExprUptoCard : Claim7 := { stood := { row := lexerExprUptoRow, standIns := [], harness := (true, "95b9a3e0beac20c85df65656fd31c8abbd4a65253707cc72b4a8cc4cd8ea1f5e"), looks := true }, kinds := [], alts := [], laidByText := true, laidKinds := [.data, .data, .data, .sentinel, .sentinel, .data], laidTests := true, laidLooks := .later }
def LexerExprUptoCardSaid : Prop := Claim7.holds Tryd.pinned (.plain (OpenSpec.upto lexerExprSpec)) lexerExprUptoCard

/-- THE SECOND FORM's CARD OF 'nurserylaw10.LexerParse'. -/
def lexerParseUptoCard : Claim7 := { stood := { row := lexerParseUptoRow, standIns := [], harness := (true, "95b9a3e0beac20c85df65656fd31c8abbd4a65253707cc72b4a8cc4cd8ea1f5e"), looks := true }, kinds := [], alts := [], laidByText := true, laidKinds := [.data, .data, .data, .sentinel, .sentinel, .data], laidTests := true, laidLooks := .later }
def LexerParseUptoCardSaid : Prop := Claim7.holds Tryd.pinned (.plain (OpenSpec.upto lexerParseSpec)) lexerParseUptoCard

/-- THE SECOND FORM's CARD OF 'nurserylaw10.LexerOffsets'. -/
def lexerOffsetsUptoCard : Claim7 := { stood := { row := lexerOffsetsUptoRow, standIns := [], harness := (true, "95b9a3e0beac20c85df65656fd31c8abbd4a65253707cc72b4a8cc4cd8ea1f5e"), looks := true }, kinds := [], alts := [], laidByText := true, laidKinds := [.data, .data, .data, .sentinel, .sentinel, .data], laidTests := true, laidLooks := .later }
def LexerOffsetsUptoCardSaid : Prop := Claim7.holds Tryd.pinned (.plain (OpenSpec.upto lexerOffsetsSpec)) lexerOffsetsUptoCard

/-- THE SECOND FORM's CARD OF 'nurserylaw10.LexerSpaces'. -/
def lexerSpacesUptoCard : Claim7 := { stood := { row := lexerSpacesUptoRow, standIns := [], harness := (true, "95b9a3e0beac20c85df65656fd31c8abbd4a65253707cc72b4a8cc4cd8ea1f5e"), looks := true }, kinds := [], alts := [], laidByText := true, laidKinds := [.data, .data, .data, .sentinel, .sentinel, .data], laidTests := true, laidLooks := .later }
def LexerSpacesUptoCardSaid : Prop := Claim7.holds Tryd.pinned (.plain (OpenSpec.upto lexerSpacesSpec)) lexerSpacesUptoCard

/-- THE SECOND FORM's CARD OF 'nurserylaw10.LexerErrors'. -/
def lexerErrorsUptoCard : Claim7 := { stood := { row := lexerErrorsUptoRow, standIns := [], harness := (true, "95b9a3e0beac20c85df65656fd31c8abbd4a65253707cc72b4a8cc4cd8ea1f5e"), looks := true }, kinds := [], alts := [], laidByText := true, laidKinds := [.data, .data, .data, .sentinel, .sentinel, .data], laidTests := true, laidLooks := .later }
def LexerErrorsUptoCardSaid : Prop := Claim7.holds Tryd.pinned (.plain (OpenSpec.upto lexerErrorsSpec)) lexerErrorsUptoCard

/-- THE SECOND FORM's CARD OF 'nurserylaw10.LexerPositions'. -/
def lexerPositionsUptoCard : Claim7 := { stood := { row := lexerPositionsUptoRow, standIns := [], harness := (true, "95b9a3e0beac20c85df65656fd31c8abbd4a65253707cc72b4a8cc4cd8ea1f5e"), looks := true }, kinds := [], alts := [], laidByText := true, laidKinds := [.data, .data, .data, .sentinel, .sentinel, .data], laidTests := true, laidLooks := .later }
def LexerPositionsUptoCardSaid : Prop := Claim7.holds Tryd.pinned (.plain (OpenSpec.upto lexerPositionsSpec)) lexerPositionsUptoCard

/-- THE SECOND FORM's CARD OF 'nurserylaw10.LexerParentheses'. -/
def lexerParenthesesUptoCard : Claim7 := { stood := { row := lexerParenthesesUptoRow, standIns := [], harness := (true, "95b9a3e0beac20c85df65656fd31c8abbd4a65253707cc72b4a8cc4cd8ea1f5e"), looks := true }, kinds := [], alts := [], laidByText := true, laidKinds := [.data, .data, .data, .sentinel, .sentinel, .data], laidTests := true, laidLooks := .later }
def LexerParenthesesUptoCardSaid : Prop := Claim7.holds Tryd.pinned (.plain (OpenSpec.upto lexerParenthesesSpec)) lexerParenthesesUptoCard

/-- THE SECOND FORM's CARD OF 'nurserylaw10.LexerGrouping'. -/
def lexerGroupingUptoCard : Claim7 := { stood := { row := lexerGroupingUptoRow, standIns := [], harness := (true, "95b9a3e0beac20c85df65656fd31c8abbd4a65253707cc72b4a8cc4cd8ea1f5e"), looks := true }, kinds := [], alts := [], laidByText := true, laidKinds := [.data, .data, .data, .sentinel, .sentinel, .data], laidTests := true, laidLooks := .later }
def LexerGroupingUptoCardSaid : Prop := Claim7.holds Tryd.pinned (.plain (OpenSpec.upto lexerGroupingSpec)) lexerGroupingUptoCard
end Rows
end Go.Proofs.YtdgphhdkeikbaaaDoor
