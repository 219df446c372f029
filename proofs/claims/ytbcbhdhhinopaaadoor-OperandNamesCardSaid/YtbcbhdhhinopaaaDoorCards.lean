/-
  DERIVED. GIVEN WITH THE SEED: THE CARDS: each row of YtbcbhdhhinopaaaDoorRows.lean that lists a variable, with what it lists TIED to the program's text (the seventh form; the later family's looks); each row that meets fmt, with fmt's text TOLD by the authors' own Lean function (tested against real Go, not proved from fmt's source: count such statements apart). THE CARD IS WHAT COUNTS. Prove the row's statement (the work); the ties are given (YtbcbhdhhinopaaaDoorTie.lean); close each card by the builder's one call (the guide's Derived/Test/ToyasCard.lean, 'card_holds'). Laid BY PROGRAM, IN A SANDBOX (cutbox-door.mjs). By AI agents, Wed Nov 11 2026. No macro, syntax, notation, axiom, sorry.
-/
import Derived.Test.YtbcbhdhhinopaaaDoorRows
import GoSem.ClaimSeven
namespace Go.Proofs.YtbcbhdhhinopaaaDoor
namespace Rows

/-- THE TIED CARD OF 'breadboardlaw06.OperandTexts'. -/
def operandTextsCard : Claim7 := { stood := { row := operandTextsRow, standIns := [], harness := (true, "1ff44bbae7d0b0eb96de0ef13be45dc6c64a08f786bfd3636f55d4d94e2db637"), looks := false }, kinds := [], alts := [], laidByText := true, laidKinds := [.data, .pinned], laidTests := true, laidLooks := .later }
def OperandTextsCardSaid : Prop := Claim7.holds Tryd.pinned (.plain (OpenSpec.ofChange operandTextsSpec)) operandTextsCard

/-- THE TIED CARD OF 'breadboardlaw06.OperandNames'. -/
def operandNamesCard : Claim7 := { stood := { row := operandNamesRow, standIns := [], harness := (true, "1ff44bbae7d0b0eb96de0ef13be45dc6c64a08f786bfd3636f55d4d94e2db637"), looks := false }, kinds := [], alts := [], laidByText := true, laidKinds := [.data, .pinned], laidTests := true, laidLooks := .later }
def OperandNamesCardSaid : Prop := Claim7.holds Tryd.pinned (.plain (OpenSpec.ofChange operandNamesSpec)) operandNamesCard

/-- THE TIED CARD OF 'breadboardlaw06.OperandOnce'. -/
def operandOnceCard : Claim7 := { stood := { row := operandOnceRow, standIns := [], harness := (true, "1ff44bbae7d0b0eb96de0ef13be45dc6c64a08f786bfd3636f55d4d94e2db637"), looks := false }, kinds := [], alts := [], laidByText := true, laidKinds := [.data, .pinned], laidTests := true, laidLooks := .later }
def OperandOnceCardSaid : Prop := Claim7.holds Tryd.pinned (.plain (OpenSpec.ofChange operandOnceSpec)) operandOnceCard

/-- THE TIED CARD OF 'breadboardlaw06.OperandLists'. -/
def operandListsCard : Claim7 := { stood := { row := operandListsRow, standIns := [], harness := (true, "1ff44bbae7d0b0eb96de0ef13be45dc6c64a08f786bfd3636f55d4d94e2db637"), looks := false }, kinds := [], alts := [], laidByText := true, laidKinds := [.data, .pinned], laidTests := true, laidLooks := .later }
def OperandListsCardSaid : Prop := Claim7.holds Tryd.pinned (.plain (OpenSpec.ofChange operandListsSpec)) operandListsCard

/-- THE TIED CARD OF 'breadboardlaw06.OperandIndexes'. -/
def operandIndexesCard : Claim7 := { stood := { row := operandIndexesRow, standIns := [], harness := (true, "1ff44bbae7d0b0eb96de0ef13be45dc6c64a08f786bfd3636f55d4d94e2db637"), looks := false }, kinds := [], alts := [], laidByText := true, laidKinds := [.data, .pinned], laidTests := true, laidLooks := .later }
def OperandIndexesCardSaid : Prop := Claim7.holds Tryd.pinned (.plain (OpenSpec.ofChange operandIndexesSpec)) operandIndexesCard

/-- THE SECOND FORM's CARD OF 'breadboardlaw06.OperandTexts'. -/
def operandTextsUptoCard : Claim7 := { stood := { row := operandTextsUptoRow, standIns := [], harness := (true, "1ff44bbae7d0b0eb96de0ef13be45dc6c64a08f786bfd3636f55d4d94e2db637"), looks := false }, kinds := [], alts := [], laidByText := true, laidKinds := [.data, .pinned], laidTests := true, laidLooks := .later }
def OperandTextsUptoCardSaid : Prop := Claim7.holds Tryd.pinned (.plain (OpenSpec.upto operandTextsSpec)) operandTextsUptoCard

/-- THE SECOND FORM's CARD OF 'breadboardlaw06.OperandNames'. -/
def operandNamesUptoCard : Claim7 := { stood := { row := operandNamesUptoRow, standIns := [], harness := (true, "1ff44bbae7d0b0eb96de0ef13be45dc6c64a08f786bfd3636f55d4d94e2db637"), looks := false }, kinds := [], alts := [], laidByText := true, laidKinds := [.data, .pinned], laidTests := true, laidLooks := .later }
def OperandNamesUptoCardSaid : Prop := Claim7.holds Tryd.pinned (.plain (OpenSpec.upto operandNamesSpec)) operandNamesUptoCard

/-- THE SECOND FORM's CARD OF 'breadboardlaw06.OperandOnce'. -/
def operandOnceUptoCard : Claim7 := { stood := { row := operandOnceUptoRow, standIns := [], harness := (true, "1ff44bbae7d0b0eb96de0ef13be45dc6c64a08f786bfd3636f55d4d94e2db637"), looks := false }, kinds := [], alts := [], laidByText := true, laidKinds := [.data, .pinned], laidTests := true, laidLooks := .later }
def OperandOnceUptoCardSaid : Prop := Claim7.holds Tryd.pinned (.plain (OpenSpec.upto operandOnceSpec)) operandOnceUptoCard

/-- THE SECOND FORM's CARD OF 'breadboardlaw06.OperandLists'. -/
def operandListsUptoCard : Claim7 := { stood := { row := operandListsUptoRow, standIns := [], harness := (true, "1ff44bbae7d0b0eb96de0ef13be45dc6c64a08f786bfd3636f55d4d94e2db637"), looks := false }, kinds := [], alts := [], laidByText := true, laidKinds := [.data, .pinned], laidTests := true, laidLooks := .later }
def OperandListsUptoCardSaid : Prop := Claim7.holds Tryd.pinned (.plain (OpenSpec.upto operandListsSpec)) operandListsUptoCard

/-- THE SECOND FORM's CARD OF 'breadboardlaw06.OperandIndexes'. -/
def operandIndexesUptoCard : Claim7 := { stood := { row := operandIndexesUptoRow, standIns := [], harness := (true, "1ff44bbae7d0b0eb96de0ef13be45dc6c64a08f786bfd3636f55d4d94e2db637"), looks := false }, kinds := [], alts := [], laidByText := true, laidKinds := [.data, .pinned], laidTests := true, laidLooks := .later }
def OperandIndexesUptoCardSaid : Prop := Claim7.holds Tryd.pinned (.plain (OpenSpec.upto operandIndexesSpec)) operandIndexesUptoCard
end Rows
end Go.Proofs.YtbcbhdhhinopaaaDoor
