/-
  DERIVED. GIVEN WITH THE SEED: THE CARDS: each row of YtjafbmfcedijmaaGreatDoorRows.lean that lists a variable, with what it lists TIED to the program's text (the seventh form; the later family's looks); each row that meets fmt, with fmt's text TOLD by the authors' own Lean function (tested against real Go, not proved from fmt's source: count such statements apart). THE CARD IS WHAT COUNTS. Prove the row's statement (the work); the ties are given (YtjafbmfcedijmaaGreatDoorTie.lean); close each card by the builder's one call (the guide's Derived/Test/ToyasCard.lean, 'card_holds'). Laid BY PROGRAM, IN A SANDBOX (cutbox-door.mjs). By AI agents, Wed Nov 11 2026. No macro, syntax, notation, axiom, sorry.
-/
import Derived.Test.YtjafbmfcedijmaaGreatDoorRows
import GoSem.ClaimSeven
namespace Go.Proofs.YtjafbmfcedijmaaGreatDoor
namespace Rows

/-- THE TIED CARD OF 'breadboardlaw14.FlowKinds'. -/
def flowKindsCard : Claim7 := { stood := { row := flowKindsRow, standIns := [], harness := (true, "fab49b2a0f9317080068dbe3b2c341e358287a7ca26c728370b65c311b1a1b93"), looks := true }, kinds := [], alts := [], laidByText := true, laidKinds := [.data, .pinned], laidTests := true, laidLooks := .later }
def FlowKindsCardSaid : Prop := Claim7.holds Tryz.pinned (.plain (OpenSpec.ofChange flowKindsSpec)) flowKindsCard

/-- THE TIED CARD OF 'breadboardlaw14.FlowReach'. -/
def flowReachCard : Claim7 := { stood := { row := flowReachRow, standIns := [], harness := (true, "fab49b2a0f9317080068dbe3b2c341e358287a7ca26c728370b65c311b1a1b93"), looks := true }, kinds := [], alts := [], laidByText := true, laidKinds := [.data, .pinned], laidTests := true, laidLooks := .later }
def FlowReachCardSaid : Prop := Claim7.holds Tryz.pinned (.plain (OpenSpec.ofChange flowReachSpec)) flowReachCard

/-- THE TIED CARD OF 'breadboardlaw14.FlowClosed'. -/
def flowClosedCard : Claim7 := { stood := { row := flowClosedRow, standIns := [], harness := (true, "fab49b2a0f9317080068dbe3b2c341e358287a7ca26c728370b65c311b1a1b93"), looks := true }, kinds := [], alts := [], laidByText := true, laidKinds := [.data, .pinned], laidTests := true, laidLooks := .later }
def FlowClosedCardSaid : Prop := Claim7.holds Tryz.pinned (.plain (OpenSpec.ofChange flowClosedSpec)) flowClosedCard

/-- THE TIED CARD OF 'breadboardlaw15.ShowDecoded'. -/
def showDecodedCard : Claim7 := { stood := { row := showDecodedRow, standIns := [], harness := (true, "fab49b2a0f9317080068dbe3b2c341e358287a7ca26c728370b65c311b1a1b93"), looks := true }, kinds := [], alts := [], laidByText := true, laidKinds := [.data, .pinned], laidTests := true, laidLooks := .later }
def ShowDecodedCardSaid : Prop := Claim7.holds Tryz.pinned (.plain (OpenSpec.ofChange showDecodedSpec)) showDecodedCard

/-- THE SECOND FORM's CARD OF 'breadboardlaw14.FlowKinds'. -/
def flowKindsUptoCard : Claim7 := { stood := { row := flowKindsUptoRow, standIns := [], harness := (true, "fab49b2a0f9317080068dbe3b2c341e358287a7ca26c728370b65c311b1a1b93"), looks := true }, kinds := [], alts := [], laidByText := true, laidKinds := [.data, .pinned], laidTests := true, laidLooks := .later }
def FlowKindsUptoCardSaid : Prop := Claim7.holds Tryz.pinned (.plain (OpenSpec.upto flowKindsSpec)) flowKindsUptoCard

/-- THE SECOND FORM's CARD OF 'breadboardlaw14.FlowReach'. -/
def flowReachUptoCard : Claim7 := { stood := { row := flowReachUptoRow, standIns := [], harness := (true, "fab49b2a0f9317080068dbe3b2c341e358287a7ca26c728370b65c311b1a1b93"), looks := true }, kinds := [], alts := [], laidByText := true, laidKinds := [.data, .pinned], laidTests := true, laidLooks := .later }
def FlowReachUptoCardSaid : Prop := Claim7.holds Tryz.pinned (.plain (OpenSpec.upto flowReachSpec)) flowReachUptoCard

/-- THE SECOND FORM's CARD OF 'breadboardlaw14.FlowClosed'. -/
def flowClosedUptoCard : Claim7 := { stood := { row := flowClosedUptoRow, standIns := [], harness := (true, "fab49b2a0f9317080068dbe3b2c341e358287a7ca26c728370b65c311b1a1b93"), looks := true }, kinds := [], alts := [], laidByText := true, laidKinds := [.data, .pinned], laidTests := true, laidLooks := .later }
def FlowClosedUptoCardSaid : Prop := Claim7.holds Tryz.pinned (.plain (OpenSpec.upto flowClosedSpec)) flowClosedUptoCard

/-- THE SECOND FORM's CARD OF 'breadboardlaw15.ShowDecoded'. -/
def showDecodedUptoCard : Claim7 := { stood := { row := showDecodedUptoRow, standIns := [], harness := (true, "fab49b2a0f9317080068dbe3b2c341e358287a7ca26c728370b65c311b1a1b93"), looks := true }, kinds := [], alts := [], laidByText := true, laidKinds := [.data, .pinned], laidTests := true, laidLooks := .later }
def ShowDecodedUptoCardSaid : Prop := Claim7.holds Tryz.pinned (.plain (OpenSpec.upto showDecodedSpec)) showDecodedUptoCard
end Rows
end Go.Proofs.YtjafbmfcedijmaaGreatDoor
