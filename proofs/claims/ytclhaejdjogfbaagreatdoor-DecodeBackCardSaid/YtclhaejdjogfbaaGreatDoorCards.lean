/-
  DERIVED. GIVEN WITH THE SEED: THE CARDS: each row of YtclhaejdjogfbaaGreatDoorRows.lean that lists a variable, with what it lists TIED to the program's text (the seventh form; the later family's looks); each row that meets fmt, with fmt's text TOLD by the authors' own Lean function (tested against real Go, not proved from fmt's source: count such statements apart). THE CARD IS WHAT COUNTS. Prove the row's statement (the work); the ties are given (YtclhaejdjogfbaaGreatDoorTie.lean); close each card by the builder's one call (the guide's Derived/Test/ToyasCard.lean, 'card_holds'). Laid BY PROGRAM, IN A SANDBOX (cutbox-door.mjs). By AI agents, Wed Nov 11 2026. No macro, syntax, notation, axiom, sorry.
-/
import Derived.Test.YtclhaejdjogfbaaGreatDoorRows
import GoSem.ClaimSeven
namespace Go.Proofs.YtclhaejdjogfbaaGreatDoor
namespace Rows

/-- THE TIED CARD OF 'breadboardlaw12.DecodeInverse'. -/
def decodeInverseCard : Claim7 := { stood := { row := decodeInverseRow, standIns := [], harness := (true, "2cd2820191fb8377e10111963917666d3738cb347b2fe74d9312b64f04944989"), looks := true }, kinds := [], alts := [], laidByText := true, laidKinds := [.data, .pinned], laidTests := true, laidLooks := .later }
def DecodeInverseCardSaid : Prop := Claim7.holds Tryz.pinned (.plain (OpenSpec.ofChange decodeInverseSpec)) decodeInverseCard

/-- THE TIED CARD OF 'breadboardlaw12.DecodeBack'. -/
def decodeBackCard : Claim7 := { stood := { row := decodeBackRow, standIns := [], harness := (true, "2cd2820191fb8377e10111963917666d3738cb347b2fe74d9312b64f04944989"), looks := true }, kinds := [], alts := [], laidByText := true, laidKinds := [.data, .pinned], laidTests := true, laidLooks := .later }
def DecodeBackCardSaid : Prop := Claim7.holds Tryz.pinned (.plain (OpenSpec.ofChange decodeBackSpec)) decodeBackCard

/-- THE SECOND FORM's CARD OF 'breadboardlaw12.DecodeInverse'. -/
def decodeInverseUptoCard : Claim7 := { stood := { row := decodeInverseUptoRow, standIns := [], harness := (true, "2cd2820191fb8377e10111963917666d3738cb347b2fe74d9312b64f04944989"), looks := true }, kinds := [], alts := [], laidByText := true, laidKinds := [.data, .pinned], laidTests := true, laidLooks := .later }
def DecodeInverseUptoCardSaid : Prop := Claim7.holds Tryz.pinned (.plain (OpenSpec.upto decodeInverseSpec)) decodeInverseUptoCard

/-- THE SECOND FORM's CARD OF 'breadboardlaw12.DecodeBack'. -/
def decodeBackUptoCard : Claim7 := { stood := { row := decodeBackUptoRow, standIns := [], harness := (true, "2cd2820191fb8377e10111963917666d3738cb347b2fe74d9312b64f04944989"), looks := true }, kinds := [], alts := [], laidByText := true, laidKinds := [.data, .pinned], laidTests := true, laidLooks := .later }
def DecodeBackUptoCardSaid : Prop := Claim7.holds Tryz.pinned (.plain (OpenSpec.upto decodeBackSpec)) decodeBackUptoCard
end Rows
end Go.Proofs.YtclhaejdjogfbaaGreatDoor
