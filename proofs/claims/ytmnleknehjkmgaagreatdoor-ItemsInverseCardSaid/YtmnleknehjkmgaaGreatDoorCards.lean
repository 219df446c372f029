/-
  DERIVED. GIVEN WITH THE SEED: THE CARDS: each row of YtmnleknehjkmgaaGreatDoorRows.lean that lists a variable, with what it lists TIED to the program's text (the seventh form; the later family's looks); each row that meets fmt, with fmt's text TOLD by the authors' own Lean function (tested against real Go, not proved from fmt's source: count such statements apart). THE CARD IS WHAT COUNTS. Prove the row's statement (the work); the ties are given (YtmnleknehjkmgaaGreatDoorTie.lean); close each card by the builder's one call (the guide's Derived/Test/ToyasCard.lean, 'card_holds'). Laid BY PROGRAM, IN A SANDBOX (cutbox-door.mjs). By AI agents, Wed Nov 11 2026. No macro, syntax, notation, axiom, sorry.
-/
import Derived.Test.YtmnleknehjkmgaaGreatDoorRows
import GoSem.ClaimSeven
namespace Go.Proofs.YtmnleknehjkmgaaGreatDoor
namespace Rows

/-- THE TIED CARD OF 'breadboardlaw13.ItemsInverse'. -/
def itemsInverseCard : Claim7 := { stood := { row := itemsInverseRow, standIns := [], harness := (true, "7ecc27b2bd8cb4bc3fe27e5dbb2ff3078a783106941efd9906625bea4a798d60"), looks := true }, kinds := [], alts := [], laidByText := true, laidKinds := [.data, .pinned], laidTests := true, laidLooks := .later }
def ItemsInverseCardSaid : Prop := Claim7.holds Tryz.pinned (.plain (OpenSpec.ofChange itemsInverseSpec)) itemsInverseCard

/-- THE SECOND FORM's CARD OF 'breadboardlaw13.ItemsInverse'. -/
def itemsInverseUptoCard : Claim7 := { stood := { row := itemsInverseUptoRow, standIns := [], harness := (true, "7ecc27b2bd8cb4bc3fe27e5dbb2ff3078a783106941efd9906625bea4a798d60"), looks := true }, kinds := [], alts := [], laidByText := true, laidKinds := [.data, .pinned], laidTests := true, laidLooks := .later }
def ItemsInverseUptoCardSaid : Prop := Claim7.holds Tryz.pinned (.plain (OpenSpec.upto itemsInverseSpec)) itemsInverseUptoCard
end Rows
end Go.Proofs.YtmnleknehjkmgaaGreatDoor
