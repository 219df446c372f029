/-
  DERIVED. GIVEN WITH THE SEED: THE CARDS: each row of YtbmgfkbgfgknbaaDoorRows.lean that lists a variable, with what it lists TIED to the program's text (the seventh form; the later family's looks); each row that meets fmt, with fmt's text TOLD by the authors' own Lean function (tested against real Go, not proved from fmt's source: count such statements apart). THE CARD IS WHAT COUNTS. Prove the row's statement (the work); the ties are given (YtbmgfkbgfgknbaaDoorTie.lean); close each card by the builder's one call (the guide's Derived/Test/ToyasCard.lean, 'card_holds'). Laid BY PROGRAM, IN A SANDBOX (cutbox-door.mjs). By AI agents, Wed Nov 11 2026. No macro, syntax, notation, axiom, sorry.
-/
import Derived.Test.YtbmgfkbgfgknbaaDoorRows
import GoSem.ClaimSeven
namespace Go.Proofs.YtbmgfkbgfgknbaaDoor
namespace Rows

/-- THE TIED CARD OF 'breadboardlaw08.CanonNumbers'. -/
def canonNumbersCard : Claim7 := { stood := { row := canonNumbersRow, standIns := [], harness := (true, "166030a31d02343951bb4b540745ee1c78c449401e4f67fab89d632c3947a978"), looks := false }, kinds := [], alts := [], laidByText := true, laidKinds := [.data, .pinned], laidTests := true, laidLooks := .later }
def CanonNumbersCardSaid : Prop := Claim7.holds Tryd.pinned (.plain (OpenSpec.ofChange canonNumbersSpec)) canonNumbersCard

/-- THE SECOND FORM's CARD OF 'breadboardlaw08.CanonNumbers'. -/
def canonNumbersUptoCard : Claim7 := { stood := { row := canonNumbersUptoRow, standIns := [], harness := (true, "166030a31d02343951bb4b540745ee1c78c449401e4f67fab89d632c3947a978"), looks := false }, kinds := [], alts := [], laidByText := true, laidKinds := [.data, .pinned], laidTests := true, laidLooks := .later }
def CanonNumbersUptoCardSaid : Prop := Claim7.holds Tryd.pinned (.plain (OpenSpec.upto canonNumbersSpec)) canonNumbersUptoCard
end Rows
end Go.Proofs.YtbmgfkbgfgknbaaDoor
