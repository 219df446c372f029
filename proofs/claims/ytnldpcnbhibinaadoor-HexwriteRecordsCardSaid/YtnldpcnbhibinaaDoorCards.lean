/-
  DERIVED. GIVEN WITH THE SEED: THE CARDS: each row of YtnldpcnbhibinaaDoorRows.lean that lists a variable, with what it lists TIED to the program's text (the seventh form; the later family's looks); each row that meets fmt, with fmt's text TOLD by the authors' own Lean function (tested against real Go, not proved from fmt's source: count such statements apart). THE CARD IS WHAT COUNTS. Prove the row's statement (the work); the ties are given (YtnldpcnbhibinaaDoorTie.lean); close each card by the builder's one call (the guide's Derived/Test/ToyasCard.lean, 'card_holds'). Laid BY PROGRAM, IN A SANDBOX (cutbox-door.mjs). By AI agents, Wed Nov 11 2026. No macro, syntax, notation, axiom, sorry.
-/
import Derived.Test.YtnldpcnbhibinaaDoorRows
import GoSem.ClaimSeven
namespace Go.Proofs.YtnldpcnbhibinaaDoor
namespace Rows

/-- THE TIED CARD OF 'breadboardlaw04.HexwriteRecords'. -/
def hexwriteRecordsCard : Claim7 := { stood := { row := hexwriteRecordsRow, standIns := [], harness := (true, "a3f44ec95b70b240789f61f1ba1496d03366d848e59afeed9bac749b31c5a483"), looks := false }, kinds := [], alts := [], laidByText := true, laidKinds := [.data, .pinned], laidTests := true, laidLooks := .later }
def HexwriteRecordsCardSaid : Prop := Claim7.holds Tryd.pinned (.plain (OpenSpec.ofChange hexwriteRecordsSpec)) hexwriteRecordsCard

/-- THE SECOND FORM's CARD OF 'breadboardlaw04.HexwriteRecords'. -/
def hexwriteRecordsUptoCard : Claim7 := { stood := { row := hexwriteRecordsUptoRow, standIns := [], harness := (true, "a3f44ec95b70b240789f61f1ba1496d03366d848e59afeed9bac749b31c5a483"), looks := false }, kinds := [], alts := [], laidByText := true, laidKinds := [.data, .pinned], laidTests := true, laidLooks := .later }
def HexwriteRecordsUptoCardSaid : Prop := Claim7.holds Tryd.pinned (.plain (OpenSpec.upto hexwriteRecordsSpec)) hexwriteRecordsUptoCard
end Rows
end Go.Proofs.YtnldpcnbhibinaaDoor
