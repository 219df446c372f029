/-
  DERIVED. GIVEN WITH THE SEED: THE CARDS: each row of YtmeegpdjhcilkaaDoorRows.lean that lists a variable, with what it lists TIED to the program's text (the seventh form; the later family's looks); each row that meets fmt, with fmt's text TOLD by the authors' own Lean function (tested against real Go, not proved from fmt's source: count such statements apart). THE CARD IS WHAT COUNTS. Prove the row's statement (the work); the ties are given (YtmeegpdjhcilkaaDoorTie.lean); close each card by the builder's one call (the guide's Derived/Test/ToyasCard.lean, 'card_holds'). Laid BY PROGRAM, IN A SANDBOX (cutbox-door.mjs). By AI agents, Wed Nov 11 2026. No macro, syntax, notation, axiom, sorry.
-/
import Derived.Test.YtmeegpdjhcilkaaDoorRows
import GoSem.ClaimSeven
namespace Go.Proofs.YtmeegpdjhcilkaaDoor
namespace Rows

/-- THE TIED CARD OF 'breadboardlaw05.HexreadInverse'. -/
def hexreadInverseCard : Claim7 := { stood := { row := hexreadInverseRow, standIns := [], harness := (true, "7d47cd4fa953a5a4dd0f7084e2eb4f868a9abc8849834f79373afb5067bc022f"), looks := false }, kinds := [], alts := [], laidByText := true, laidKinds := [.data, .pinned], laidTests := true, laidLooks := .later }
def HexreadInverseCardSaid : Prop := Claim7.holds Tryd.pinned (.plain (OpenSpec.ofChange hexreadInverseSpec)) hexreadInverseCard

/-- THE TIED CARD OF 'breadboardlaw05.HexreadEnds'. -/
def hexreadEndsCard : Claim7 := { stood := { row := hexreadEndsRow, standIns := [], harness := (true, "7d47cd4fa953a5a4dd0f7084e2eb4f868a9abc8849834f79373afb5067bc022f"), looks := false }, kinds := [], alts := [], laidByText := true, laidKinds := [.data, .pinned], laidTests := true, laidLooks := .later }
def HexreadEndsCardSaid : Prop := Claim7.holds Tryd.pinned (.plain (OpenSpec.ofChange hexreadEndsSpec)) hexreadEndsCard

/-- THE TIED CARD OF 'breadboardlaw05.HexreadMerges'. -/
def hexreadMergesCard : Claim7 := { stood := { row := hexreadMergesRow, standIns := [], harness := (true, "7d47cd4fa953a5a4dd0f7084e2eb4f868a9abc8849834f79373afb5067bc022f"), looks := false }, kinds := [], alts := [], laidByText := true, laidKinds := [.data, .pinned], laidTests := true, laidLooks := .later }
def HexreadMergesCardSaid : Prop := Claim7.holds Tryd.pinned (.plain (OpenSpec.ofChange hexreadMergesSpec)) hexreadMergesCard

/-- THE TIED CARD OF 'breadboardlaw05.HexreadDiffs'. -/
def hexreadDiffsCard : Claim7 := { stood := { row := hexreadDiffsRow, standIns := [], harness := (true, "7d47cd4fa953a5a4dd0f7084e2eb4f868a9abc8849834f79373afb5067bc022f"), looks := false }, kinds := [], alts := [], laidByText := true, laidKinds := [.data, .pinned], laidTests := true, laidLooks := .later }
def HexreadDiffsCardSaid : Prop := Claim7.holds Tryd.pinned (.plain (OpenSpec.ofChange hexreadDiffsSpec)) hexreadDiffsCard

/-- THE SECOND FORM's CARD OF 'breadboardlaw05.HexreadInverse'. -/
def hexreadInverseUptoCard : Claim7 := { stood := { row := hexreadInverseUptoRow, standIns := [], harness := (true, "7d47cd4fa953a5a4dd0f7084e2eb4f868a9abc8849834f79373afb5067bc022f"), looks := false }, kinds := [], alts := [], laidByText := true, laidKinds := [.data, .pinned], laidTests := true, laidLooks := .later }
def HexreadInverseUptoCardSaid : Prop := Claim7.holds Tryd.pinned (.plain (OpenSpec.upto hexreadInverseSpec)) hexreadInverseUptoCard

/-- THE SECOND FORM's CARD OF 'breadboardlaw05.HexreadEnds'. -/
def hexreadEndsUptoCard : Claim7 := { stood := { row := hexreadEndsUptoRow, standIns := [], harness := (true, "7d47cd4fa953a5a4dd0f7084e2eb4f868a9abc8849834f79373afb5067bc022f"), looks := false }, kinds := [], alts := [], laidByText := true, laidKinds := [.data, .pinned], laidTests := true, laidLooks := .later }
def HexreadEndsUptoCardSaid : Prop := Claim7.holds Tryd.pinned (.plain (OpenSpec.upto hexreadEndsSpec)) hexreadEndsUptoCard

/-- THE SECOND FORM's CARD OF 'breadboardlaw05.HexreadMerges'. -/
def hexreadMergesUptoCard : Claim7 := { stood := { row := hexreadMergesUptoRow, standIns := [], harness := (true, "7d47cd4fa953a5a4dd0f7084e2eb4f868a9abc8849834f79373afb5067bc022f"), looks := false }, kinds := [], alts := [], laidByText := true, laidKinds := [.data, .pinned], laidTests := true, laidLooks := .later }
def HexreadMergesUptoCardSaid : Prop := Claim7.holds Tryd.pinned (.plain (OpenSpec.upto hexreadMergesSpec)) hexreadMergesUptoCard

/-- THE SECOND FORM's CARD OF 'breadboardlaw05.HexreadDiffs'. -/
def hexreadDiffsUptoCard : Claim7 := { stood := { row := hexreadDiffsUptoRow, standIns := [], harness := (true, "7d47cd4fa953a5a4dd0f7084e2eb4f868a9abc8849834f79373afb5067bc022f"), looks := false }, kinds := [], alts := [], laidByText := true, laidKinds := [.data, .pinned], laidTests := true, laidLooks := .later }
def HexreadDiffsUptoCardSaid : Prop := Claim7.holds Tryd.pinned (.plain (OpenSpec.upto hexreadDiffsSpec)) hexreadDiffsUptoCard
end Rows
end Go.Proofs.YtmeegpdjhcilkaaDoor
