/-
  DERIVED. GIVEN WITH THE SEED: THE CARDS: each row of YtipgecdfnbldnaaGreatDoorRows.lean that lists a variable, with what it lists TIED to the program's text (the seventh form; the later family's looks); each row that meets fmt, with fmt's text TOLD by the authors' own Lean function (tested against real Go, not proved from fmt's source: count such statements apart). THE CARD IS WHAT COUNTS. Prove the row's statement (the work); the ties are given (YtipgecdfnbldnaaGreatDoorTie.lean); close each card by the builder's one call (the guide's Derived/Test/ToyasCard.lean, 'card_holds'). Laid BY PROGRAM, IN A SANDBOX (cutbox-door.mjs). By AI agents, Wed Nov 11 2026. No macro, syntax, notation, axiom, sorry.
-/
import Derived.Test.YtipgecdfnbldnaaGreatDoorRows
import GoSem.ClaimSeven
namespace Go.Proofs.YtipgecdfnbldnaaGreatDoor
namespace Rows

/-- THE TIED CARD OF 'breadboardlaw09.TableAt'. -/
def tableAtCard : Claim7 := { stood := { row := tableAtRow, standIns := [], harness := (true, "f632e326c10901d8521223b524654a2f92eebbcc6ff3f2925ed25c9767832351"), looks := false }, kinds := [], alts := [], laidByText := true, laidKinds := [.data, .pinned], laidTests := true, laidLooks := .later }
def TableAtCardSaid : Prop := Claim7.holds Tryz.pinned (.plain (OpenSpec.ofChange tableAtSpec)) tableAtCard

/-- THE TIED CARD OF 'breadboardlaw09.TablePage'. -/
def tablePageCard : Claim7 := { stood := { row := tablePageRow, standIns := [], harness := (true, "f632e326c10901d8521223b524654a2f92eebbcc6ff3f2925ed25c9767832351"), looks := false }, kinds := [], alts := [], laidByText := true, laidKinds := [.data, .pinned], laidTests := true, laidLooks := .later }
def TablePageCardSaid : Prop := Claim7.holds Tryz.pinned (.plain (OpenSpec.ofChange tablePageSpec)) tablePageCard

/-- THE TIED CARD OF 'breadboardlaw09.TableNamed'. -/
def tableNamedCard : Claim7 := { stood := { row := tableNamedRow, standIns := [], harness := (true, "f632e326c10901d8521223b524654a2f92eebbcc6ff3f2925ed25c9767832351"), looks := false }, kinds := [], alts := [], laidByText := true, laidKinds := [.data, .pinned], laidTests := true, laidLooks := .later }
def TableNamedCardSaid : Prop := Claim7.holds Tryz.pinned (.plain (OpenSpec.ofChange tableNamedSpec)) tableNamedCard

/-- THE TIED CARD OF 'breadboardlaw09.TableAliases'. -/
def tableAliasesCard : Claim7 := { stood := { row := tableAliasesRow, standIns := [], harness := (true, "f632e326c10901d8521223b524654a2f92eebbcc6ff3f2925ed25c9767832351"), looks := false }, kinds := [], alts := [], laidByText := true, laidKinds := [.data, .pinned], laidTests := true, laidLooks := .later }
def TableAliasesCardSaid : Prop := Claim7.holds Tryz.pinned (.plain (OpenSpec.ofChange tableAliasesSpec)) tableAliasesCard

/-- THE SECOND FORM's CARD OF 'breadboardlaw09.TableAt'. -/
def tableAtUptoCard : Claim7 := { stood := { row := tableAtUptoRow, standIns := [], harness := (true, "f632e326c10901d8521223b524654a2f92eebbcc6ff3f2925ed25c9767832351"), looks := false }, kinds := [], alts := [], laidByText := true, laidKinds := [.data, .pinned], laidTests := true, laidLooks := .later }
def TableAtUptoCardSaid : Prop := Claim7.holds Tryz.pinned (.plain (OpenSpec.upto tableAtSpec)) tableAtUptoCard

/-- THE SECOND FORM's CARD OF 'breadboardlaw09.TablePage'. -/
def tablePageUptoCard : Claim7 := { stood := { row := tablePageUptoRow, standIns := [], harness := (true, "f632e326c10901d8521223b524654a2f92eebbcc6ff3f2925ed25c9767832351"), looks := false }, kinds := [], alts := [], laidByText := true, laidKinds := [.data, .pinned], laidTests := true, laidLooks := .later }
def TablePageUptoCardSaid : Prop := Claim7.holds Tryz.pinned (.plain (OpenSpec.upto tablePageSpec)) tablePageUptoCard

/-- THE SECOND FORM's CARD OF 'breadboardlaw09.TableNamed'. -/
def tableNamedUptoCard : Claim7 := { stood := { row := tableNamedUptoRow, standIns := [], harness := (true, "f632e326c10901d8521223b524654a2f92eebbcc6ff3f2925ed25c9767832351"), looks := false }, kinds := [], alts := [], laidByText := true, laidKinds := [.data, .pinned], laidTests := true, laidLooks := .later }
def TableNamedUptoCardSaid : Prop := Claim7.holds Tryz.pinned (.plain (OpenSpec.upto tableNamedSpec)) tableNamedUptoCard

/-- THE SECOND FORM's CARD OF 'breadboardlaw09.TableAliases'. -/
def tableAliasesUptoCard : Claim7 := { stood := { row := tableAliasesUptoRow, standIns := [], harness := (true, "f632e326c10901d8521223b524654a2f92eebbcc6ff3f2925ed25c9767832351"), looks := false }, kinds := [], alts := [], laidByText := true, laidKinds := [.data, .pinned], laidTests := true, laidLooks := .later }
def TableAliasesUptoCardSaid : Prop := Claim7.holds Tryz.pinned (.plain (OpenSpec.upto tableAliasesSpec)) tableAliasesUptoCard
end Rows
end Go.Proofs.YtipgecdfnbldnaaGreatDoor
