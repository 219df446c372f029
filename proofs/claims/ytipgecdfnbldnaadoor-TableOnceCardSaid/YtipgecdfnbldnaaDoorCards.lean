/-
  DERIVED. GIVEN WITH THE SEED: THE CARDS: each row of YtipgecdfnbldnaaDoorRows.lean that lists a variable, with what it lists TIED to the program's text (the seventh form; the later family's looks); each row that meets fmt, with fmt's text TOLD by the authors' own Lean function (tested against real Go, not proved from fmt's source: count such statements apart). THE CARD IS WHAT COUNTS. Prove the row's statement (the work); the ties are given (YtipgecdfnbldnaaDoorTie.lean); close each card by the builder's one call (the guide's Derived/Test/ToyasCard.lean, 'card_holds'). Laid BY PROGRAM, IN A SANDBOX (cutbox-door.mjs). By AI agents, Wed Nov 11 2026. No macro, syntax, notation, axiom, sorry.
-/
import Derived.Test.YtipgecdfnbldnaaDoorRows
import GoSem.ClaimSeven
namespace Go.Proofs.YtipgecdfnbldnaaDoor
namespace Rows

/-- THE TIED CARD OF 'breadboardlaw09.TableOnce'. -/
def tableOnceCard : Claim7 := { stood := { row := tableOnceRow, standIns := [], harness := (true, "c7eb66d20bc125be3ad24dac89303344bd9fef61ce25aad0532613bcc2dbcb0e"), looks := false }, kinds := [], alts := [], laidByText := true, laidKinds := [.data, .pinned], laidTests := true, laidLooks := .later }
def TableOnceCardSaid : Prop := Claim7.holds Tryd.pinned (.plain (OpenSpec.ofChange tableOnceSpec)) tableOnceCard

/-- THE TIED CARD OF 'breadboardlaw09.TablePrefixes'. -/
def tablePrefixesCard : Claim7 := { stood := { row := tablePrefixesRow, standIns := [], harness := (true, "c7eb66d20bc125be3ad24dac89303344bd9fef61ce25aad0532613bcc2dbcb0e"), looks := false }, kinds := [], alts := [], laidByText := true, laidKinds := [.data, .pinned], laidTests := true, laidLooks := .later }
def TablePrefixesCardSaid : Prop := Claim7.holds Tryd.pinned (.plain (OpenSpec.ofChange tablePrefixesSpec)) tablePrefixesCard

/-- THE SECOND FORM's CARD OF 'breadboardlaw09.TableOnce'. -/
def tableOnceUptoCard : Claim7 := { stood := { row := tableOnceUptoRow, standIns := [], harness := (true, "c7eb66d20bc125be3ad24dac89303344bd9fef61ce25aad0532613bcc2dbcb0e"), looks := false }, kinds := [], alts := [], laidByText := true, laidKinds := [.data, .pinned], laidTests := true, laidLooks := .later }
def TableOnceUptoCardSaid : Prop := Claim7.holds Tryd.pinned (.plain (OpenSpec.upto tableOnceSpec)) tableOnceUptoCard

/-- THE SECOND FORM's CARD OF 'breadboardlaw09.TablePrefixes'. -/
def tablePrefixesUptoCard : Claim7 := { stood := { row := tablePrefixesUptoRow, standIns := [], harness := (true, "c7eb66d20bc125be3ad24dac89303344bd9fef61ce25aad0532613bcc2dbcb0e"), looks := false }, kinds := [], alts := [], laidByText := true, laidKinds := [.data, .pinned], laidTests := true, laidLooks := .later }
def TablePrefixesUptoCardSaid : Prop := Claim7.holds Tryd.pinned (.plain (OpenSpec.upto tablePrefixesSpec)) tablePrefixesUptoCard
end Rows
end Go.Proofs.YtipgecdfnbldnaaDoor
