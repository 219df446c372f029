/-
  DERIVED. GIVEN WITH THE SEED: THE CARDS: each row of YthpaamekpfhkjaaDoorRows.lean that lists a variable, with what it lists TIED to the program's text (the seventh form; the later family's looks); each row that meets fmt, with fmt's text TOLD by the authors' own Lean function (tested against real Go, not proved from fmt's source: count such statements apart). THE CARD IS WHAT COUNTS. Prove the row's statement (the work); the ties are given (YthpaamekpfhkjaaDoorTie.lean); close each card by the builder's one call (the guide's Derived/Test/ToyasCard.lean, 'card_holds'). Laid BY PROGRAM, IN A SANDBOX (cutbox-door.mjs). By AI agents, Wed Nov 11 2026. No macro, syntax, notation, axiom, sorry.
-/
import Derived.Test.YthpaamekpfhkjaaDoorRows
import GoSem.ClaimSeven
namespace Go.Proofs.YthpaamekpfhkjaaDoor
namespace Rows

/-- THE TIED CARD OF 'breadboardlaw07.InstrChecks'. -/
def instrChecksCard : Claim7 := { stood := { row := instrChecksRow, standIns := [], harness := (true, "87750d742d0ccfe1be387dbb603f36bc4a844223b8c589bc6045922e53046cc6"), looks := false }, kinds := [], alts := [], laidByText := true, laidKinds := [.data, .pinned], laidTests := true, laidLooks := .later }
def InstrChecksCardSaid : Prop := Claim7.holds Tryd.pinned (.plain (OpenSpec.ofChange instrChecksSpec)) instrChecksCard

/-- THE TIED CARD OF 'breadboardlaw07.InstrMakes'. -/
def instrMakesCard : Claim7 := { stood := { row := instrMakesRow, standIns := [], harness := (true, "87750d742d0ccfe1be387dbb603f36bc4a844223b8c589bc6045922e53046cc6"), looks := false }, kinds := [], alts := [], laidByText := true, laidKinds := [.data, .pinned], laidTests := true, laidLooks := .later }
def InstrMakesCardSaid : Prop := Claim7.holds Tryd.pinned (.plain (OpenSpec.ofChange instrMakesSpec)) instrMakesCard

/-- THE TIED CARD OF 'breadboardlaw07.InstrWith'. -/
def instrWithCard : Claim7 := { stood := { row := instrWithRow, standIns := [], harness := (true, "87750d742d0ccfe1be387dbb603f36bc4a844223b8c589bc6045922e53046cc6"), looks := false }, kinds := [], alts := [], laidByText := true, laidKinds := [.data, .pinned], laidTests := true, laidLooks := .later }
def InstrWithCardSaid : Prop := Claim7.holds Tryd.pinned (.plain (OpenSpec.ofChange instrWithSpec)) instrWithCard

/-- THE TIED CARD OF 'breadboardlaw07.InstrKeeps'. -/
def instrKeepsCard : Claim7 := { stood := { row := instrKeepsRow, standIns := [], harness := (true, "87750d742d0ccfe1be387dbb603f36bc4a844223b8c589bc6045922e53046cc6"), looks := false }, kinds := [], alts := [], laidByText := true, laidKinds := [.data, .pinned], laidTests := true, laidLooks := .later }
def InstrKeepsCardSaid : Prop := Claim7.holds Tryd.pinned (.plain (OpenSpec.ofChange instrKeepsSpec)) instrKeepsCard

/-- THE SECOND FORM's CARD OF 'breadboardlaw07.InstrChecks'. -/
def instrChecksUptoCard : Claim7 := { stood := { row := instrChecksUptoRow, standIns := [], harness := (true, "87750d742d0ccfe1be387dbb603f36bc4a844223b8c589bc6045922e53046cc6"), looks := false }, kinds := [], alts := [], laidByText := true, laidKinds := [.data, .pinned], laidTests := true, laidLooks := .later }
def InstrChecksUptoCardSaid : Prop := Claim7.holds Tryd.pinned (.plain (OpenSpec.upto instrChecksSpec)) instrChecksUptoCard

/-- THE SECOND FORM's CARD OF 'breadboardlaw07.InstrMakes'. -/
def instrMakesUptoCard : Claim7 := { stood := { row := instrMakesUptoRow, standIns := [], harness := (true, "87750d742d0ccfe1be387dbb603f36bc4a844223b8c589bc6045922e53046cc6"), looks := false }, kinds := [], alts := [], laidByText := true, laidKinds := [.data, .pinned], laidTests := true, laidLooks := .later }
def InstrMakesUptoCardSaid : Prop := Claim7.holds Tryd.pinned (.plain (OpenSpec.upto instrMakesSpec)) instrMakesUptoCard

/-- THE SECOND FORM's CARD OF 'breadboardlaw07.InstrWith'. -/
def instrWithUptoCard : Claim7 := { stood := { row := instrWithUptoRow, standIns := [], harness := (true, "87750d742d0ccfe1be387dbb603f36bc4a844223b8c589bc6045922e53046cc6"), looks := false }, kinds := [], alts := [], laidByText := true, laidKinds := [.data, .pinned], laidTests := true, laidLooks := .later }
def InstrWithUptoCardSaid : Prop := Claim7.holds Tryd.pinned (.plain (OpenSpec.upto instrWithSpec)) instrWithUptoCard

/-- THE SECOND FORM's CARD OF 'breadboardlaw07.InstrKeeps'. -/
def instrKeepsUptoCard : Claim7 := { stood := { row := instrKeepsUptoRow, standIns := [], harness := (true, "87750d742d0ccfe1be387dbb603f36bc4a844223b8c589bc6045922e53046cc6"), looks := false }, kinds := [], alts := [], laidByText := true, laidKinds := [.data, .pinned], laidTests := true, laidLooks := .later }
def InstrKeepsUptoCardSaid : Prop := Claim7.holds Tryd.pinned (.plain (OpenSpec.upto instrKeepsSpec)) instrKeepsUptoCard
end Rows
end Go.Proofs.YthpaamekpfhkjaaDoor
