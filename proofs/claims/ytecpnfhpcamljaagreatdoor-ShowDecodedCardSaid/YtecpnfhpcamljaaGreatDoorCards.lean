/-
  DERIVED. GIVEN WITH THE SEED: THE CARDS: each row of YtecpnfhpcamljaaGreatDoorRows.lean that lists a variable, with what it lists TIED to the program's text (the seventh form; the later family's looks); each row that meets fmt, with fmt's text TOLD by the authors' own Lean function (tested against real Go, not proved from fmt's source: count such statements apart). THE CARD IS WHAT COUNTS. Prove the row's statement (the work); the ties are given (YtecpnfhpcamljaaGreatDoorTie.lean); close each card by the builder's one call (the guide's Derived/Test/ToyasCard.lean, 'card_holds'). Laid BY PROGRAM, IN A SANDBOX (cutbox-door.mjs). By AI agents, Wed Nov 11 2026. No macro, syntax, notation, axiom, sorry.
-/
import Derived.Test.YtecpnfhpcamljaaGreatDoorRows
import GoSem.ClaimSeven
namespace Go.Proofs.YtecpnfhpcamljaaGreatDoor
namespace Rows

/-- THE TIED CARD OF 'breadboardlaw15.ShowInstrs'. -/
def showInstrsCard : Claim7 := { stood := { row := showInstrsRow, standIns := [], harness := (true, "3704228b9d977e4a944f398453d5fde1d1b23f55287dae39892e39b70e1129aa"), looks := true }, kinds := [], alts := [], laidByText := true, laidKinds := [.data, .pinned], laidTests := true, laidLooks := .later }
def ShowInstrsCardSaid : Prop := Claim7.holds Tryz.pinned (.plain (OpenSpec.ofChange showInstrsSpec)) showInstrsCard

/-- THE TIED CARD OF 'breadboardlaw15.ShowApart'. -/
def showApartCard : Claim7 := { stood := { row := showApartRow, standIns := [], harness := (true, "3704228b9d977e4a944f398453d5fde1d1b23f55287dae39892e39b70e1129aa"), looks := true }, kinds := [], alts := [], laidByText := true, laidKinds := [.data, .pinned], laidTests := true, laidLooks := .later }
def ShowApartCardSaid : Prop := Claim7.holds Tryz.pinned (.plain (OpenSpec.ofChange showApartSpec)) showApartCard

/-- THE TIED CARD OF 'breadboardlaw15.ShowData'. -/
def showDataCard : Claim7 := { stood := { row := showDataRow, standIns := [], harness := (true, "3704228b9d977e4a944f398453d5fde1d1b23f55287dae39892e39b70e1129aa"), looks := true }, kinds := [], alts := [], laidByText := true, laidKinds := [.data, .pinned], laidTests := true, laidLooks := .later }
def ShowDataCardSaid : Prop := Claim7.holds Tryz.pinned (.plain (OpenSpec.ofChange showDataSpec)) showDataCard

/-- THE TIED CARD OF 'breadboardlaw15.ShowItems'. -/
def showItemsCard : Claim7 := { stood := { row := showItemsRow, standIns := [], harness := (true, "3704228b9d977e4a944f398453d5fde1d1b23f55287dae39892e39b70e1129aa"), looks := true }, kinds := [], alts := [], laidByText := true, laidKinds := [.data, .pinned], laidTests := true, laidLooks := .later }
def ShowItemsCardSaid : Prop := Claim7.holds Tryz.pinned (.plain (OpenSpec.ofChange showItemsSpec)) showItemsCard

/-- THE TIED CARD OF 'breadboardlaw15.ShowTables'. -/
def showTablesCard : Claim7 := { stood := { row := showTablesRow, standIns := [], harness := (true, "3704228b9d977e4a944f398453d5fde1d1b23f55287dae39892e39b70e1129aa"), looks := true }, kinds := [], alts := [], laidByText := true, laidKinds := [.data, .pinned], laidTests := true, laidLooks := .later }
def ShowTablesCardSaid : Prop := Claim7.holds Tryz.pinned (.plain (OpenSpec.ofChange showTablesSpec)) showTablesCard

/-- THE TIED CARD OF 'breadboardlaw15.ShowDecoded'. -/
def showDecodedCard : Claim7 := { stood := { row := showDecodedRow, standIns := [], harness := (true, "3704228b9d977e4a944f398453d5fde1d1b23f55287dae39892e39b70e1129aa"), looks := true }, kinds := [], alts := [], laidByText := true, laidKinds := [.data, .pinned], laidTests := true, laidLooks := .later }
def ShowDecodedCardSaid : Prop := Claim7.holds Tryz.pinned (.plain (OpenSpec.ofChange showDecodedSpec)) showDecodedCard

/-- THE SECOND FORM's CARD OF 'breadboardlaw15.ShowInstrs'. -/
def showInstrsUptoCard : Claim7 := { stood := { row := showInstrsUptoRow, standIns := [], harness := (true, "3704228b9d977e4a944f398453d5fde1d1b23f55287dae39892e39b70e1129aa"), looks := true }, kinds := [], alts := [], laidByText := true, laidKinds := [.data, .pinned], laidTests := true, laidLooks := .later }
def ShowInstrsUptoCardSaid : Prop := Claim7.holds Tryz.pinned (.plain (OpenSpec.upto showInstrsSpec)) showInstrsUptoCard

/-- THE SECOND FORM's CARD OF 'breadboardlaw15.ShowApart'. -/
def showApartUptoCard : Claim7 := { stood := { row := showApartUptoRow, standIns := [], harness := (true, "3704228b9d977e4a944f398453d5fde1d1b23f55287dae39892e39b70e1129aa"), looks := true }, kinds := [], alts := [], laidByText := true, laidKinds := [.data, .pinned], laidTests := true, laidLooks := .later }
def ShowApartUptoCardSaid : Prop := Claim7.holds Tryz.pinned (.plain (OpenSpec.upto showApartSpec)) showApartUptoCard

/-- THE SECOND FORM's CARD OF 'breadboardlaw15.ShowData'. -/
def showDataUptoCard : Claim7 := { stood := { row := showDataUptoRow, standIns := [], harness := (true, "3704228b9d977e4a944f398453d5fde1d1b23f55287dae39892e39b70e1129aa"), looks := true }, kinds := [], alts := [], laidByText := true, laidKinds := [.data, .pinned], laidTests := true, laidLooks := .later }
def ShowDataUptoCardSaid : Prop := Claim7.holds Tryz.pinned (.plain (OpenSpec.upto showDataSpec)) showDataUptoCard

/-- THE SECOND FORM's CARD OF 'breadboardlaw15.ShowItems'. -/
def showItemsUptoCard : Claim7 := { stood := { row := showItemsUptoRow, standIns := [], harness := (true, "3704228b9d977e4a944f398453d5fde1d1b23f55287dae39892e39b70e1129aa"), looks := true }, kinds := [], alts := [], laidByText := true, laidKinds := [.data, .pinned], laidTests := true, laidLooks := .later }
def ShowItemsUptoCardSaid : Prop := Claim7.holds Tryz.pinned (.plain (OpenSpec.upto showItemsSpec)) showItemsUptoCard

/-- THE SECOND FORM's CARD OF 'breadboardlaw15.ShowTables'. -/
def showTablesUptoCard : Claim7 := { stood := { row := showTablesUptoRow, standIns := [], harness := (true, "3704228b9d977e4a944f398453d5fde1d1b23f55287dae39892e39b70e1129aa"), looks := true }, kinds := [], alts := [], laidByText := true, laidKinds := [.data, .pinned], laidTests := true, laidLooks := .later }
def ShowTablesUptoCardSaid : Prop := Claim7.holds Tryz.pinned (.plain (OpenSpec.upto showTablesSpec)) showTablesUptoCard

/-- THE SECOND FORM's CARD OF 'breadboardlaw15.ShowDecoded'. -/
def showDecodedUptoCard : Claim7 := { stood := { row := showDecodedUptoRow, standIns := [], harness := (true, "3704228b9d977e4a944f398453d5fde1d1b23f55287dae39892e39b70e1129aa"), looks := true }, kinds := [], alts := [], laidByText := true, laidKinds := [.data, .pinned], laidTests := true, laidLooks := .later }
def ShowDecodedUptoCardSaid : Prop := Claim7.holds Tryz.pinned (.plain (OpenSpec.upto showDecodedSpec)) showDecodedUptoCard
end Rows
end Go.Proofs.YtecpnfhpcamljaaGreatDoor
