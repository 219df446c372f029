/-
  DERIVED. GIVEN WITH THE SEED: THE CARDS: each row of YtbbpkoaeedkncaaGreatDoorRows.lean that lists a variable, with what it lists TIED to the program's text (the seventh form; the later family's looks); each row that meets fmt, with fmt's text TOLD by the authors' own Lean function (tested against real Go, not proved from fmt's source: count such statements apart). THE CARD IS WHAT COUNTS. Prove the row's statement (the work); the ties are given (YtbbpkoaeedkncaaGreatDoorTie.lean); close each card by the builder's one call (the guide's Derived/Test/ToyasCard.lean, 'card_holds'). Laid BY PROGRAM, IN A SANDBOX (cutbox-door.mjs). By AI agents, Wed Nov 11 2026. No macro, syntax, notation, axiom, sorry.
-/
import Derived.Test.YtbbpkoaeedkncaaGreatDoorRows
import GoSem.ClaimSeven
namespace Go.Proofs.YtbbpkoaeedkncaaGreatDoor
namespace Rows

/-- THE TIED CARD OF 'breadboardlaw10.SearchFits'. -/
def searchFitsCard : Claim7 := { stood := { row := searchFitsRow, standIns := [], harness := (true, "7974d9b619082fd0b5c9150586e02430c89ec6907828bf160ac2875181c48a52"), looks := false }, kinds := [], alts := [], laidByText := true, laidKinds := [.data, .pinned], laidTests := true, laidLooks := .later }
def SearchFitsCardSaid : Prop := Claim7.holds Tryz.pinned (.plain (OpenSpec.ofChange searchFitsSpec)) searchFitsCard

/-- THE TIED CARD OF 'breadboardlaw10.SearchFills'. -/
def searchFillsCard : Claim7 := { stood := { row := searchFillsRow, standIns := [], harness := (true, "7974d9b619082fd0b5c9150586e02430c89ec6907828bf160ac2875181c48a52"), looks := false }, kinds := [], alts := [], laidByText := true, laidKinds := [.data, .pinned], laidTests := true, laidLooks := .later }
def SearchFillsCardSaid : Prop := Claim7.holds Tryz.pinned (.plain (OpenSpec.ofChange searchFillsSpec)) searchFillsCard

/-- THE TIED CARD OF 'breadboardlaw10.SearchBack'. -/
def searchBackCard : Claim7 := { stood := { row := searchBackRow, standIns := [], harness := (true, "7974d9b619082fd0b5c9150586e02430c89ec6907828bf160ac2875181c48a52"), looks := false }, kinds := [], alts := [], laidByText := true, laidKinds := [.data, .pinned], laidTests := true, laidLooks := .later }
def SearchBackCardSaid : Prop := Claim7.holds Tryz.pinned (.plain (OpenSpec.ofChange searchBackSpec)) searchBackCard

/-- THE TIED CARD OF 'breadboardlaw10.SearchLists'. -/
def searchListsCard : Claim7 := { stood := { row := searchListsRow, standIns := [], harness := (true, "7974d9b619082fd0b5c9150586e02430c89ec6907828bf160ac2875181c48a52"), looks := false }, kinds := [], alts := [], laidByText := true, laidKinds := [.data, .pinned], laidTests := true, laidLooks := .later }
def SearchListsCardSaid : Prop := Claim7.holds Tryz.pinned (.plain (OpenSpec.ofChange searchListsSpec)) searchListsCard

/-- THE SECOND FORM's CARD OF 'breadboardlaw10.SearchFits'. -/
def searchFitsUptoCard : Claim7 := { stood := { row := searchFitsUptoRow, standIns := [], harness := (true, "7974d9b619082fd0b5c9150586e02430c89ec6907828bf160ac2875181c48a52"), looks := false }, kinds := [], alts := [], laidByText := true, laidKinds := [.data, .pinned], laidTests := true, laidLooks := .later }
def SearchFitsUptoCardSaid : Prop := Claim7.holds Tryz.pinned (.plain (OpenSpec.upto searchFitsSpec)) searchFitsUptoCard

/-- THE SECOND FORM's CARD OF 'breadboardlaw10.SearchFills'. -/
def searchFillsUptoCard : Claim7 := { stood := { row := searchFillsUptoRow, standIns := [], harness := (true, "7974d9b619082fd0b5c9150586e02430c89ec6907828bf160ac2875181c48a52"), looks := false }, kinds := [], alts := [], laidByText := true, laidKinds := [.data, .pinned], laidTests := true, laidLooks := .later }
def SearchFillsUptoCardSaid : Prop := Claim7.holds Tryz.pinned (.plain (OpenSpec.upto searchFillsSpec)) searchFillsUptoCard

/-- THE SECOND FORM's CARD OF 'breadboardlaw10.SearchBack'. -/
def searchBackUptoCard : Claim7 := { stood := { row := searchBackUptoRow, standIns := [], harness := (true, "7974d9b619082fd0b5c9150586e02430c89ec6907828bf160ac2875181c48a52"), looks := false }, kinds := [], alts := [], laidByText := true, laidKinds := [.data, .pinned], laidTests := true, laidLooks := .later }
def SearchBackUptoCardSaid : Prop := Claim7.holds Tryz.pinned (.plain (OpenSpec.upto searchBackSpec)) searchBackUptoCard

/-- THE SECOND FORM's CARD OF 'breadboardlaw10.SearchLists'. -/
def searchListsUptoCard : Claim7 := { stood := { row := searchListsUptoRow, standIns := [], harness := (true, "7974d9b619082fd0b5c9150586e02430c89ec6907828bf160ac2875181c48a52"), looks := false }, kinds := [], alts := [], laidByText := true, laidKinds := [.data, .pinned], laidTests := true, laidLooks := .later }
def SearchListsUptoCardSaid : Prop := Claim7.holds Tryz.pinned (.plain (OpenSpec.upto searchListsSpec)) searchListsUptoCard
end Rows
end Go.Proofs.YtbbpkoaeedkncaaGreatDoor
