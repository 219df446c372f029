/-
  DERIVED. GIVEN WITH THE SEED: THE CARDS: each row of YtoilebmbljpieaaGreatDoorRows.lean that lists a variable, with what it lists TIED to the program's text (the seventh form; the later family's looks); each row that meets fmt, with fmt's text TOLD by the authors' own Lean function (tested against real Go, not proved from fmt's source: count such statements apart). THE CARD IS WHAT COUNTS. Prove the row's statement (the work); the ties are given (YtoilebmbljpieaaGreatDoorTie.lean); close each card by the builder's one call (the guide's Derived/Test/ToyasCard.lean, 'card_holds'). Laid BY PROGRAM, IN A SANDBOX (cutbox-door.mjs). By AI agents, Wed Nov 11 2026. No macro, syntax, notation, axiom, sorry.
-/
import Derived.Test.YtoilebmbljpieaaGreatDoorRows
import GoSem.ClaimSeven
namespace Go.Proofs.YtoilebmbljpieaaGreatDoor
namespace Rows

/-- THE TIED CARD OF 'breadboardlaw11.EncodeLists'. -/
def encodeListsCard : Claim7 := { stood := { row := encodeListsRow, standIns := [], harness := (true, "2a5cb81b35577d9816813b1bb5131eb285f4e45e3892f7c03c67599097901c6f"), looks := false }, kinds := [], alts := [], laidByText := true, laidKinds := [.data, .pinned], laidTests := true, laidLooks := .later }
def EncodeListsCardSaid : Prop := Claim7.holds Tryz.pinned (.plain (OpenSpec.ofChange encodeListsSpec)) encodeListsCard

/-- THE TIED CARD OF 'breadboardlaw11.EncodeEntries'. -/
def encodeEntriesCard : Claim7 := { stood := { row := encodeEntriesRow, standIns := [], harness := (true, "2a5cb81b35577d9816813b1bb5131eb285f4e45e3892f7c03c67599097901c6f"), looks := false }, kinds := [], alts := [], laidByText := true, laidKinds := [.data, .pinned], laidTests := true, laidLooks := .later }
def EncodeEntriesCardSaid : Prop := Claim7.holds Tryz.pinned (.plain (OpenSpec.ofChange encodeEntriesSpec)) encodeEntriesCard

/-- THE TIED CARD OF 'breadboardlaw11.EncodeForms'. -/
def encodeFormsCard : Claim7 := { stood := { row := encodeFormsRow, standIns := [], harness := (true, "2a5cb81b35577d9816813b1bb5131eb285f4e45e3892f7c03c67599097901c6f"), looks := false }, kinds := [], alts := [], laidByText := true, laidKinds := [.data, .pinned], laidTests := true, laidLooks := .later }
def EncodeFormsCardSaid : Prop := Claim7.holds Tryz.pinned (.plain (OpenSpec.ofChange encodeFormsSpec)) encodeFormsCard

/-- THE TIED CARD OF 'breadboardlaw11.EncodeApart'. -/
def encodeApartCard : Claim7 := { stood := { row := encodeApartRow, standIns := [], harness := (true, "2a5cb81b35577d9816813b1bb5131eb285f4e45e3892f7c03c67599097901c6f"), looks := false }, kinds := [], alts := [], laidByText := true, laidKinds := [.data, .pinned], laidTests := true, laidLooks := .later }
def EncodeApartCardSaid : Prop := Claim7.holds Tryz.pinned (.plain (OpenSpec.ofChange encodeApartSpec)) encodeApartCard

/-- THE TIED CARD OF 'breadboardlaw11.EncodeJumps'. -/
def encodeJumpsCard : Claim7 := { stood := { row := encodeJumpsRow, standIns := [], harness := (true, "2a5cb81b35577d9816813b1bb5131eb285f4e45e3892f7c03c67599097901c6f"), looks := false }, kinds := [], alts := [], laidByText := true, laidKinds := [.data, .pinned], laidTests := true, laidLooks := .later }
def EncodeJumpsCardSaid : Prop := Claim7.holds Tryz.pinned (.plain (OpenSpec.ofChange encodeJumpsSpec)) encodeJumpsCard

/-- THE SECOND FORM's CARD OF 'breadboardlaw11.EncodeLists'. -/
def encodeListsUptoCard : Claim7 := { stood := { row := encodeListsUptoRow, standIns := [], harness := (true, "2a5cb81b35577d9816813b1bb5131eb285f4e45e3892f7c03c67599097901c6f"), looks := false }, kinds := [], alts := [], laidByText := true, laidKinds := [.data, .pinned], laidTests := true, laidLooks := .later }
def EncodeListsUptoCardSaid : Prop := Claim7.holds Tryz.pinned (.plain (OpenSpec.upto encodeListsSpec)) encodeListsUptoCard

/-- THE SECOND FORM's CARD OF 'breadboardlaw11.EncodeEntries'. -/
def encodeEntriesUptoCard : Claim7 := { stood := { row := encodeEntriesUptoRow, standIns := [], harness := (true, "2a5cb81b35577d9816813b1bb5131eb285f4e45e3892f7c03c67599097901c6f"), looks := false }, kinds := [], alts := [], laidByText := true, laidKinds := [.data, .pinned], laidTests := true, laidLooks := .later }
def EncodeEntriesUptoCardSaid : Prop := Claim7.holds Tryz.pinned (.plain (OpenSpec.upto encodeEntriesSpec)) encodeEntriesUptoCard

/-- THE SECOND FORM's CARD OF 'breadboardlaw11.EncodeForms'. -/
def encodeFormsUptoCard : Claim7 := { stood := { row := encodeFormsUptoRow, standIns := [], harness := (true, "2a5cb81b35577d9816813b1bb5131eb285f4e45e3892f7c03c67599097901c6f"), looks := false }, kinds := [], alts := [], laidByText := true, laidKinds := [.data, .pinned], laidTests := true, laidLooks := .later }
def EncodeFormsUptoCardSaid : Prop := Claim7.holds Tryz.pinned (.plain (OpenSpec.upto encodeFormsSpec)) encodeFormsUptoCard

/-- THE SECOND FORM's CARD OF 'breadboardlaw11.EncodeApart'. -/
def encodeApartUptoCard : Claim7 := { stood := { row := encodeApartUptoRow, standIns := [], harness := (true, "2a5cb81b35577d9816813b1bb5131eb285f4e45e3892f7c03c67599097901c6f"), looks := false }, kinds := [], alts := [], laidByText := true, laidKinds := [.data, .pinned], laidTests := true, laidLooks := .later }
def EncodeApartUptoCardSaid : Prop := Claim7.holds Tryz.pinned (.plain (OpenSpec.upto encodeApartSpec)) encodeApartUptoCard

/-- THE SECOND FORM's CARD OF 'breadboardlaw11.EncodeJumps'. -/
def encodeJumpsUptoCard : Claim7 := { stood := { row := encodeJumpsUptoRow, standIns := [], harness := (true, "2a5cb81b35577d9816813b1bb5131eb285f4e45e3892f7c03c67599097901c6f"), looks := false }, kinds := [], alts := [], laidByText := true, laidKinds := [.data, .pinned], laidTests := true, laidLooks := .later }
def EncodeJumpsUptoCardSaid : Prop := Claim7.holds Tryz.pinned (.plain (OpenSpec.upto encodeJumpsSpec)) encodeJumpsUptoCard
end Rows
end Go.Proofs.YtoilebmbljpieaaGreatDoor
