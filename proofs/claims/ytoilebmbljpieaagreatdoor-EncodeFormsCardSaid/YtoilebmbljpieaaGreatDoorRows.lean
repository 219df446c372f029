/-
  NARROWER THAN 'FOR EVERY INPUT', by the rows' own cells (each row's printed sentence says how): EncodeLists: laid · EncodeEntries: laid · EncodeForms: laid · EncodeApart: laid · EncodeJumps: laid.
  DERIVED. THE GIVEN ROWS OF THIS SEAT. 5 by the template 'for every input the law returns true; each argument reads behind the call as it read before'; 0 by the template 'total and deterministic' (their statements: YtoilebmbljpieaaGreatDoorTotals.lean).
  GIVEN WITH THE SEED: the statements are not yours to turn. If you find one false, say at which input.
  Laid BY PROGRAM, IN A SANDBOX (cutbox-rows.mjs): the forced cells as the released guide's own fill.sh prints them over the translation 8f95bfdb5200a3d6… (all of the seat's roots in one cut). By AI agents, Wed Nov 11 2026. No macro, syntax, notation, axiom, sorry.
-/
import Derived.Test.YtoilebmbljpieaaGreatDoorChecked
import GoSem.PinnedTables
import GoSem.Claim
import GoSem.ClaimJoined
import GoSem.ClaimMapViews
import Derived.JoinedTies
import Derived.KernelRfl
namespace Go.Proofs.YtoilebmbljpieaaGreatDoor
/- THE CELL 'sum', in the pinned program and in every row, IS THE sha256 OF THE DUMP (.gsa) THAT YtoilebmbljpieaaGreatDoorProg.lean LOADS. Nothing in Lean hashes anything: it is a label: what it is worth is what the hold of that sum in a sandbox is worth. -/
noncomputable def Tryz.pinned : Pinned := { name := "ytoilebmbljpieaagreatdoor", sum := "8f95bfdb5200a3d60936bd97df9b7c8bd066a26b8aa05fa2df5da4f2a73858de", checked := Tryz.checked }
namespace Rows
def none {H : Type} : Left H := { results := [], args := [] }

/- WHAT THE LISTED PACKAGE-LEVEL VARIABLES READ AS WHEN THE CALL BEGINS. Each datum BY PROGRAM (the guide's laid-datum.mjs) off the statement by which the dump's own 'gosem.cut.vars' lays the variable. In a bare row this is a premise. The card (YtoilebmbljpieaaGreatDoorCards.lean) ties it to the program's text. -/
def laid_unicode_utf8_acceptRanges {H : Type} : DataW H := .agg [.agg [.lit (.int .u8 128), .lit (.int .u8 191)], .agg [.lit (.int .u8 160), .lit (.int .u8 191)], .agg [.lit (.int .u8 128), .lit (.int .u8 159)], .agg [.lit (.int .u8 144), .lit (.int .u8 191)], .agg [.lit (.int .u8 128), .lit (.int .u8 143)], .agg [.lit (.int .u8 0), .lit (.int .u8 0)], .agg [.lit (.int .u8 0), .lit (.int .u8 0)], .agg [.lit (.int .u8 0), .lit (.int .u8 0)], .agg [.lit (.int .u8 0), .lit (.int .u8 0)], .agg [.lit (.int .u8 0), .lit (.int .u8 0)], .agg [.lit (.int .u8 0), .lit (.int .u8 0)], .agg [.lit (.int .u8 0), .lit (.int .u8 0)], .agg [.lit (.int .u8 0), .lit (.int .u8 0)], .agg [.lit (.int .u8 0), .lit (.int .u8 0)], .agg [.lit (.int .u8 0), .lit (.int .u8 0)], .agg [.lit (.int .u8 0), .lit (.int .u8 0)]]
/-- One of Go's own tables, pinned by name: the form's constant. -/
def laid_unicode_utf8_first : DataW Unit := Go.Pinned.utf8First

/-- 'breadboardlaw11.EncodeLists': WHATEVER THE INPUT: true; the input reads as it did. -/
def encodeListsSpec : ChangeSpec := { name := "encodeLists", fn := fun _ => fun
  | [d] => { results := [.lit (.bool true)], args := [d] }
  | _ => none }
def encodeListsRow : OpenClaim := { program := "ytoilebmbljpieaagreatdoor", sum := "8f95bfdb5200a3d60936bd97df9b7c8bd066a26b8aa05fa2df5da4f2a73858de", func := "breadboard/breadboardlaw11.EncodeLists", spec := "encodeLists", inPlace := ["slices.overlaps[breadboard/api.Operand]", "internal/bytealg.IndexByteString", "internal/bytealg.IndexString"], unfollowed := true, recurses := true, named := ["unicode/utf8.first", "unicode/utf8.acceptRanges", "internal/bytealg.MaxLen"], apart := false, laid := [("unicode/utf8.acceptRanges", laid_unicode_utf8_acceptRanges), ("unicode/utf8.first", laid_unicode_utf8_first)] }
def EncodeListsSaid : Prop := encodeListsRow.holds Tryz.pinned (OpenSpec.ofChange encodeListsSpec)

/-- ITS FALSE NEIGHBOUR: 'it returns false'. Refute it at one input. -/
def encodeListsWrong : ChangeSpec := { name := "encodeLists", fn := fun _ => fun
  | [d] => { results := [.lit (.bool false)], args := [d] }
  | _ => none }
def EncodeListsWrongFalsely : Prop := encodeListsRow.holds Tryz.pinned (OpenSpec.ofChange encodeListsWrong)

/-- 'breadboardlaw11.EncodeEntries': WHATEVER THE INPUT: true; the input reads as it did. -/
def encodeEntriesSpec : ChangeSpec := { name := "encodeEntries", fn := fun _ => fun
  | [d1, d2, d3] => { results := [.lit (.bool true)], args := [d1, d2, d3] }
  | _ => none }
def encodeEntriesRow : OpenClaim := { program := "ytoilebmbljpieaagreatdoor", sum := "8f95bfdb5200a3d60936bd97df9b7c8bd066a26b8aa05fa2df5da4f2a73858de", func := "breadboard/breadboardlaw11.EncodeEntries", spec := "encodeEntries", inPlace := ["internal/bytealg.IndexByteString", "internal/bytealg.IndexString", "slices.overlaps[breadboard/api.Operand]"], unfollowed := true, recurses := true, named := ["internal/bytealg.MaxLen", "unicode/utf8.first", "unicode/utf8.acceptRanges"], apart := false, laid := [("unicode/utf8.acceptRanges", laid_unicode_utf8_acceptRanges), ("unicode/utf8.first", laid_unicode_utf8_first)] }
def EncodeEntriesSaid : Prop := encodeEntriesRow.holds Tryz.pinned (OpenSpec.ofChange encodeEntriesSpec)

/-- ITS FALSE NEIGHBOUR: 'it returns false'. Refute it at one input. -/
def encodeEntriesWrong : ChangeSpec := { name := "encodeEntries", fn := fun _ => fun
  | [d1, d2, d3] => { results := [.lit (.bool false)], args := [d1, d2, d3] }
  | _ => none }
def EncodeEntriesWrongFalsely : Prop := encodeEntriesRow.holds Tryz.pinned (OpenSpec.ofChange encodeEntriesWrong)

/-- 'breadboardlaw11.EncodeForms': WHATEVER THE INPUT: true; the input reads as it did. -/
def encodeFormsSpec : ChangeSpec := { name := "encodeForms", fn := fun _ => fun
  | [d] => { results := [.lit (.bool true)], args := [d] }
  | _ => none }
def encodeFormsRow : OpenClaim := { program := "ytoilebmbljpieaagreatdoor", sum := "8f95bfdb5200a3d60936bd97df9b7c8bd066a26b8aa05fa2df5da4f2a73858de", func := "breadboard/breadboardlaw11.EncodeForms", spec := "encodeForms", inPlace := ["slices.overlaps[breadboard/api.Operand]", "internal/bytealg.IndexByteString", "internal/bytealg.IndexString"], unfollowed := true, recurses := true, named := ["unicode/utf8.first", "unicode/utf8.acceptRanges", "internal/bytealg.MaxLen"], apart := false, laid := [("unicode/utf8.acceptRanges", laid_unicode_utf8_acceptRanges), ("unicode/utf8.first", laid_unicode_utf8_first)] }
def EncodeFormsSaid : Prop := encodeFormsRow.holds Tryz.pinned (OpenSpec.ofChange encodeFormsSpec)

/-- ITS FALSE NEIGHBOUR: 'it returns false'. Refute it at one input. -/
def encodeFormsWrong : ChangeSpec := { name := "encodeForms", fn := fun _ => fun
  | [d] => { results := [.lit (.bool false)], args := [d] }
  | _ => none }
def EncodeFormsWrongFalsely : Prop := encodeFormsRow.holds Tryz.pinned (OpenSpec.ofChange encodeFormsWrong)

/-- 'breadboardlaw11.EncodeApart': WHATEVER THE INPUT: true; the input reads as it did. -/
def encodeApartSpec : ChangeSpec := { name := "encodeApart", fn := fun _ => fun
  | [d1, d2] => { results := [.lit (.bool true)], args := [d1, d2] }
  | _ => none }
def encodeApartRow : OpenClaim := { program := "ytoilebmbljpieaagreatdoor", sum := "8f95bfdb5200a3d60936bd97df9b7c8bd066a26b8aa05fa2df5da4f2a73858de", func := "breadboard/breadboardlaw11.EncodeApart", spec := "encodeApart", inPlace := ["slices.overlaps[breadboard/api.Operand]", "internal/bytealg.IndexByteString", "internal/bytealg.IndexString"], unfollowed := true, recurses := true, named := ["unicode/utf8.first", "unicode/utf8.acceptRanges", "internal/bytealg.MaxLen"], apart := false, laid := [("unicode/utf8.acceptRanges", laid_unicode_utf8_acceptRanges), ("unicode/utf8.first", laid_unicode_utf8_first)] }
def EncodeApartSaid : Prop := encodeApartRow.holds Tryz.pinned (OpenSpec.ofChange encodeApartSpec)

/-- ITS FALSE NEIGHBOUR: 'it returns false'. Refute it at one input. -/
def encodeApartWrong : ChangeSpec := { name := "encodeApart", fn := fun _ => fun
  | [d1, d2] => { results := [.lit (.bool false)], args := [d1, d2] }
  | _ => none }
def EncodeApartWrongFalsely : Prop := encodeApartRow.holds Tryz.pinned (OpenSpec.ofChange encodeApartWrong)

/-- 'breadboardlaw11.EncodeJumps': WHATEVER THE INPUT: true; the input reads as it did. -/
def encodeJumpsSpec : ChangeSpec := { name := "encodeJumps", fn := fun _ => fun
  | [d1, d2] => { results := [.lit (.bool true)], args := [d1, d2] }
  | _ => none }
def encodeJumpsRow : OpenClaim := { program := "ytoilebmbljpieaagreatdoor", sum := "8f95bfdb5200a3d60936bd97df9b7c8bd066a26b8aa05fa2df5da4f2a73858de", func := "breadboard/breadboardlaw11.EncodeJumps", spec := "encodeJumps", inPlace := ["slices.overlaps[breadboard/api.Operand]", "internal/bytealg.IndexByteString", "internal/bytealg.IndexString"], unfollowed := true, recurses := true, named := ["unicode/utf8.first", "unicode/utf8.acceptRanges", "internal/bytealg.MaxLen"], apart := false, laid := [("unicode/utf8.acceptRanges", laid_unicode_utf8_acceptRanges), ("unicode/utf8.first", laid_unicode_utf8_first)] }
def EncodeJumpsSaid : Prop := encodeJumpsRow.holds Tryz.pinned (OpenSpec.ofChange encodeJumpsSpec)

/-- ITS FALSE NEIGHBOUR: 'it returns false'. Refute it at one input. -/
def encodeJumpsWrong : ChangeSpec := { name := "encodeJumps", fn := fun _ => fun
  | [d1, d2] => { results := [.lit (.bool false)], args := [d1, d2] }
  | _ => none }
def EncodeJumpsWrongFalsely : Prop := encodeJumpsRow.holds Tryz.pinned (OpenSpec.ofChange encodeJumpsWrong)

/- THE SECOND FORM. 'bulk': how many values and letters a reading holds, each counted each time it is reached (what is shared counts as often as it is met; a slice's spare places count too). A statement '..UptoSaid' is the law's where the arguments, and the package variables that the reading takes, are together of bulk at most 1048576: NARROWER than '..Said'. Prove '..Said' where nothing that the law and all that it calls make is longer than what came in: it says more and counts as full. Else prove '..UptoSaid'. A law counts once. -/
mutual
def uptoBulk {H : Type} : DataW H → Nat
  | .lit (.string bytes) => bytes.length + 1
  | .lit _ => 1
  | .nil => 1
  | .ptr d => uptoBulk d + 1
  | .slice elems spare => uptoBulkAll elems + uptoBulkAll spare + 1
  | .agg parts => uptoBulkAll parts + 1
  | .iface _ d => uptoBulk d + 1
  | .map entries => uptoBulkEntries entries + 1
  | .held _ => 1
def uptoBulkAll {H : Type} : List (DataW H) → Nat
  | [] => 0
  | d :: r => uptoBulk d + uptoBulkAll r
def uptoBulkEntries {H : Type} : List (Lit × DataW H) → Nat
  | [] => 0
  | x :: r => uptoBulkEntry x + uptoBulkEntries r
def uptoBulkEntry {H : Type} : Lit × DataW H → Nat
  | (.string bytes, d) => bytes.length + uptoBulk d + 1
  | (_, d) => uptoBulk d + 1
 end
def uptoSmall : (H : Type) → List (DataW H) → Bool := fun _ ds => decide (uptoBulkAll ds ≤ 1048576)
def OpenSpec.upto (s : _root_.Go.ChangeSpec) : _root_.Go.OpenSpec := { _root_.Go.OpenSpec.ofChange s with cond := some uptoSmall }

/-- 'breadboardlaw11.EncodeLists', WHERE WHAT IT READS IS OF BULK AT MOST 1048576: true; the input reads as it did. -/
def encodeListsUptoRow : OpenClaim := { program := "ytoilebmbljpieaagreatdoor", sum := "8f95bfdb5200a3d60936bd97df9b7c8bd066a26b8aa05fa2df5da4f2a73858de", func := "breadboard/breadboardlaw11.EncodeLists", spec := "encodeLists", inPlace := ["slices.overlaps[breadboard/api.Operand]", "internal/bytealg.IndexByteString", "internal/bytealg.IndexString"], unfollowed := true, recurses := true, named := ["unicode/utf8.first", "unicode/utf8.acceptRanges", "internal/bytealg.MaxLen"], apart := false, laid := [("unicode/utf8.acceptRanges", laid_unicode_utf8_acceptRanges), ("unicode/utf8.first", laid_unicode_utf8_first)], narrowed := true }
def EncodeListsUptoSaid : Prop := encodeListsUptoRow.holds Tryz.pinned (OpenSpec.upto encodeListsSpec)

/-- 'breadboardlaw11.EncodeEntries', WHERE WHAT IT READS IS OF BULK AT MOST 1048576: true; the input reads as it did. -/
def encodeEntriesUptoRow : OpenClaim := { program := "ytoilebmbljpieaagreatdoor", sum := "8f95bfdb5200a3d60936bd97df9b7c8bd066a26b8aa05fa2df5da4f2a73858de", func := "breadboard/breadboardlaw11.EncodeEntries", spec := "encodeEntries", inPlace := ["internal/bytealg.IndexByteString", "internal/bytealg.IndexString", "slices.overlaps[breadboard/api.Operand]"], unfollowed := true, recurses := true, named := ["internal/bytealg.MaxLen", "unicode/utf8.first", "unicode/utf8.acceptRanges"], apart := false, laid := [("unicode/utf8.acceptRanges", laid_unicode_utf8_acceptRanges), ("unicode/utf8.first", laid_unicode_utf8_first)], narrowed := true }
def EncodeEntriesUptoSaid : Prop := encodeEntriesUptoRow.holds Tryz.pinned (OpenSpec.upto encodeEntriesSpec)

/-- 'breadboardlaw11.EncodeForms', WHERE WHAT IT READS IS OF BULK AT MOST 1048576: true; the input reads as it did. -/
def encodeFormsUptoRow : OpenClaim := { program := "ytoilebmbljpieaagreatdoor", sum := "8f95bfdb5200a3d60936bd97df9b7c8bd066a26b8aa05fa2df5da4f2a73858de", func := "breadboard/breadboardlaw11.EncodeForms", spec := "encodeForms", inPlace := ["slices.overlaps[breadboard/api.Operand]", "internal/bytealg.IndexByteString", "internal/bytealg.IndexString"], unfollowed := true, recurses := true, named := ["unicode/utf8.first", "unicode/utf8.acceptRanges", "internal/bytealg.MaxLen"], apart := false, laid := [("unicode/utf8.acceptRanges", laid_unicode_utf8_acceptRanges), ("unicode/utf8.first", laid_unicode_utf8_first)], narrowed := true }
def EncodeFormsUptoSaid : Prop := encodeFormsUptoRow.holds Tryz.pinned (OpenSpec.upto encodeFormsSpec)

/-- 'breadboardlaw11.EncodeApart', WHERE WHAT IT READS IS OF BULK AT MOST 1048576: true; the input reads as it did. -/
def encodeApartUptoRow : OpenClaim := { program := "ytoilebmbljpieaagreatdoor", sum := "8f95bfdb5200a3d60936bd97df9b7c8bd066a26b8aa05fa2df5da4f2a73858de", func := "breadboard/breadboardlaw11.EncodeApart", spec := "encodeApart", inPlace := ["slices.overlaps[breadboard/api.Operand]", "internal/bytealg.IndexByteString", "internal/bytealg.IndexString"], unfollowed := true, recurses := true, named := ["unicode/utf8.first", "unicode/utf8.acceptRanges", "internal/bytealg.MaxLen"], apart := false, laid := [("unicode/utf8.acceptRanges", laid_unicode_utf8_acceptRanges), ("unicode/utf8.first", laid_unicode_utf8_first)], narrowed := true }
def EncodeApartUptoSaid : Prop := encodeApartUptoRow.holds Tryz.pinned (OpenSpec.upto encodeApartSpec)

/-- 'breadboardlaw11.EncodeJumps', WHERE WHAT IT READS IS OF BULK AT MOST 1048576: true; the input reads as it did. -/
def encodeJumpsUptoRow : OpenClaim := { program := "ytoilebmbljpieaagreatdoor", sum := "8f95bfdb5200a3d60936bd97df9b7c8bd066a26b8aa05fa2df5da4f2a73858de", func := "breadboard/breadboardlaw11.EncodeJumps", spec := "encodeJumps", inPlace := ["slices.overlaps[breadboard/api.Operand]", "internal/bytealg.IndexByteString", "internal/bytealg.IndexString"], unfollowed := true, recurses := true, named := ["unicode/utf8.first", "unicode/utf8.acceptRanges", "internal/bytealg.MaxLen"], apart := false, laid := [("unicode/utf8.acceptRanges", laid_unicode_utf8_acceptRanges), ("unicode/utf8.first", laid_unicode_utf8_first)], narrowed := true }
def EncodeJumpsUptoSaid : Prop := encodeJumpsUptoRow.holds Tryz.pinned (OpenSpec.upto encodeJumpsSpec)

end Rows
end Go.Proofs.YtoilebmbljpieaaGreatDoor
