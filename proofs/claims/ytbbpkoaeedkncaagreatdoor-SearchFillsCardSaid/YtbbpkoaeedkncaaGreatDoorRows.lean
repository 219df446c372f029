/-
  NARROWER THAN 'FOR EVERY INPUT', by the rows' own cells (each row's printed sentence says how): SearchFits: laid · SearchFills: laid · SearchBack: laid · SearchLists: laid.
  DERIVED. THE GIVEN ROWS OF THIS SEAT. 4 by the template 'for every input the law returns true; each argument reads behind the call as it read before'; 0 by the template 'total and deterministic' (their statements: YtbbpkoaeedkncaaGreatDoorTotals.lean).
  GIVEN WITH THE SEED: the statements are not yours to turn. If you find one false, say at which input.
  Laid BY PROGRAM, IN A SANDBOX (cutbox-rows.mjs): the forced cells as the released guide's own fill.sh prints them over the translation 0b6c03df7a55f709… (all of the seat's roots in one cut). By AI agents, Wed Nov 11 2026. No macro, syntax, notation, axiom, sorry.
-/
import Derived.Test.YtbbpkoaeedkncaaGreatDoorChecked
import GoSem.PinnedTables
import GoSem.Claim
import GoSem.ClaimJoined
import GoSem.ClaimMapViews
import Derived.JoinedTies
import Derived.KernelRfl
namespace Go.Proofs.YtbbpkoaeedkncaaGreatDoor
/- THE CELL 'sum', in the pinned program and in every row, IS THE sha256 OF THE DUMP (.gsa) THAT YtbbpkoaeedkncaaGreatDoorProg.lean LOADS. Nothing in Lean hashes anything: it is a label: what it is worth is what the hold of that sum in a sandbox is worth. -/
noncomputable def Tryz.pinned : Pinned := { name := "ytbbpkoaeedkncaagreatdoor", sum := "0b6c03df7a55f70902ca52f2b787a0e2878fcce84810ecc6fc59187681e6e195", checked := Tryz.checked }
namespace Rows
def none {H : Type} : Left H := { results := [], args := [] }

/- WHAT THE LISTED PACKAGE-LEVEL VARIABLES READ AS WHEN THE CALL BEGINS. Each datum BY PROGRAM (the guide's laid-datum.mjs) off the statement by which the dump's own 'gosem.cut.vars' lays the variable. In a bare row this is a premise. The card (YtbbpkoaeedkncaaGreatDoorCards.lean) ties it to the program's text. -/
def laid_unicode_utf8_acceptRanges {H : Type} : DataW H := .agg [.agg [.lit (.int .u8 128), .lit (.int .u8 191)], .agg [.lit (.int .u8 160), .lit (.int .u8 191)], .agg [.lit (.int .u8 128), .lit (.int .u8 159)], .agg [.lit (.int .u8 144), .lit (.int .u8 191)], .agg [.lit (.int .u8 128), .lit (.int .u8 143)], .agg [.lit (.int .u8 0), .lit (.int .u8 0)], .agg [.lit (.int .u8 0), .lit (.int .u8 0)], .agg [.lit (.int .u8 0), .lit (.int .u8 0)], .agg [.lit (.int .u8 0), .lit (.int .u8 0)], .agg [.lit (.int .u8 0), .lit (.int .u8 0)], .agg [.lit (.int .u8 0), .lit (.int .u8 0)], .agg [.lit (.int .u8 0), .lit (.int .u8 0)], .agg [.lit (.int .u8 0), .lit (.int .u8 0)], .agg [.lit (.int .u8 0), .lit (.int .u8 0)], .agg [.lit (.int .u8 0), .lit (.int .u8 0)], .agg [.lit (.int .u8 0), .lit (.int .u8 0)]]
/-- One of Go's own tables, pinned by name: the form's constant. -/
def laid_unicode_utf8_first : DataW Unit := Go.Pinned.utf8First

/-- 'breadboardlaw10.SearchFits': WHATEVER THE INPUT: true; the input reads as it did. -/
def searchFitsSpec : ChangeSpec := { name := "searchFits", fn := fun _ => fun
  | [d1, d2, d3] => { results := [.lit (.bool true)], args := [d1, d2, d3] }
  | _ => none }
def searchFitsRow : OpenClaim := { program := "ytbbpkoaeedkncaagreatdoor", sum := "0b6c03df7a55f70902ca52f2b787a0e2878fcce84810ecc6fc59187681e6e195", func := "breadboard/breadboardlaw10.SearchFits", spec := "searchFits", inPlace := ["internal/bytealg.IndexByteString", "internal/bytealg.IndexString", "slices.overlaps[breadboard/api.Operand]"], unfollowed := true, recurses := true, named := ["internal/bytealg.MaxLen", "unicode/utf8.first", "unicode/utf8.acceptRanges"], apart := false, laid := [("unicode/utf8.acceptRanges", laid_unicode_utf8_acceptRanges), ("unicode/utf8.first", laid_unicode_utf8_first)] }
def SearchFitsSaid : Prop := searchFitsRow.holds Tryz.pinned (OpenSpec.ofChange searchFitsSpec)

/-- ITS FALSE NEIGHBOUR: 'it returns false'. Refute it at one input. -/
def searchFitsWrong : ChangeSpec := { name := "searchFits", fn := fun _ => fun
  | [d1, d2, d3] => { results := [.lit (.bool false)], args := [d1, d2, d3] }
  | _ => none }
def SearchFitsWrongFalsely : Prop := searchFitsRow.holds Tryz.pinned (OpenSpec.ofChange searchFitsWrong)

/-- 'breadboardlaw10.SearchFills': WHATEVER THE INPUT: true; the input reads as it did. -/
def searchFillsSpec : ChangeSpec := { name := "searchFills", fn := fun _ => fun
  | [d1, d2, d3] => { results := [.lit (.bool true)], args := [d1, d2, d3] }
  | _ => none }
def searchFillsRow : OpenClaim := { program := "ytbbpkoaeedkncaagreatdoor", sum := "0b6c03df7a55f70902ca52f2b787a0e2878fcce84810ecc6fc59187681e6e195", func := "breadboard/breadboardlaw10.SearchFills", spec := "searchFills", inPlace := ["internal/bytealg.IndexByteString", "internal/bytealg.IndexString", "slices.overlaps[breadboard/api.Operand]"], unfollowed := true, recurses := true, named := ["internal/bytealg.MaxLen", "unicode/utf8.first", "unicode/utf8.acceptRanges"], apart := false, laid := [("unicode/utf8.acceptRanges", laid_unicode_utf8_acceptRanges), ("unicode/utf8.first", laid_unicode_utf8_first)] }
def SearchFillsSaid : Prop := searchFillsRow.holds Tryz.pinned (OpenSpec.ofChange searchFillsSpec)

/-- ITS FALSE NEIGHBOUR: 'it returns false'. Refute it at one input. -/
def searchFillsWrong : ChangeSpec := { name := "searchFills", fn := fun _ => fun
  | [d1, d2, d3] => { results := [.lit (.bool false)], args := [d1, d2, d3] }
  | _ => none }
def SearchFillsWrongFalsely : Prop := searchFillsRow.holds Tryz.pinned (OpenSpec.ofChange searchFillsWrong)

/-- 'breadboardlaw10.SearchBack': WHATEVER THE INPUT: true; the input reads as it did. -/
def searchBackSpec : ChangeSpec := { name := "searchBack", fn := fun _ => fun
  | [d] => { results := [.lit (.bool true)], args := [d] }
  | _ => none }
def searchBackRow : OpenClaim := { program := "ytbbpkoaeedkncaagreatdoor", sum := "0b6c03df7a55f70902ca52f2b787a0e2878fcce84810ecc6fc59187681e6e195", func := "breadboard/breadboardlaw10.SearchBack", spec := "searchBack", inPlace := ["slices.overlaps[breadboard/api.Operand]", "internal/bytealg.IndexByteString", "internal/bytealg.IndexString"], unfollowed := true, recurses := true, named := ["unicode/utf8.first", "unicode/utf8.acceptRanges", "internal/bytealg.MaxLen"], apart := false, laid := [("unicode/utf8.acceptRanges", laid_unicode_utf8_acceptRanges), ("unicode/utf8.first", laid_unicode_utf8_first)] }
def SearchBackSaid : Prop := searchBackRow.holds Tryz.pinned (OpenSpec.ofChange searchBackSpec)

/-- ITS FALSE NEIGHBOUR: 'it returns false'. Refute it at one input. -/
def searchBackWrong : ChangeSpec := { name := "searchBack", fn := fun _ => fun
  | [d] => { results := [.lit (.bool false)], args := [d] }
  | _ => none }
def SearchBackWrongFalsely : Prop := searchBackRow.holds Tryz.pinned (OpenSpec.ofChange searchBackWrong)

/-- 'breadboardlaw10.SearchLists': WHATEVER THE INPUT: true; the input reads as it did. -/
def searchListsSpec : ChangeSpec := { name := "searchLists", fn := fun _ => fun
  | [d] => { results := [.lit (.bool true)], args := [d] }
  | _ => none }
def searchListsRow : OpenClaim := { program := "ytbbpkoaeedkncaagreatdoor", sum := "0b6c03df7a55f70902ca52f2b787a0e2878fcce84810ecc6fc59187681e6e195", func := "breadboard/breadboardlaw10.SearchLists", spec := "searchLists", inPlace := ["slices.overlaps[breadboard/api.Operand]", "internal/bytealg.IndexByteString", "internal/bytealg.IndexString"], unfollowed := true, recurses := true, named := ["unicode/utf8.first", "unicode/utf8.acceptRanges", "internal/bytealg.MaxLen"], apart := false, laid := [("unicode/utf8.acceptRanges", laid_unicode_utf8_acceptRanges), ("unicode/utf8.first", laid_unicode_utf8_first)] }
def SearchListsSaid : Prop := searchListsRow.holds Tryz.pinned (OpenSpec.ofChange searchListsSpec)

/-- ITS FALSE NEIGHBOUR: 'it returns false'. Refute it at one input. -/
def searchListsWrong : ChangeSpec := { name := "searchLists", fn := fun _ => fun
  | [d] => { results := [.lit (.bool false)], args := [d] }
  | _ => none }
def SearchListsWrongFalsely : Prop := searchListsRow.holds Tryz.pinned (OpenSpec.ofChange searchListsWrong)

/- THE SECOND FORM. 'bulk': how many values and letters a reading holds, each counted each time it is reached (what is shared counts as often as it is met; a slice's spare places count too). A statement '..UptoSaid' is the law's where the arguments, and the package variables that the reading takes, are together of bulk at most 1048576: NARROWER than '..Said'. Prove '..Said' where nothing that the law and all that it calls make is longer than what came in: it says more and counts as full. Else prove '..UptoSaid'. A law counts once. -/
mutual
def uptoBulk {H : Type} : DataW H → Nat
  | .lit (.string bytes) => bytes.length + 1
  | .lit _ => 1
  | .nil => 1
  | .ptr d => uptoBulk d + 1
  | .slice elems spare => uptoBulkAll elems + uptoBulkAll spare + 1
  | .agg parts => uptoBulkAll parts + 1
  | .iface _ d => uptoBulk d + 1
  | .map entries => uptoBulkEntries entries + 1
  | .held _ => 1
def uptoBulkAll {H : Type} : List (DataW H) → Nat
  | [] => 0
  | d :: r => uptoBulk d + uptoBulkAll r
def uptoBulkEntries {H : Type} : List (Lit × DataW H) → Nat
  | [] => 0
  | x :: r => uptoBulkEntry x + uptoBulkEntries r
def uptoBulkEntry {H : Type} : Lit × DataW H → Nat
  | (.string bytes, d) => bytes.length + uptoBulk d + 1
  | (_, d) => uptoBulk d + 1
 end
def uptoSmall : (H : Type) → List (DataW H) → Bool := fun _ ds => decide (uptoBulkAll ds ≤ 1048576)
def OpenSpec.upto (s : _root_.Go.ChangeSpec) : _root_.Go.OpenSpec := { _root_.Go.OpenSpec.ofChange s with cond := some uptoSmall }

/-- 'breadboardlaw10.SearchFits', WHERE WHAT IT READS IS OF BULK AT MOST 1048576: true; the input reads as it did. -/
def searchFitsUptoRow : OpenClaim := { program := "ytbbpkoaeedkncaagreatdoor", sum := "0b6c03df7a55f70902ca52f2b787a0e2878fcce84810ecc6fc59187681e6e195", func := "breadboard/breadboardlaw10.SearchFits", spec := "searchFits", inPlace := ["internal/bytealg.IndexByteString", "internal/bytealg.IndexString", "slices.overlaps[breadboard/api.Operand]"], unfollowed := true, recurses := true, named := ["internal/bytealg.MaxLen", "unicode/utf8.first", "unicode/utf8.acceptRanges"], apart := false, laid := [("unicode/utf8.acceptRanges", laid_unicode_utf8_acceptRanges), ("unicode/utf8.first", laid_unicode_utf8_first)], narrowed := true }
def SearchFitsUptoSaid : Prop := searchFitsUptoRow.holds Tryz.pinned (OpenSpec.upto searchFitsSpec)

/-- 'breadboardlaw10.SearchFills', WHERE WHAT IT READS IS OF BULK AT MOST 1048576: true; the input reads as it did. -/
def searchFillsUptoRow : OpenClaim := { program := "ytbbpkoaeedkncaagreatdoor", sum := "0b6c03df7a55f70902ca52f2b787a0e2878fcce84810ecc6fc59187681e6e195", func := "breadboard/breadboardlaw10.SearchFills", spec := "searchFills", inPlace := ["internal/bytealg.IndexByteString", "internal/bytealg.IndexString", "slices.overlaps[breadboard/api.Operand]"], unfollowed := true, recurses := true, named := ["internal/bytealg.MaxLen", "unicode/utf8.first", "unicode/utf8.acceptRanges"], apart := false, laid := [("unicode/utf8.acceptRanges", laid_unicode_utf8_acceptRanges), ("unicode/utf8.first", laid_unicode_utf8_first)], narrowed := true }
def SearchFillsUptoSaid : Prop := searchFillsUptoRow.holds Tryz.pinned (OpenSpec.upto searchFillsSpec)

/-- 'breadboardlaw10.SearchBack', WHERE WHAT IT READS IS OF BULK AT MOST 1048576: true; the input reads as it did. -/
def searchBackUptoRow : OpenClaim := { program := "ytbbpkoaeedkncaagreatdoor", sum := "0b6c03df7a55f70902ca52f2b787a0e2878fcce84810ecc6fc59187681e6e195", func := "breadboard/breadboardlaw10.SearchBack", spec := "searchBack", inPlace := ["slices.overlaps[breadboard/api.Operand]", "internal/bytealg.IndexByteString", "internal/bytealg.IndexString"], unfollowed := true, recurses := true, named := ["unicode/utf8.first", "unicode/utf8.acceptRanges", "internal/bytealg.MaxLen"], apart := false, laid := [("unicode/utf8.acceptRanges", laid_unicode_utf8_acceptRanges), ("unicode/utf8.first", laid_unicode_utf8_first)], narrowed := true }
def SearchBackUptoSaid : Prop := searchBackUptoRow.holds Tryz.pinned (OpenSpec.upto searchBackSpec)

/-- 'breadboardlaw10.SearchLists', WHERE WHAT IT READS IS OF BULK AT MOST 1048576: true; the input reads as it did. -/
def searchListsUptoRow : OpenClaim := { program := "ytbbpkoaeedkncaagreatdoor", sum := "0b6c03df7a55f70902ca52f2b787a0e2878fcce84810ecc6fc59187681e6e195", func := "breadboard/breadboardlaw10.SearchLists", spec := "searchLists", inPlace := ["slices.overlaps[breadboard/api.Operand]", "internal/bytealg.IndexByteString", "internal/bytealg.IndexString"], unfollowed := true, recurses := true, named := ["unicode/utf8.first", "unicode/utf8.acceptRanges", "internal/bytealg.MaxLen"], apart := false, laid := [("unicode/utf8.acceptRanges", laid_unicode_utf8_acceptRanges), ("unicode/utf8.first", laid_unicode_utf8_first)], narrowed := true }
def SearchListsUptoSaid : Prop := searchListsUptoRow.holds Tryz.pinned (OpenSpec.upto searchListsSpec)

end Rows
end Go.Proofs.YtbbpkoaeedkncaaGreatDoor
