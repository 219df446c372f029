/-
  NARROWER THAN 'FOR EVERY INPUT', by the rows' own cells (each row's printed sentence says how): OperandTexts: laid · OperandNames: laid · OperandOnce: laid · OperandLists: laid · OperandIndexes: laid.
  DERIVED. THE GIVEN ROWS OF THIS SEAT. 5 by the template 'for every input the law returns true; each argument reads behind the call as it read before'; 0 by the template 'total and deterministic' (their statements: YtbcbhdhhinopaaaDoorTotals.lean).
  GIVEN WITH THE SEED: the statements are not yours to turn. If you find one false, say at which input.
  Laid BY PROGRAM, IN A SANDBOX (cutbox-rows.mjs): the forced cells as the released guide's own fill.sh prints them over the translation 7ea0630cb2cb4d1b… (all of the seat's roots in one cut). By AI agents, Wed Nov 11 2026. No macro, syntax, notation, axiom, sorry.
-/
import Derived.Test.YtbcbhdhhinopaaaDoorChecked
import GoSem.PinnedTables
import GoSem.Claim
import GoSem.ClaimJoined
import GoSem.ClaimMapViews
import Derived.JoinedTies
import Derived.KernelRfl
namespace Go.Proofs.YtbcbhdhhinopaaaDoor
/- THE CELL 'sum', in the pinned program and in every row, IS THE sha256 OF THE DUMP (.gsa) THAT YtbcbhdhhinopaaaDoorProg.lean LOADS. Nothing in Lean hashes anything: it is a label: what it is worth is what the hold of that sum in a sandbox is worth. -/
noncomputable def Tryd.pinned : Pinned := { name := "ytbcbhdhhinopaaadoor", sum := "7ea0630cb2cb4d1b862d619d8c153b5465584fe14ec232748c9a0e43d14bf108", checked := Tryd.checked }
namespace Rows
def none {H : Type} : Left H := { results := [], args := [] }

/- WHAT THE LISTED PACKAGE-LEVEL VARIABLES READ AS WHEN THE CALL BEGINS. Each datum BY PROGRAM (the guide's laid-datum.mjs) off the statement by which the dump's own 'gosem.cut.vars' lays the variable. In a bare row this is a premise. The card (YtbcbhdhhinopaaaDoorCards.lean) ties it to the program's text. -/
def laid_unicode_utf8_acceptRanges {H : Type} : DataW H := .agg [.agg [.lit (.int .u8 128), .lit (.int .u8 191)], .agg [.lit (.int .u8 160), .lit (.int .u8 191)], .agg [.lit (.int .u8 128), .lit (.int .u8 159)], .agg [.lit (.int .u8 144), .lit (.int .u8 191)], .agg [.lit (.int .u8 128), .lit (.int .u8 143)], .agg [.lit (.int .u8 0), .lit (.int .u8 0)], .agg [.lit (.int .u8 0), .lit (.int .u8 0)], .agg [.lit (.int .u8 0), .lit (.int .u8 0)], .agg [.lit (.int .u8 0), .lit (.int .u8 0)], .agg [.lit (.int .u8 0), .lit (.int .u8 0)], .agg [.lit (.int .u8 0), .lit (.int .u8 0)], .agg [.lit (.int .u8 0), .lit (.int .u8 0)], .agg [.lit (.int .u8 0), .lit (.int .u8 0)], .agg [.lit (.int .u8 0), .lit (.int .u8 0)], .agg [.lit (.int .u8 0), .lit (.int .u8 0)], .agg [.lit (.int .u8 0), .lit (.int .u8 0)]]
/-- One of Go's own tables, pinned by name: the form's constant. -/
def laid_unicode_utf8_first : DataW Unit := Go.Pinned.utf8First

/-- 'breadboardlaw06.OperandTexts': WHATEVER THE INPUT: true; the input reads as it did. -/
def operandTextsSpec : ChangeSpec := { name := "operandTexts", fn := fun _ => fun
  | [d] => { results := [.lit (.bool true)], args := [d] }
  | _ => none }
def operandTextsRow : OpenClaim := { program := "ytbcbhdhhinopaaadoor", sum := "7ea0630cb2cb4d1b862d619d8c153b5465584fe14ec232748c9a0e43d14bf108", func := "breadboard/breadboardlaw06.OperandTexts", spec := "operandTexts", inPlace := ["internal/bytealg.IndexByteString", "internal/bytealg.IndexString"], unfollowed := true, recurses := true, named := ["unicode/utf8.first", "unicode/utf8.acceptRanges", "internal/bytealg.MaxLen"], apart := false, laid := [("unicode/utf8.acceptRanges", laid_unicode_utf8_acceptRanges), ("unicode/utf8.first", laid_unicode_utf8_first)] }
def OperandTextsSaid : Prop := operandTextsRow.holds Tryd.pinned (OpenSpec.ofChange operandTextsSpec)

/-- ITS FALSE NEIGHBOUR: 'it returns false'. Refute it at one input. -/
def operandTextsWrong : ChangeSpec := { name := "operandTexts", fn := fun _ => fun
  | [d] => { results := [.lit (.bool false)], args := [d] }
  | _ => none }
def OperandTextsWrongFalsely : Prop := operandTextsRow.holds Tryd.pinned (OpenSpec.ofChange operandTextsWrong)

/-- 'breadboardlaw06.OperandNames': WHATEVER THE INPUT: true; the input reads as it did. -/
def operandNamesSpec : ChangeSpec := { name := "operandNames", fn := fun _ => fun
  | [d] => { results := [.lit (.bool true)], args := [d] }
  | _ => none }
def operandNamesRow : OpenClaim := { program := "ytbcbhdhhinopaaadoor", sum := "7ea0630cb2cb4d1b862d619d8c153b5465584fe14ec232748c9a0e43d14bf108", func := "breadboard/breadboardlaw06.OperandNames", spec := "operandNames", inPlace := ["internal/bytealg.IndexByteString", "internal/bytealg.IndexString"], unfollowed := true, recurses := true, named := ["unicode/utf8.first", "unicode/utf8.acceptRanges", "internal/bytealg.MaxLen"], apart := false, laid := [("unicode/utf8.acceptRanges", laid_unicode_utf8_acceptRanges), ("unicode/utf8.first", laid_unicode_utf8_first)] }
def OperandNamesSaid : Prop := operandNamesRow.holds Tryd.pinned (OpenSpec.ofChange operandNamesSpec)

/-- ITS FALSE NEIGHBOUR: 'it returns false'. Refute it at one input. -/
def operandNamesWrong : ChangeSpec := { name := "operandNames", fn := fun _ => fun
  | [d] => { results := [.lit (.bool false)], args := [d] }
  | _ => none }
def OperandNamesWrongFalsely : Prop := operandNamesRow.holds Tryd.pinned (OpenSpec.ofChange operandNamesWrong)

/-- 'breadboardlaw06.OperandOnce': WHATEVER THE INPUT: true; the input reads as it did. -/
def operandOnceSpec : ChangeSpec := { name := "operandOnce", fn := fun _ => fun
  | [d1, d2] => { results := [.lit (.bool true)], args := [d1, d2] }
  | _ => none }
def operandOnceRow : OpenClaim := { program := "ytbcbhdhhinopaaadoor", sum := "7ea0630cb2cb4d1b862d619d8c153b5465584fe14ec232748c9a0e43d14bf108", func := "breadboard/breadboardlaw06.OperandOnce", spec := "operandOnce", inPlace := ["internal/bytealg.IndexByteString", "internal/bytealg.IndexString"], unfollowed := true, recurses := true, named := ["unicode/utf8.first", "unicode/utf8.acceptRanges", "internal/bytealg.MaxLen"], apart := false, laid := [("unicode/utf8.acceptRanges", laid_unicode_utf8_acceptRanges), ("unicode/utf8.first", laid_unicode_utf8_first)] }
def OperandOnceSaid : Prop := operandOnceRow.holds Tryd.pinned (OpenSpec.ofChange operandOnceSpec)

/-- ITS FALSE NEIGHBOUR: 'it returns false'. Refute it at one input. -/
def operandOnceWrong : ChangeSpec := { name := "operandOnce", fn := fun _ => fun
  | [d1, d2] => { results := [.lit (.bool false)], args := [d1, d2] }
  | _ => none }
def OperandOnceWrongFalsely : Prop := operandOnceRow.holds Tryd.pinned (OpenSpec.ofChange operandOnceWrong)

/-- 'breadboardlaw06.OperandLists': WHATEVER THE INPUT: true; the input reads as it did. -/
def operandListsSpec : ChangeSpec := { name := "operandLists", fn := fun _ => fun
  | [d] => { results := [.lit (.bool true)], args := [d] }
  | _ => none }
def operandListsRow : OpenClaim := { program := "ytbcbhdhhinopaaadoor", sum := "7ea0630cb2cb4d1b862d619d8c153b5465584fe14ec232748c9a0e43d14bf108", func := "breadboard/breadboardlaw06.OperandLists", spec := "operandLists", inPlace := ["internal/bytealg.IndexByteString", "internal/bytealg.IndexString", "internal/abi.NoEscape", "internal/bytealg.MakeNoZero"], unfollowed := true, recurses := true, named := ["unicode/utf8.first", "unicode/utf8.acceptRanges", "internal/bytealg.MaxLen"], apart := false, laid := [("unicode/utf8.acceptRanges", laid_unicode_utf8_acceptRanges), ("unicode/utf8.first", laid_unicode_utf8_first)] }
def OperandListsSaid : Prop := operandListsRow.holds Tryd.pinned (OpenSpec.ofChange operandListsSpec)

/-- ITS FALSE NEIGHBOUR: 'it returns false'. Refute it at one input. -/
def operandListsWrong : ChangeSpec := { name := "operandLists", fn := fun _ => fun
  | [d] => { results := [.lit (.bool false)], args := [d] }
  | _ => none }
def OperandListsWrongFalsely : Prop := operandListsRow.holds Tryd.pinned (OpenSpec.ofChange operandListsWrong)

/-- 'breadboardlaw06.OperandIndexes': WHATEVER THE INPUT: true; the input reads as it did. -/
def operandIndexesSpec : ChangeSpec := { name := "operandIndexes", fn := fun _ => fun
  | [d] => { results := [.lit (.bool true)], args := [d] }
  | _ => none }
def operandIndexesRow : OpenClaim := { program := "ytbcbhdhhinopaaadoor", sum := "7ea0630cb2cb4d1b862d619d8c153b5465584fe14ec232748c9a0e43d14bf108", func := "breadboard/breadboardlaw06.OperandIndexes", spec := "operandIndexes", inPlace := ["internal/bytealg.IndexByteString", "internal/bytealg.IndexString"], unfollowed := true, recurses := true, named := ["unicode/utf8.first", "unicode/utf8.acceptRanges", "internal/bytealg.MaxLen"], apart := false, laid := [("unicode/utf8.acceptRanges", laid_unicode_utf8_acceptRanges), ("unicode/utf8.first", laid_unicode_utf8_first)] }
def OperandIndexesSaid : Prop := operandIndexesRow.holds Tryd.pinned (OpenSpec.ofChange operandIndexesSpec)

/-- ITS FALSE NEIGHBOUR: 'it returns false'. Refute it at one input. -/
def operandIndexesWrong : ChangeSpec := { name := "operandIndexes", fn := fun _ => fun
  | [d] => { results := [.lit (.bool false)], args := [d] }
  | _ => none }
def OperandIndexesWrongFalsely : Prop := operandIndexesRow.holds Tryd.pinned (OpenSpec.ofChange operandIndexesWrong)

/- THE SECOND FORM. 'bulk': how many values and letters a reading holds, each counted each time it is reached (what is shared counts as often as it is met; a slice's spare places count too). A statement '..UptoSaid' is the law's where the arguments, and the package variables that the reading takes, are together of bulk at most 1048576: NARROWER than '..Said'. Prove '..Said' where nothing that the law and all that it calls make is longer than what came in: it says more and counts as full. Else prove '..UptoSaid'. A law counts once. -/
mutual
def uptoBulk {H : Type} : DataW H → Nat
  | .lit (.string bytes) => bytes.length + 1
  | .lit _ => 1
  | .nil => 1
  | .ptr d => uptoBulk d + 1
  | .slice elems spare => uptoBulkAll elems + uptoBulkAll spare + 1
  | .agg parts => uptoBulkAll parts + 1
  | .iface _ d => uptoBulk d + 1
  | .map entries => uptoBulkEntries entries + 1
  | .held _ => 1
def uptoBulkAll {H : Type} : List (DataW H) → Nat
  | [] => 0
  | d :: r => uptoBulk d + uptoBulkAll r
def uptoBulkEntries {H : Type} : List (Lit × DataW H) → Nat
  | [] => 0
  | x :: r => uptoBulkEntry x + uptoBulkEntries r
def uptoBulkEntry {H : Type} : Lit × DataW H → Nat
  | (.string bytes, d) => bytes.length + uptoBulk d + 1
  | (_, d) => uptoBulk d + 1
 end
def uptoSmall : (H : Type) → List (DataW H) → Bool := fun _ ds => decide (uptoBulkAll ds ≤ 1048576)
def OpenSpec.upto (s : _root_.Go.ChangeSpec) : _root_.Go.OpenSpec := { _root_.Go.OpenSpec.ofChange s with cond := some uptoSmall }

/-- 'breadboardlaw06.OperandTexts', WHERE WHAT IT READS IS OF BULK AT MOST 1048576: true; the input reads as it did. -/
def operandTextsUptoRow : OpenClaim := { program := "ytbcbhdhhinopaaadoor", sum := "7ea0630cb2cb4d1b862d619d8c153b5465584fe14ec232748c9a0e43d14bf108", func := "breadboard/breadboardlaw06.OperandTexts", spec := "operandTexts", inPlace := ["internal/bytealg.IndexByteString", "internal/bytealg.IndexString"], unfollowed := true, recurses := true, named := ["unicode/utf8.first", "unicode/utf8.acceptRanges", "internal/bytealg.MaxLen"], apart := false, laid := [("unicode/utf8.acceptRanges", laid_unicode_utf8_acceptRanges), ("unicode/utf8.first", laid_unicode_utf8_first)], narrowed := true }
def OperandTextsUptoSaid : Prop := operandTextsUptoRow.holds Tryd.pinned (OpenSpec.upto operandTextsSpec)

/-- 'breadboardlaw06.OperandNames', WHERE WHAT IT READS IS OF BULK AT MOST 1048576: true; the input reads as it did. -/
def operandNamesUptoRow : OpenClaim := { program := "ytbcbhdhhinopaaadoor", sum := "7ea0630cb2cb4d1b862d619d8c153b5465584fe14ec232748c9a0e43d14bf108", func := "breadboard/breadboardlaw06.OperandNames", spec := "operandNames", inPlace := ["internal/bytealg.IndexByteString", "internal/bytealg.IndexString"], unfollowed := true, recurses := true, named := ["unicode/utf8.first", "unicode/utf8.acceptRanges", "internal/bytealg.MaxLen"], apart := false, laid := [("unicode/utf8.acceptRanges", laid_unicode_utf8_acceptRanges), ("unicode/utf8.first", laid_unicode_utf8_first)], narrowed := true }
def OperandNamesUptoSaid : Prop := operandNamesUptoRow.holds Tryd.pinned (OpenSpec.upto operandNamesSpec)

/-- 'breadboardlaw06.OperandOnce', WHERE WHAT IT READS IS OF BULK AT MOST 1048576: true; the input reads as it did. -/
def operandOnceUptoRow : OpenClaim := { program := "ytbcbhdhhinopaaadoor", sum := "7ea0630cb2cb4d1b862d619d8c153b5465584fe14ec232748c9a0e43d14bf108", func := "breadboard/breadboardlaw06.OperandOnce", spec := "operandOnce", inPlace := ["internal/bytealg.IndexByteString", "internal/bytealg.IndexString"], unfollowed := true, recurses := true, named := ["unicode/utf8.first", "unicode/utf8.acceptRanges", "internal/bytealg.MaxLen"], apart := false, laid := [("unicode/utf8.acceptRanges", laid_unicode_utf8_acceptRanges), ("unicode/utf8.first", laid_unicode_utf8_first)], narrowed := true }
def OperandOnceUptoSaid : Prop := operandOnceUptoRow.holds Tryd.pinned (OpenSpec.upto operandOnceSpec)

/-- 'breadboardlaw06.OperandLists', WHERE WHAT IT READS IS OF BULK AT MOST 1048576: true; the input reads as it did. -/
def operandListsUptoRow : OpenClaim := { program := "ytbcbhdhhinopaaadoor", sum := "7ea0630cb2cb4d1b862d619d8c153b5465584fe14ec232748c9a0e43d14bf108", func := "breadboard/breadboardlaw06.OperandLists", spec := "operandLists", inPlace := ["internal/bytealg.IndexByteString", "internal/bytealg.IndexString", "internal/abi.NoEscape", "internal/bytealg.MakeNoZero"], unfollowed := true, recurses := true, named := ["unicode/utf8.first", "unicode/utf8.acceptRanges", "internal/bytealg.MaxLen"], apart := false, laid := [("unicode/utf8.acceptRanges", laid_unicode_utf8_acceptRanges), ("unicode/utf8.first", laid_unicode_utf8_first)], narrowed := true }
def OperandListsUptoSaid : Prop := operandListsUptoRow.holds Tryd.pinned (OpenSpec.upto operandListsSpec)

/-- 'breadboardlaw06.OperandIndexes', WHERE WHAT IT READS IS OF BULK AT MOST 1048576: true; the input reads as it did. -/
def operandIndexesUptoRow : OpenClaim := { program := "ytbcbhdhhinopaaadoor", sum := "7ea0630cb2cb4d1b862d619d8c153b5465584fe14ec232748c9a0e43d14bf108", func := "breadboard/breadboardlaw06.OperandIndexes", spec := "operandIndexes", inPlace := ["internal/bytealg.IndexByteString", "internal/bytealg.IndexString"], unfollowed := true, recurses := true, named := ["unicode/utf8.first", "unicode/utf8.acceptRanges", "internal/bytealg.MaxLen"], apart := false, laid := [("unicode/utf8.acceptRanges", laid_unicode_utf8_acceptRanges), ("unicode/utf8.first", laid_unicode_utf8_first)], narrowed := true }
def OperandIndexesUptoSaid : Prop := operandIndexesUptoRow.holds Tryd.pinned (OpenSpec.upto operandIndexesSpec)

end Rows
end Go.Proofs.YtbcbhdhhinopaaaDoor
