/-
  NARROWER THAN 'FOR EVERY INPUT', by the rows' own cells (each row's printed sentence says how): TableAt: laid · TablePage: laid · TableNamed: laid · TableAliases: laid.
  DERIVED. THE GIVEN ROWS OF THIS SEAT. 4 by the template 'for every input the law returns true; each argument reads behind the call as it read before'; 0 by the template 'total and deterministic' (their statements: YtipgecdfnbldnaaGreatDoorTotals.lean).
  GIVEN WITH THE SEED: the statements are not yours to turn. If you find one false, say at which input.
  Laid BY PROGRAM, IN A SANDBOX (cutbox-rows.mjs): the forced cells as the released guide's own fill.sh prints them over the translation aaeb316003fd2bd1… (all of the seat's roots in one cut). By AI agents, Wed Nov 11 2026. No macro, syntax, notation, axiom, sorry.
-/
import Derived.Test.YtipgecdfnbldnaaGreatDoorChecked
import GoSem.PinnedTables
import GoSem.Claim
import GoSem.ClaimJoined
import GoSem.ClaimMapViews
import Derived.JoinedTies
import Derived.KernelRfl
namespace Go.Proofs.YtipgecdfnbldnaaGreatDoor
/- THE CELL 'sum', in the pinned program and in every row, IS THE sha256 OF THE DUMP (.gsa) THAT YtipgecdfnbldnaaGreatDoorProg.lean LOADS. Nothing in Lean hashes anything: it is a label: what it is worth is what the hold of that sum in a sandbox is worth. -/
noncomputable def Tryz.pinned : Pinned := { name := "ytipgecdfnbldnaagreatdoor", sum := "aaeb316003fd2bd192b09bb894dc49a7f641f5cb2821f9e973fe81e5bd62a3c2", checked := Tryz.checked }
namespace Rows
def none {H : Type} : Left H := { results := [], args := [] }

/- WHAT THE LISTED PACKAGE-LEVEL VARIABLES READ AS WHEN THE CALL BEGINS. Each datum BY PROGRAM (the guide's laid-datum.mjs) off the statement by which the dump's own 'gosem.cut.vars' lays the variable. In a bare row this is a premise. The card (YtipgecdfnbldnaaGreatDoorCards.lean) ties it to the program's text. -/
def laid_unicode_utf8_acceptRanges {H : Type} : DataW H := .agg [.agg [.lit (.int .u8 128), .lit (.int .u8 191)], .agg [.lit (.int .u8 160), .lit (.int .u8 191)], .agg [.lit (.int .u8 128), .lit (.int .u8 159)], .agg [.lit (.int .u8 144), .lit (.int .u8 191)], .agg [.lit (.int .u8 128), .lit (.int .u8 143)], .agg [.lit (.int .u8 0), .lit (.int .u8 0)], .agg [.lit (.int .u8 0), .lit (.int .u8 0)], .agg [.lit (.int .u8 0), .lit (.int .u8 0)], .agg [.lit (.int .u8 0), .lit (.int .u8 0)], .agg [.lit (.int .u8 0), .lit (.int .u8 0)], .agg [.lit (.int .u8 0), .lit (.int .u8 0)], .agg [.lit (.int .u8 0), .lit (.int .u8 0)], .agg [.lit (.int .u8 0), .lit (.int .u8 0)], .agg [.lit (.int .u8 0), .lit (.int .u8 0)], .agg [.lit (.int .u8 0), .lit (.int .u8 0)], .agg [.lit (.int .u8 0), .lit (.int .u8 0)]]
/-- One of Go's own tables, pinned by name: the form's constant. -/
def laid_unicode_utf8_first : DataW Unit := Go.Pinned.utf8First

/-- 'breadboardlaw09.TableAt': WHATEVER THE INPUT: true; the input reads as it did. -/
def tableAtSpec : ChangeSpec := { name := "tableAt", fn := fun _ => fun
  | [d1, d2] => { results := [.lit (.bool true)], args := [d1, d2] }
  | _ => none }
def tableAtRow : OpenClaim := { program := "ytipgecdfnbldnaagreatdoor", sum := "aaeb316003fd2bd192b09bb894dc49a7f641f5cb2821f9e973fe81e5bd62a3c2", func := "breadboard/breadboardlaw09.TableAt", spec := "tableAt", inPlace := ["internal/bytealg.IndexByteString", "internal/bytealg.IndexString"], unfollowed := true, recurses := true, named := ["internal/bytealg.MaxLen", "unicode/utf8.first", "unicode/utf8.acceptRanges"], apart := false, laid := [("unicode/utf8.acceptRanges", laid_unicode_utf8_acceptRanges), ("unicode/utf8.first", laid_unicode_utf8_first)] }
def TableAtSaid : Prop := tableAtRow.holds Tryz.pinned (OpenSpec.ofChange tableAtSpec)

/-- ITS FALSE NEIGHBOUR: 'it returns false'. Refute it at one input. -/
def tableAtWrong : ChangeSpec := { name := "tableAt", fn := fun _ => fun
  | [d1, d2] => { results := [.lit (.bool false)], args := [d1, d2] }
  | _ => none }
def TableAtWrongFalsely : Prop := tableAtRow.holds Tryz.pinned (OpenSpec.ofChange tableAtWrong)

/-- 'breadboardlaw09.TablePage': WHATEVER THE INPUT: true; the input reads as it did. -/
def tablePageSpec : ChangeSpec := { name := "tablePage", fn := fun _ => fun
  | [d] => { results := [.lit (.bool true)], args := [d] }
  | _ => none }
def tablePageRow : OpenClaim := { program := "ytipgecdfnbldnaagreatdoor", sum := "aaeb316003fd2bd192b09bb894dc49a7f641f5cb2821f9e973fe81e5bd62a3c2", func := "breadboard/breadboardlaw09.TablePage", spec := "tablePage", inPlace := ["internal/bytealg.IndexByteString", "internal/bytealg.IndexString"], unfollowed := true, recurses := true, named := ["internal/bytealg.MaxLen", "unicode/utf8.first", "unicode/utf8.acceptRanges"], apart := false, laid := [("unicode/utf8.acceptRanges", laid_unicode_utf8_acceptRanges), ("unicode/utf8.first", laid_unicode_utf8_first)] }
def TablePageSaid : Prop := tablePageRow.holds Tryz.pinned (OpenSpec.ofChange tablePageSpec)

/-- ITS FALSE NEIGHBOUR: 'it returns false'. Refute it at one input. -/
def tablePageWrong : ChangeSpec := { name := "tablePage", fn := fun _ => fun
  | [d] => { results := [.lit (.bool false)], args := [d] }
  | _ => none }
def TablePageWrongFalsely : Prop := tablePageRow.holds Tryz.pinned (OpenSpec.ofChange tablePageWrong)

/-- 'breadboardlaw09.TableNamed': WHATEVER THE INPUT: true; the input reads as it did. -/
def tableNamedSpec : ChangeSpec := { name := "tableNamed", fn := fun _ => fun
  | [d1, d2] => { results := [.lit (.bool true)], args := [d1, d2] }
  | _ => none }
def tableNamedRow : OpenClaim := { program := "ytipgecdfnbldnaagreatdoor", sum := "aaeb316003fd2bd192b09bb894dc49a7f641f5cb2821f9e973fe81e5bd62a3c2", func := "breadboard/breadboardlaw09.TableNamed", spec := "tableNamed", inPlace := ["internal/bytealg.IndexByteString", "internal/bytealg.IndexString"], unfollowed := true, recurses := true, named := ["internal/bytealg.MaxLen", "unicode/utf8.first", "unicode/utf8.acceptRanges"], apart := false, laid := [("unicode/utf8.acceptRanges", laid_unicode_utf8_acceptRanges), ("unicode/utf8.first", laid_unicode_utf8_first)] }
def TableNamedSaid : Prop := tableNamedRow.holds Tryz.pinned (OpenSpec.ofChange tableNamedSpec)

/-- ITS FALSE NEIGHBOUR: 'it returns false'. Refute it at one input. -/
def tableNamedWrong : ChangeSpec := { name := "tableNamed", fn := fun _ => fun
  | [d1, d2] => { results := [.lit (.bool false)], args := [d1, d2] }
  | _ => none }
def TableNamedWrongFalsely : Prop := tableNamedRow.holds Tryz.pinned (OpenSpec.ofChange tableNamedWrong)

/-- 'breadboardlaw09.TableAliases': WHATEVER THE INPUT: true; the input reads as it did. -/
def tableAliasesSpec : ChangeSpec := { name := "tableAliases", fn := fun _ => fun
  | [d1, d2] => { results := [.lit (.bool true)], args := [d1, d2] }
  | _ => none }
def tableAliasesRow : OpenClaim := { program := "ytipgecdfnbldnaagreatdoor", sum := "aaeb316003fd2bd192b09bb894dc49a7f641f5cb2821f9e973fe81e5bd62a3c2", func := "breadboard/breadboardlaw09.TableAliases", spec := "tableAliases", inPlace := ["internal/bytealg.IndexByteString", "internal/bytealg.IndexString"], unfollowed := true, recurses := true, named := ["internal/bytealg.MaxLen", "unicode/utf8.first", "unicode/utf8.acceptRanges"], apart := false, laid := [("unicode/utf8.acceptRanges", laid_unicode_utf8_acceptRanges), ("unicode/utf8.first", laid_unicode_utf8_first)] }
def TableAliasesSaid : Prop := tableAliasesRow.holds Tryz.pinned (OpenSpec.ofChange tableAliasesSpec)

/-- ITS FALSE NEIGHBOUR: 'it returns false'. Refute it at one input. -/
def tableAliasesWrong : ChangeSpec := { name := "tableAliases", fn := fun _ => fun
  | [d1, d2] => { results := [.lit (.bool false)], args := [d1, d2] }
  | _ => none }
def TableAliasesWrongFalsely : Prop := tableAliasesRow.holds Tryz.pinned (OpenSpec.ofChange tableAliasesWrong)

/- THE SECOND FORM. 'bulk': how many values and letters a reading holds, each counted each time it is reached (what is shared counts as often as it is met; a slice's spare places count too). A statement '..UptoSaid' is the law's where the arguments, and the package variables that the reading takes, are together of bulk at most 1048576: NARROWER than '..Said'. Prove '..Said' where nothing that the law and all that it calls make is longer than what came in: it says more and counts as full. Else prove '..UptoSaid'. A law counts once. -/
mutual
def uptoBulk {H : Type} : DataW H → Nat
  | .lit (.string bytes) => bytes.length + 1
  | .lit _ => 1
  | .nil => 1
  | .ptr d => uptoBulk d + 1
  | .slice elems spare => uptoBulkAll elems + uptoBulkAll spare + 1
  | .agg parts => uptoBulkAll parts + 1
  | .iface _ d => uptoBulk d + 1
  | .map entries => uptoBulkEntries entries + 1
  | .held _ => 1
def uptoBulkAll {H : Type} : List (DataW H) → Nat
  | [] => 0
  | d :: r => uptoBulk d + uptoBulkAll r
def uptoBulkEntries {H : Type} : List (Lit × DataW H) → Nat
  | [] => 0
  | x :: r => uptoBulkEntry x + uptoBulkEntries r
def uptoBulkEntry {H : Type} : Lit × DataW H → Nat
  | (.string bytes, d) => bytes.length + uptoBulk d + 1
  | (_, d) => uptoBulk d + 1
 end
def uptoSmall : (H : Type) → List (DataW H) → Bool := fun _ ds => decide (uptoBulkAll ds ≤ 1048576)
def OpenSpec.upto (s : _root_.Go.ChangeSpec) : _root_.Go.OpenSpec := { _root_.Go.OpenSpec.ofChange s with cond := some uptoSmall }

/-- 'breadboardlaw09.TableAt', WHERE WHAT IT READS IS OF BULK AT MOST 1048576: true; the input reads as it did. -/
def tableAtUptoRow : OpenClaim := { program := "ytipgecdfnbldnaagreatdoor", sum := "aaeb316003fd2bd192b09bb894dc49a7f641f5cb2821f9e973fe81e5bd62a3c2", func := "breadboard/breadboardlaw09.TableAt", spec := "tableAt", inPlace := ["internal/bytealg.IndexByteString", "internal/bytealg.IndexString"], unfollowed := true, recurses := true, named := ["internal/bytealg.MaxLen", "unicode/utf8.first", "unicode/utf8.acceptRanges"], apart := false, laid := [("unicode/utf8.acceptRanges", laid_unicode_utf8_acceptRanges), ("unicode/utf8.first", laid_unicode_utf8_first)], narrowed := true }
def TableAtUptoSaid : Prop := tableAtUptoRow.holds Tryz.pinned (OpenSpec.upto tableAtSpec)

/-- 'breadboardlaw09.TablePage', WHERE WHAT IT READS IS OF BULK AT MOST 1048576: true; the input reads as it did. -/
def tablePageUptoRow : OpenClaim := { program := "ytipgecdfnbldnaagreatdoor", sum := "aaeb316003fd2bd192b09bb894dc49a7f641f5cb2821f9e973fe81e5bd62a3c2", func := "breadboard/breadboardlaw09.TablePage", spec := "tablePage", inPlace := ["internal/bytealg.IndexByteString", "internal/bytealg.IndexString"], unfollowed := true, recurses := true, named := ["internal/bytealg.MaxLen", "unicode/utf8.first", "unicode/utf8.acceptRanges"], apart := false, laid := [("unicode/utf8.acceptRanges", laid_unicode_utf8_acceptRanges), ("unicode/utf8.first", laid_unicode_utf8_first)], narrowed := true }
def TablePageUptoSaid : Prop := tablePageUptoRow.holds Tryz.pinned (OpenSpec.upto tablePageSpec)

/-- 'breadboardlaw09.TableNamed', WHERE WHAT IT READS IS OF BULK AT MOST 1048576: true; the input reads as it did. -/
def tableNamedUptoRow : OpenClaim := { program := "ytipgecdfnbldnaagreatdoor", sum := "aaeb316003fd2bd192b09bb894dc49a7f641f5cb2821f9e973fe81e5bd62a3c2", func := "breadboard/breadboardlaw09.TableNamed", spec := "tableNamed", inPlace := ["internal/bytealg.IndexByteString", "internal/bytealg.IndexString"], unfollowed := true, recurses := true, named := ["internal/bytealg.MaxLen", "unicode/utf8.first", "unicode/utf8.acceptRanges"], apart := false, laid := [("unicode/utf8.acceptRanges", laid_unicode_utf8_acceptRanges), ("unicode/utf8.first", laid_unicode_utf8_first)], narrowed := true }
def TableNamedUptoSaid : Prop := tableNamedUptoRow.holds Tryz.pinned (OpenSpec.upto tableNamedSpec)

/-- 'breadboardlaw09.TableAliases', WHERE WHAT IT READS IS OF BULK AT MOST 1048576: true; the input reads as it did. -/
def tableAliasesUptoRow : OpenClaim := { program := "ytipgecdfnbldnaagreatdoor", sum := "aaeb316003fd2bd192b09bb894dc49a7f641f5cb2821f9e973fe81e5bd62a3c2", func := "breadboard/breadboardlaw09.TableAliases", spec := "tableAliases", inPlace := ["internal/bytealg.IndexByteString", "internal/bytealg.IndexString"], unfollowed := true, recurses := true, named := ["internal/bytealg.MaxLen", "unicode/utf8.first", "unicode/utf8.acceptRanges"], apart := false, laid := [("unicode/utf8.acceptRanges", laid_unicode_utf8_acceptRanges), ("unicode/utf8.first", laid_unicode_utf8_first)], narrowed := true }
def TableAliasesUptoSaid : Prop := tableAliasesUptoRow.holds Tryz.pinned (OpenSpec.upto tableAliasesSpec)

end Rows
end Go.Proofs.YtipgecdfnbldnaaGreatDoor
