/-
  NARROWER THAN 'FOR EVERY INPUT', by the rows' own cells (each row's printed sentence says how): InstrChecks: laid · InstrMakes: laid · InstrWith: laid · InstrKeeps: laid.
  DERIVED. THE GIVEN ROWS OF THIS SEAT. 4 by the template 'for every input the law returns true; each argument reads behind the call as it read before'; 0 by the template 'total and deterministic' (their statements: YthpaamekpfhkjaaDoorTotals.lean).
  GIVEN WITH THE SEED: the statements are not yours to turn. If you find one false, say at which input.
  Laid BY PROGRAM, IN A SANDBOX (cutbox-rows.mjs): the forced cells as the released guide's own fill.sh prints them over the translation e1e12de558dd6054… (all of the seat's roots in one cut). By AI agents, Wed Nov 11 2026. No macro, syntax, notation, axiom, sorry.
-/
import Derived.Test.YthpaamekpfhkjaaDoorChecked
import GoSem.PinnedTables
import GoSem.Claim
import GoSem.ClaimJoined
import GoSem.ClaimMapViews
import Derived.JoinedTies
import Derived.KernelRfl
namespace Go.Proofs.YthpaamekpfhkjaaDoor
/- THE CELL 'sum', in the pinned program and in every row, IS THE sha256 OF THE DUMP (.gsa) THAT YthpaamekpfhkjaaDoorProg.lean LOADS. Nothing in Lean hashes anything: it is a label: what it is worth is what the hold of that sum in a sandbox is worth. -/
noncomputable def Tryd.pinned : Pinned := { name := "ythpaamekpfhkjaadoor", sum := "e1e12de558dd60540909f40e00c68cba45a8687d18c0080844f14b6825b857c3", checked := Tryd.checked }
namespace Rows
def none {H : Type} : Left H := { results := [], args := [] }

/- WHAT THE LISTED PACKAGE-LEVEL VARIABLES READ AS WHEN THE CALL BEGINS. Each datum BY PROGRAM (the guide's laid-datum.mjs) off the statement by which the dump's own 'gosem.cut.vars' lays the variable. In a bare row this is a premise. The card (YthpaamekpfhkjaaDoorCards.lean) ties it to the program's text. -/
def laid_unicode_utf8_acceptRanges {H : Type} : DataW H := .agg [.agg [.lit (.int .u8 128), .lit (.int .u8 191)], .agg [.lit (.int .u8 160), .lit (.int .u8 191)], .agg [.lit (.int .u8 128), .lit (.int .u8 159)], .agg [.lit (.int .u8 144), .lit (.int .u8 191)], .agg [.lit (.int .u8 128), .lit (.int .u8 143)], .agg [.lit (.int .u8 0), .lit (.int .u8 0)], .agg [.lit (.int .u8 0), .lit (.int .u8 0)], .agg [.lit (.int .u8 0), .lit (.int .u8 0)], .agg [.lit (.int .u8 0), .lit (.int .u8 0)], .agg [.lit (.int .u8 0), .lit (.int .u8 0)], .agg [.lit (.int .u8 0), .lit (.int .u8 0)], .agg [.lit (.int .u8 0), .lit (.int .u8 0)], .agg [.lit (.int .u8 0), .lit (.int .u8 0)], .agg [.lit (.int .u8 0), .lit (.int .u8 0)], .agg [.lit (.int .u8 0), .lit (.int .u8 0)], .agg [.lit (.int .u8 0), .lit (.int .u8 0)]]
/-- One of Go's own tables, pinned by name: the form's constant. -/
def laid_unicode_utf8_first : DataW Unit := Go.Pinned.utf8First

/-- 'breadboardlaw07.InstrChecks': WHATEVER THE INPUT: true; the input reads as it did. -/
def instrChecksSpec : ChangeSpec := { name := "instrChecks", fn := fun _ => fun
  | [d] => { results := [.lit (.bool true)], args := [d] }
  | _ => none }
def instrChecksRow : OpenClaim := { program := "ythpaamekpfhkjaadoor", sum := "e1e12de558dd60540909f40e00c68cba45a8687d18c0080844f14b6825b857c3", func := "breadboard/breadboardlaw07.InstrChecks", spec := "instrChecks", inPlace := ["internal/bytealg.IndexByteString", "internal/bytealg.IndexString"], unfollowed := true, recurses := true, named := ["unicode/utf8.first", "unicode/utf8.acceptRanges", "internal/bytealg.MaxLen"], apart := false, laid := [("unicode/utf8.acceptRanges", laid_unicode_utf8_acceptRanges), ("unicode/utf8.first", laid_unicode_utf8_first)] }
def InstrChecksSaid : Prop := instrChecksRow.holds Tryd.pinned (OpenSpec.ofChange instrChecksSpec)

/-- ITS FALSE NEIGHBOUR: 'it returns false'. Refute it at one input. -/
def instrChecksWrong : ChangeSpec := { name := "instrChecks", fn := fun _ => fun
  | [d] => { results := [.lit (.bool false)], args := [d] }
  | _ => none }
def InstrChecksWrongFalsely : Prop := instrChecksRow.holds Tryd.pinned (OpenSpec.ofChange instrChecksWrong)

/-- 'breadboardlaw07.InstrMakes': WHATEVER THE INPUT: true; the input reads as it did. -/
def instrMakesSpec : ChangeSpec := { name := "instrMakes", fn := fun _ => fun
  | [d1, d2] => { results := [.lit (.bool true)], args := [d1, d2] }
  | _ => none }
def instrMakesRow : OpenClaim := { program := "ythpaamekpfhkjaadoor", sum := "e1e12de558dd60540909f40e00c68cba45a8687d18c0080844f14b6825b857c3", func := "breadboard/breadboardlaw07.InstrMakes", spec := "instrMakes", inPlace := ["internal/bytealg.IndexByteString", "internal/bytealg.IndexString"], unfollowed := true, recurses := true, named := ["unicode/utf8.first", "unicode/utf8.acceptRanges", "internal/bytealg.MaxLen"], apart := false, laid := [("unicode/utf8.acceptRanges", laid_unicode_utf8_acceptRanges), ("unicode/utf8.first", laid_unicode_utf8_first)] }
def InstrMakesSaid : Prop := instrMakesRow.holds Tryd.pinned (OpenSpec.ofChange instrMakesSpec)

/-- ITS FALSE NEIGHBOUR: 'it returns false'. Refute it at one input. -/
def instrMakesWrong : ChangeSpec := { name := "instrMakes", fn := fun _ => fun
  | [d1, d2] => { results := [.lit (.bool false)], args := [d1, d2] }
  | _ => none }
def InstrMakesWrongFalsely : Prop := instrMakesRow.holds Tryd.pinned (OpenSpec.ofChange instrMakesWrong)

/-- 'breadboardlaw07.InstrWith': WHATEVER THE INPUT: true; the input reads as it did. -/
def instrWithSpec : ChangeSpec := { name := "instrWith", fn := fun _ => fun
  | [d1, d2] => { results := [.lit (.bool true)], args := [d1, d2] }
  | _ => none }
def instrWithRow : OpenClaim := { program := "ythpaamekpfhkjaadoor", sum := "e1e12de558dd60540909f40e00c68cba45a8687d18c0080844f14b6825b857c3", func := "breadboard/breadboardlaw07.InstrWith", spec := "instrWith", inPlace := ["internal/bytealg.IndexByteString", "internal/bytealg.IndexString"], unfollowed := true, recurses := true, named := ["unicode/utf8.first", "unicode/utf8.acceptRanges", "internal/bytealg.MaxLen"], apart := false, laid := [("unicode/utf8.acceptRanges", laid_unicode_utf8_acceptRanges), ("unicode/utf8.first", laid_unicode_utf8_first)] }
def InstrWithSaid : Prop := instrWithRow.holds Tryd.pinned (OpenSpec.ofChange instrWithSpec)

/-- ITS FALSE NEIGHBOUR: 'it returns false'. Refute it at one input. -/
def instrWithWrong : ChangeSpec := { name := "instrWith", fn := fun _ => fun
  | [d1, d2] => { results := [.lit (.bool false)], args := [d1, d2] }
  | _ => none }
def InstrWithWrongFalsely : Prop := instrWithRow.holds Tryd.pinned (OpenSpec.ofChange instrWithWrong)

/-- 'breadboardlaw07.InstrKeeps': WHATEVER THE INPUT: true; the input reads as it did. -/
def instrKeepsSpec : ChangeSpec := { name := "instrKeeps", fn := fun _ => fun
  | [d1, d2] => { results := [.lit (.bool true)], args := [d1, d2] }
  | _ => none }
def instrKeepsRow : OpenClaim := { program := "ythpaamekpfhkjaadoor", sum := "e1e12de558dd60540909f40e00c68cba45a8687d18c0080844f14b6825b857c3", func := "breadboard/breadboardlaw07.InstrKeeps", spec := "instrKeeps", inPlace := ["internal/bytealg.IndexByteString", "internal/bytealg.IndexString"], unfollowed := true, recurses := true, named := ["unicode/utf8.first", "unicode/utf8.acceptRanges", "internal/bytealg.MaxLen"], apart := false, laid := [("unicode/utf8.acceptRanges", laid_unicode_utf8_acceptRanges), ("unicode/utf8.first", laid_unicode_utf8_first)] }
def InstrKeepsSaid : Prop := instrKeepsRow.holds Tryd.pinned (OpenSpec.ofChange instrKeepsSpec)

/-- ITS FALSE NEIGHBOUR: 'it returns false'. Refute it at one input. -/
def instrKeepsWrong : ChangeSpec := { name := "instrKeeps", fn := fun _ => fun
  | [d1, d2] => { results := [.lit (.bool false)], args := [d1, d2] }
  | _ => none }
def InstrKeepsWrongFalsely : Prop := instrKeepsRow.holds Tryd.pinned (OpenSpec.ofChange instrKeepsWrong)

/- THE SECOND FORM. 'bulk': how many values and letters a reading holds, each counted each time it is reached (what is shared counts as often as it is met; a slice's spare places count too). A statement '..UptoSaid' is the law's where the arguments, and the package variables that the reading takes, are together of bulk at most 1048576: NARROWER than '..Said'. Prove '..Said' where nothing that the law and all that it calls make is longer than what came in: it says more and counts as full. Else prove '..UptoSaid'. A law counts once. -/
mutual
def uptoBulk {H : Type} : DataW H → Nat
  | .lit (.string bytes) => bytes.length + 1
  | .lit _ => 1
  | .nil => 1
  | .ptr d => uptoBulk d + 1
  | .slice elems spare => uptoBulkAll elems + uptoBulkAll spare + 1
  | .agg parts => uptoBulkAll parts + 1
  | .iface _ d => uptoBulk d + 1
  | .map entries => uptoBulkEntries entries + 1
  | .held _ => 1
def uptoBulkAll {H : Type} : List (DataW H) → Nat
  | [] => 0
  | d :: r => uptoBulk d + uptoBulkAll r
def uptoBulkEntries {H : Type} : List (Lit × DataW H) → Nat
  | [] => 0
  | x :: r => uptoBulkEntry x + uptoBulkEntries r
def uptoBulkEntry {H : Type} : Lit × DataW H → Nat
  | (.string bytes, d) => bytes.length + uptoBulk d + 1
  | (_, d) => uptoBulk d + 1
 end
def uptoSmall : (H : Type) → List (DataW H) → Bool := fun _ ds => decide (uptoBulkAll ds ≤ 1048576)
def OpenSpec.upto (s : _root_.Go.ChangeSpec) : _root_.Go.OpenSpec := { _root_.Go.OpenSpec.ofChange s with cond := some uptoSmall }

/-- 'breadboardlaw07.InstrChecks', WHERE WHAT IT READS IS OF BULK AT MOST 1048576: true; the input reads as it did. -/
def instrChecksUptoRow : OpenClaim := { program := "ythpaamekpfhkjaadoor", sum := "e1e12de558dd60540909f40e00c68cba45a8687d18c0080844f14b6825b857c3", func := "breadboard/breadboardlaw07.InstrChecks", spec := "instrChecks", inPlace := ["internal/bytealg.IndexByteString", "internal/bytealg.IndexString"], unfollowed := true, recurses := true, named := ["unicode/utf8.first", "unicode/utf8.acceptRanges", "internal/bytealg.MaxLen"], apart := false, laid := [("unicode/utf8.acceptRanges", laid_unicode_utf8_acceptRanges), ("unicode/utf8.first", laid_unicode_utf8_first)], narrowed := true }
def InstrChecksUptoSaid : Prop := instrChecksUptoRow.holds Tryd.pinned (OpenSpec.upto instrChecksSpec)

/-- 'breadboardlaw07.InstrMakes', WHERE WHAT IT READS IS OF BULK AT MOST 1048576: true; the input reads as it did. -/
def instrMakesUptoRow : OpenClaim := { program := "ythpaamekpfhkjaadoor", sum := "e1e12de558dd60540909f40e00c68cba45a8687d18c0080844f14b6825b857c3", func := "breadboard/breadboardlaw07.InstrMakes", spec := "instrMakes", inPlace := ["internal/bytealg.IndexByteString", "internal/bytealg.IndexString"], unfollowed := true, recurses := true, named := ["unicode/utf8.first", "unicode/utf8.acceptRanges", "internal/bytealg.MaxLen"], apart := false, laid := [("unicode/utf8.acceptRanges", laid_unicode_utf8_acceptRanges), ("unicode/utf8.first", laid_unicode_utf8_first)], narrowed := true }
def InstrMakesUptoSaid : Prop := instrMakesUptoRow.holds Tryd.pinned (OpenSpec.upto instrMakesSpec)

/-- 'breadboardlaw07.InstrWith', WHERE WHAT IT READS IS OF BULK AT MOST 1048576: true; the input reads as it did. -/
def instrWithUptoRow : OpenClaim := { program := "ythpaamekpfhkjaadoor", sum := "e1e12de558dd60540909f40e00c68cba45a8687d18c0080844f14b6825b857c3", func := "breadboard/breadboardlaw07.InstrWith", spec := "instrWith", inPlace := ["internal/bytealg.IndexByteString", "internal/bytealg.IndexString"], unfollowed := true, recurses := true, named := ["unicode/utf8.first", "unicode/utf8.acceptRanges", "internal/bytealg.MaxLen"], apart := false, laid := [("unicode/utf8.acceptRanges", laid_unicode_utf8_acceptRanges), ("unicode/utf8.first", laid_unicode_utf8_first)], narrowed := true }
def InstrWithUptoSaid : Prop := instrWithUptoRow.holds Tryd.pinned (OpenSpec.upto instrWithSpec)

/-- 'breadboardlaw07.InstrKeeps', WHERE WHAT IT READS IS OF BULK AT MOST 1048576: true; the input reads as it did. -/
def instrKeepsUptoRow : OpenClaim := { program := "ythpaamekpfhkjaadoor", sum := "e1e12de558dd60540909f40e00c68cba45a8687d18c0080844f14b6825b857c3", func := "breadboard/breadboardlaw07.InstrKeeps", spec := "instrKeeps", inPlace := ["internal/bytealg.IndexByteString", "internal/bytealg.IndexString"], unfollowed := true, recurses := true, named := ["unicode/utf8.first", "unicode/utf8.acceptRanges", "internal/bytealg.MaxLen"], apart := false, laid := [("unicode/utf8.acceptRanges", laid_unicode_utf8_acceptRanges), ("unicode/utf8.first", laid_unicode_utf8_first)], narrowed := true }
def InstrKeepsUptoSaid : Prop := instrKeepsUptoRow.holds Tryd.pinned (OpenSpec.upto instrKeepsSpec)

end Rows
end Go.Proofs.YthpaamekpfhkjaaDoor
