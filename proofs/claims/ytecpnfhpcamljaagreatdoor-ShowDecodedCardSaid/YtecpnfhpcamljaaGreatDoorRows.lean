/-
  NARROWER THAN 'FOR EVERY INPUT', by the rows' own cells (each row's printed sentence says how): ShowInstrs: laid · ShowApart: laid · ShowData: laid · ShowItems: laid · ShowTables: laid · ShowDecoded: laid.
  DERIVED. THE GIVEN ROWS OF THIS SEAT. 6 by the template 'for every input the law returns true; each argument reads behind the call as it read before'; 0 by the template 'total and deterministic' (their statements: YtecpnfhpcamljaaGreatDoorTotals.lean).
  GIVEN WITH THE SEED: the statements are not yours to turn. If you find one false, say at which input.
  Laid BY PROGRAM, IN A SANDBOX (cutbox-rows.mjs): the forced cells as the released guide's own fill.sh prints them over the translation 1856e2359129d6bf… (all of the seat's roots in one cut). By AI agents, Wed Nov 11 2026. No macro, syntax, notation, axiom, sorry.
-/
import Derived.Test.YtecpnfhpcamljaaGreatDoorChecked
import GoSem.PinnedTables
import GoSem.Claim
import GoSem.ClaimJoined
import GoSem.ClaimMapViews
import Derived.JoinedTies
import Derived.KernelRfl
namespace Go.Proofs.YtecpnfhpcamljaaGreatDoor
/- THE CELL 'sum', in the pinned program and in every row, IS THE sha256 OF THE DUMP (.gsa) THAT YtecpnfhpcamljaaGreatDoorProg.lean LOADS. Nothing in Lean hashes anything: it is a label: what it is worth is what the hold of that sum in a sandbox is worth. -/
noncomputable def Tryz.pinned : Pinned := { name := "ytecpnfhpcamljaagreatdoor", sum := "1856e2359129d6bf30b28f657684f0618ec72168ea657bf276785fbc562cfeff", checked := Tryz.checked }
namespace Rows
def none {H : Type} : Left H := { results := [], args := [] }

/- WHAT THE LISTED PACKAGE-LEVEL VARIABLES READ AS WHEN THE CALL BEGINS. Each datum BY PROGRAM (the guide's laid-datum.mjs) off the statement by which the dump's own 'gosem.cut.vars' lays the variable. In a bare row this is a premise. The card (YtecpnfhpcamljaaGreatDoorCards.lean) ties it to the program's text. -/
def laid_unicode_utf8_acceptRanges {H : Type} : DataW H := .agg [.agg [.lit (.int .u8 128), .lit (.int .u8 191)], .agg [.lit (.int .u8 160), .lit (.int .u8 191)], .agg [.lit (.int .u8 128), .lit (.int .u8 159)], .agg [.lit (.int .u8 144), .lit (.int .u8 191)], .agg [.lit (.int .u8 128), .lit (.int .u8 143)], .agg [.lit (.int .u8 0), .lit (.int .u8 0)], .agg [.lit (.int .u8 0), .lit (.int .u8 0)], .agg [.lit (.int .u8 0), .lit (.int .u8 0)], .agg [.lit (.int .u8 0), .lit (.int .u8 0)], .agg [.lit (.int .u8 0), .lit (.int .u8 0)], .agg [.lit (.int .u8 0), .lit (.int .u8 0)], .agg [.lit (.int .u8 0), .lit (.int .u8 0)], .agg [.lit (.int .u8 0), .lit (.int .u8 0)], .agg [.lit (.int .u8 0), .lit (.int .u8 0)], .agg [.lit (.int .u8 0), .lit (.int .u8 0)], .agg [.lit (.int .u8 0), .lit (.int .u8 0)]]
/-- One of Go's own tables, pinned by name: the form's constant. -/
def laid_unicode_utf8_first : DataW Unit := Go.Pinned.utf8First

/-- 'breadboardlaw15.ShowInstrs': WHATEVER THE INPUT: true; the input reads as it did. -/
def showInstrsSpec : ChangeSpec := { name := "showInstrs", fn := fun _ => fun
  | [d] => { results := [.lit (.bool true)], args := [d] }
  | _ => none }
def showInstrsRow : OpenClaim := { program := "ytecpnfhpcamljaagreatdoor", sum := "1856e2359129d6bf30b28f657684f0618ec72168ea657bf276785fbc562cfeff", func := "breadboard/breadboardlaw15.ShowInstrs", spec := "showInstrs", inPlace := ["slices.overlaps[breadboard/api.Operand]", "internal/bytealg.IndexByteString", "internal/bytealg.IndexString", "internal/abi.NoEscape", "internal/bytealg.MakeNoZero"], unfollowed := true, recurses := true, named := ["unicode/utf8.first", "unicode/utf8.acceptRanges", "internal/bytealg.MaxLen"], apart := false, laid := [("unicode/utf8.acceptRanges", laid_unicode_utf8_acceptRanges), ("unicode/utf8.first", laid_unicode_utf8_first)] }
def ShowInstrsSaid : Prop := showInstrsRow.holds Tryz.pinned (OpenSpec.ofChange showInstrsSpec)

/-- ITS FALSE NEIGHBOUR: 'it returns false'. Refute it at one input. -/
def showInstrsWrong : ChangeSpec := { name := "showInstrs", fn := fun _ => fun
  | [d] => { results := [.lit (.bool false)], args := [d] }
  | _ => none }
def ShowInstrsWrongFalsely : Prop := showInstrsRow.holds Tryz.pinned (OpenSpec.ofChange showInstrsWrong)

/-- 'breadboardlaw15.ShowApart': WHATEVER THE INPUT: true; the input reads as it did. -/
def showApartSpec : ChangeSpec := { name := "showApart", fn := fun _ => fun
  | [d1, d2] => { results := [.lit (.bool true)], args := [d1, d2] }
  | _ => none }
def showApartRow : OpenClaim := { program := "ytecpnfhpcamljaagreatdoor", sum := "1856e2359129d6bf30b28f657684f0618ec72168ea657bf276785fbc562cfeff", func := "breadboard/breadboardlaw15.ShowApart", spec := "showApart", inPlace := ["slices.overlaps[breadboard/api.Operand]", "internal/bytealg.IndexByteString", "internal/bytealg.IndexString", "internal/abi.NoEscape", "internal/bytealg.MakeNoZero"], unfollowed := true, recurses := true, named := ["unicode/utf8.first", "unicode/utf8.acceptRanges", "internal/bytealg.MaxLen"], apart := false, laid := [("unicode/utf8.acceptRanges", laid_unicode_utf8_acceptRanges), ("unicode/utf8.first", laid_unicode_utf8_first)] }
def ShowApartSaid : Prop := showApartRow.holds Tryz.pinned (OpenSpec.ofChange showApartSpec)

/-- ITS FALSE NEIGHBOUR: 'it returns false'. Refute it at one input. -/
def showApartWrong : ChangeSpec := { name := "showApart", fn := fun _ => fun
  | [d1, d2] => { results := [.lit (.bool false)], args := [d1, d2] }
  | _ => none }
def ShowApartWrongFalsely : Prop := showApartRow.holds Tryz.pinned (OpenSpec.ofChange showApartWrong)

/-- 'breadboardlaw15.ShowData': WHATEVER THE INPUT: true; the input reads as it did. -/
def showDataSpec : ChangeSpec := { name := "showData", fn := fun _ => fun
  | [d] => { results := [.lit (.bool true)], args := [d] }
  | _ => none }
def showDataRow : OpenClaim := { program := "ytecpnfhpcamljaagreatdoor", sum := "1856e2359129d6bf30b28f657684f0618ec72168ea657bf276785fbc562cfeff", func := "breadboard/breadboardlaw15.ShowData", spec := "showData", inPlace := ["slices.overlaps[breadboard/api.Operand]", "internal/bytealg.IndexByteString", "internal/bytealg.IndexString", "internal/abi.NoEscape", "internal/bytealg.MakeNoZero", "internal/bytealg.CountString"], unfollowed := true, recurses := true, named := ["unicode/utf8.first", "unicode/utf8.acceptRanges", "internal/bytealg.MaxLen"], apart := false, laid := [("unicode/utf8.acceptRanges", laid_unicode_utf8_acceptRanges), ("unicode/utf8.first", laid_unicode_utf8_first)] }
def ShowDataSaid : Prop := showDataRow.holds Tryz.pinned (OpenSpec.ofChange showDataSpec)

/-- ITS FALSE NEIGHBOUR: 'it returns false'. Refute it at one input. -/
def showDataWrong : ChangeSpec := { name := "showData", fn := fun _ => fun
  | [d] => { results := [.lit (.bool false)], args := [d] }
  | _ => none }
def ShowDataWrongFalsely : Prop := showDataRow.holds Tryz.pinned (OpenSpec.ofChange showDataWrong)

/-- 'breadboardlaw15.ShowItems': WHATEVER THE INPUT: true; the input reads as it did. -/
def showItemsSpec : ChangeSpec := { name := "showItems", fn := fun _ => fun
  | [d1, d2] => { results := [.lit (.bool true)], args := [d1, d2] }
  | _ => none }
def showItemsRow : OpenClaim := { program := "ytecpnfhpcamljaagreatdoor", sum := "1856e2359129d6bf30b28f657684f0618ec72168ea657bf276785fbc562cfeff", func := "breadboard/breadboardlaw15.ShowItems", spec := "showItems", inPlace := ["slices.overlaps[breadboard/api.Operand]", "internal/bytealg.IndexByteString", "internal/bytealg.IndexString", "internal/abi.NoEscape", "internal/bytealg.MakeNoZero"], unfollowed := true, recurses := true, named := ["unicode/utf8.first", "unicode/utf8.acceptRanges", "internal/bytealg.MaxLen"], apart := false, laid := [("unicode/utf8.acceptRanges", laid_unicode_utf8_acceptRanges), ("unicode/utf8.first", laid_unicode_utf8_first)] }
def ShowItemsSaid : Prop := showItemsRow.holds Tryz.pinned (OpenSpec.ofChange showItemsSpec)

/-- ITS FALSE NEIGHBOUR: 'it returns false'. Refute it at one input. -/
def showItemsWrong : ChangeSpec := { name := "showItems", fn := fun _ => fun
  | [d1, d2] => { results := [.lit (.bool false)], args := [d1, d2] }
  | _ => none }
def ShowItemsWrongFalsely : Prop := showItemsRow.holds Tryz.pinned (OpenSpec.ofChange showItemsWrong)

/-- 'breadboardlaw15.ShowTables': WHATEVER THE INPUT: true; the input reads as it did. -/
def showTablesSpec : ChangeSpec := { name := "showTables", fn := fun _ => fun
  | [d1, d2] => { results := [.lit (.bool true)], args := [d1, d2] }
  | _ => none }
def showTablesRow : OpenClaim := { program := "ytecpnfhpcamljaagreatdoor", sum := "1856e2359129d6bf30b28f657684f0618ec72168ea657bf276785fbc562cfeff", func := "breadboard/breadboardlaw15.ShowTables", spec := "showTables", inPlace := ["slices.overlaps[breadboard/api.Operand]", "internal/bytealg.IndexByteString", "internal/bytealg.IndexString", "internal/abi.NoEscape", "internal/bytealg.MakeNoZero", "internal/bytealg.CountString"], unfollowed := true, recurses := true, named := ["unicode/utf8.first", "unicode/utf8.acceptRanges", "internal/bytealg.MaxLen"], apart := false, laid := [("unicode/utf8.acceptRanges", laid_unicode_utf8_acceptRanges), ("unicode/utf8.first", laid_unicode_utf8_first)] }
def ShowTablesSaid : Prop := showTablesRow.holds Tryz.pinned (OpenSpec.ofChange showTablesSpec)

/-- ITS FALSE NEIGHBOUR: 'it returns false'. Refute it at one input. -/
def showTablesWrong : ChangeSpec := { name := "showTables", fn := fun _ => fun
  | [d1, d2] => { results := [.lit (.bool false)], args := [d1, d2] }
  | _ => none }
def ShowTablesWrongFalsely : Prop := showTablesRow.holds Tryz.pinned (OpenSpec.ofChange showTablesWrong)

/-- 'breadboardlaw15.ShowDecoded': WHATEVER THE INPUT: true; the input reads as it did. -/
def showDecodedSpec : ChangeSpec := { name := "showDecoded", fn := fun _ => fun
  | [d] => { results := [.lit (.bool true)], args := [d] }
  | _ => none }
def showDecodedRow : OpenClaim := { program := "ytecpnfhpcamljaagreatdoor", sum := "1856e2359129d6bf30b28f657684f0618ec72168ea657bf276785fbc562cfeff", func := "breadboard/breadboardlaw15.ShowDecoded", spec := "showDecoded", inPlace := ["slices.overlaps[breadboard/api.Operand]", "internal/bytealg.IndexByteString", "internal/bytealg.IndexString", "internal/abi.NoEscape", "internal/bytealg.MakeNoZero"], unfollowed := true, recurses := true, named := ["unicode/utf8.first", "unicode/utf8.acceptRanges", "internal/bytealg.MaxLen"], apart := false, laid := [("unicode/utf8.acceptRanges", laid_unicode_utf8_acceptRanges), ("unicode/utf8.first", laid_unicode_utf8_first)] }
def ShowDecodedSaid : Prop := showDecodedRow.holds Tryz.pinned (OpenSpec.ofChange showDecodedSpec)

/-- ITS FALSE NEIGHBOUR: 'it returns false'. Refute it at one input. -/
def showDecodedWrong : ChangeSpec := { name := "showDecoded", fn := fun _ => fun
  | [d] => { results := [.lit (.bool false)], args := [d] }
  | _ => none }
def ShowDecodedWrongFalsely : Prop := showDecodedRow.holds Tryz.pinned (OpenSpec.ofChange showDecodedWrong)

/- THE SECOND FORM. 'bulk': how many values and letters a reading holds, each counted each time it is reached (what is shared counts as often as it is met; a slice's spare places count too). A statement '..UptoSaid' is the law's where the arguments, and the package variables that the reading takes, are together of bulk at most 1048576: NARROWER than '..Said'. Prove '..Said' where nothing that the law and all that it calls make is longer than what came in: it says more and counts as full. Else prove '..UptoSaid'. A law counts once. -/
mutual
def uptoBulk {H : Type} : DataW H → Nat
  | .lit (.string bytes) => bytes.length + 1
  | .lit _ => 1
  | .nil => 1
  | .ptr d => uptoBulk d + 1
  | .slice elems spare => uptoBulkAll elems + uptoBulkAll spare + 1
  | .agg parts => uptoBulkAll parts + 1
  | .iface _ d => uptoBulk d + 1
  | .map entries => uptoBulkEntries entries + 1
  | .held _ => 1
def uptoBulkAll {H : Type} : List (DataW H) → Nat
  | [] => 0
  | d :: r => uptoBulk d + uptoBulkAll r
def uptoBulkEntries {H : Type} : List (Lit × DataW H) → Nat
  | [] => 0
  | x :: r => uptoBulkEntry x + uptoBulkEntries r
def uptoBulkEntry {H : Type} : Lit × DataW H → Nat
  | (.string bytes, d) => bytes.length + uptoBulk d + 1
  | (_, d) => uptoBulk d + 1
 end
def uptoSmall : (H : Type) → List (DataW H) → Bool := fun _ ds => decide (uptoBulkAll ds ≤ 1048576)
def OpenSpec.upto (s : _root_.Go.ChangeSpec) : _root_.Go.OpenSpec := { _root_.Go.OpenSpec.ofChange s with cond := some uptoSmall }

/-- 'breadboardlaw15.ShowInstrs', WHERE WHAT IT READS IS OF BULK AT MOST 1048576: true; the input reads as it did. -/
def showInstrsUptoRow : OpenClaim := { program := "ytecpnfhpcamljaagreatdoor", sum := "1856e2359129d6bf30b28f657684f0618ec72168ea657bf276785fbc562cfeff", func := "breadboard/breadboardlaw15.ShowInstrs", spec := "showInstrs", inPlace := ["slices.overlaps[breadboard/api.Operand]", "internal/bytealg.IndexByteString", "internal/bytealg.IndexString", "internal/abi.NoEscape", "internal/bytealg.MakeNoZero"], unfollowed := true, recurses := true, named := ["unicode/utf8.first", "unicode/utf8.acceptRanges", "internal/bytealg.MaxLen"], apart := false, laid := [("unicode/utf8.acceptRanges", laid_unicode_utf8_acceptRanges), ("unicode/utf8.first", laid_unicode_utf8_first)], narrowed := true }
def ShowInstrsUptoSaid : Prop := showInstrsUptoRow.holds Tryz.pinned (OpenSpec.upto showInstrsSpec)

/-- 'breadboardlaw15.ShowApart', WHERE WHAT IT READS IS OF BULK AT MOST 1048576: true; the input reads as it did. -/
def showApartUptoRow : OpenClaim := { program := "ytecpnfhpcamljaagreatdoor", sum := "1856e2359129d6bf30b28f657684f0618ec72168ea657bf276785fbc562cfeff", func := "breadboard/breadboardlaw15.ShowApart", spec := "showApart", inPlace := ["slices.overlaps[breadboard/api.Operand]", "internal/bytealg.IndexByteString", "internal/bytealg.IndexString", "internal/abi.NoEscape", "internal/bytealg.MakeNoZero"], unfollowed := true, recurses := true, named := ["unicode/utf8.first", "unicode/utf8.acceptRanges", "internal/bytealg.MaxLen"], apart := false, laid := [("unicode/utf8.acceptRanges", laid_unicode_utf8_acceptRanges), ("unicode/utf8.first", laid_unicode_utf8_first)], narrowed := true }
def ShowApartUptoSaid : Prop := showApartUptoRow.holds Tryz.pinned (OpenSpec.upto showApartSpec)

/-- 'breadboardlaw15.ShowData', WHERE WHAT IT READS IS OF BULK AT MOST 1048576: true; the input reads as it did. -/
def showDataUptoRow : OpenClaim := { program := "ytecpnfhpcamljaagreatdoor", sum := "1856e2359129d6bf30b28f657684f0618ec72168ea657bf276785fbc562cfeff", func := "breadboard/breadboardlaw15.ShowData", spec := "showData", inPlace := ["slices.overlaps[breadboard/api.Operand]", "internal/bytealg.IndexByteString", "internal/bytealg.IndexString", "internal/abi.NoEscape", "internal/bytealg.MakeNoZero", "internal/bytealg.CountString"], unfollowed := true, recurses := true, named := ["unicode/utf8.first", "unicode/utf8.acceptRanges", "internal/bytealg.MaxLen"], apart := false, laid := [("unicode/utf8.acceptRanges", laid_unicode_utf8_acceptRanges), ("unicode/utf8.first", laid_unicode_utf8_first)], narrowed := true }
def ShowDataUptoSaid : Prop := showDataUptoRow.holds Tryz.pinned (OpenSpec.upto showDataSpec)

/-- 'breadboardlaw15.ShowItems', WHERE WHAT IT READS IS OF BULK AT MOST 1048576: true; the input reads as it did. -/
def showItemsUptoRow : OpenClaim := { program := "ytecpnfhpcamljaagreatdoor", sum := "1856e2359129d6bf30b28f657684f0618ec72168ea657bf276785fbc562cfeff", func := "breadboard/breadboardlaw15.ShowItems", spec := "showItems", inPlace := ["slices.overlaps[breadboard/api.Operand]", "internal/bytealg.IndexByteString", "internal/bytealg.IndexString", "internal/abi.NoEscape", "internal/bytealg.MakeNoZero"], unfollowed := true, recurses := true, named := ["unicode/utf8.first", "unicode/utf8.acceptRanges", "internal/bytealg.MaxLen"], apart := false, laid := [("unicode/utf8.acceptRanges", laid_unicode_utf8_acceptRanges), ("unicode/utf8.first", laid_unicode_utf8_first)], narrowed := true }
def ShowItemsUptoSaid : Prop := showItemsUptoRow.holds Tryz.pinned (OpenSpec.upto showItemsSpec)

/-- 'breadboardlaw15.ShowTables', WHERE WHAT IT READS IS OF BULK AT MOST 1048576: true; the input reads as it did. -/
def showTablesUptoRow : OpenClaim := { program := "ytecpnfhpcamljaagreatdoor", sum := "1856e2359129d6bf30b28f657684f0618ec72168ea657bf276785fbc562cfeff", func := "breadboard/breadboardlaw15.ShowTables", spec := "showTables", inPlace := ["slices.overlaps[breadboard/api.Operand]", "internal/bytealg.IndexByteString", "internal/bytealg.IndexString", "internal/abi.NoEscape", "internal/bytealg.MakeNoZero", "internal/bytealg.CountString"], unfollowed := true, recurses := true, named := ["unicode/utf8.first", "unicode/utf8.acceptRanges", "internal/bytealg.MaxLen"], apart := false, laid := [("unicode/utf8.acceptRanges", laid_unicode_utf8_acceptRanges), ("unicode/utf8.first", laid_unicode_utf8_first)], narrowed := true }
def ShowTablesUptoSaid : Prop := showTablesUptoRow.holds Tryz.pinned (OpenSpec.upto showTablesSpec)

/-- 'breadboardlaw15.ShowDecoded', WHERE WHAT IT READS IS OF BULK AT MOST 1048576: true; the input reads as it did. -/
def showDecodedUptoRow : OpenClaim := { program := "ytecpnfhpcamljaagreatdoor", sum := "1856e2359129d6bf30b28f657684f0618ec72168ea657bf276785fbc562cfeff", func := "breadboard/breadboardlaw15.ShowDecoded", spec := "showDecoded", inPlace := ["slices.overlaps[breadboard/api.Operand]", "internal/bytealg.IndexByteString", "internal/bytealg.IndexString", "internal/abi.NoEscape", "internal/bytealg.MakeNoZero"], unfollowed := true, recurses := true, named := ["unicode/utf8.first", "unicode/utf8.acceptRanges", "internal/bytealg.MaxLen"], apart := false, laid := [("unicode/utf8.acceptRanges", laid_unicode_utf8_acceptRanges), ("unicode/utf8.first", laid_unicode_utf8_first)], narrowed := true }
def ShowDecodedUptoSaid : Prop := showDecodedUptoRow.holds Tryz.pinned (OpenSpec.upto showDecodedSpec)

end Rows
end Go.Proofs.YtecpnfhpcamljaaGreatDoor
