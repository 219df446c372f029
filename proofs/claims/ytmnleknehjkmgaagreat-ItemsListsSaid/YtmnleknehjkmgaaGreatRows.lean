/-
  No cell of these rows narrows 'for every input' (looked for: loops, veiled, ifaces, maps, wideKeys, modest, calm, conditions, laid).
  DERIVED. THE GIVEN ROWS OF THIS SEAT. 5 by the template 'for every input the law returns true; each argument reads behind the call as it read before'; 0 by the template 'total and deterministic' (their statements: YtmnleknehjkmgaaGreatTotals.lean).
  GIVEN WITH THE SEED: the statements are not yours to turn. If you find one false, say at which input.
  Laid BY PROGRAM, IN A SANDBOX (cutbox-rows.mjs): the forced cells as the released guide's own fill.sh prints them over the translation ea478d05deea2ec8… (all of the seat's roots in one cut). By AI agents, Wed Nov 11 2026. No macro, syntax, notation, axiom, sorry.
-/
import Derived.Test.YtmnleknehjkmgaaGreatChecked
import GoSem.Claim
import GoSem.ClaimJoined
import GoSem.ClaimMapViews
import Derived.JoinedTies
import Derived.KernelRfl
namespace Go.Proofs.YtmnleknehjkmgaaGreat
/- THE CELL 'sum', in the pinned program and in every row, IS THE sha256 OF THE DUMP (.gsa) THAT YtmnleknehjkmgaaGreatProg.lean LOADS. Nothing in Lean hashes anything: it is a label: what it is worth is what the hold of that sum in a sandbox is worth. -/
noncomputable def Tryz.pinned : Pinned := { name := "ytmnleknehjkmgaagreat", sum := "ea478d05deea2ec8b29fa5c3142b13d5f8aa0297c706323be4f59d85e4e34959", checked := Tryz.checked }
namespace Rows
def none {H : Type} : Left H := { results := [], args := [] }

/-- 'breadboardlaw13.ItemsDecode': WHATEVER THE INPUT: true; the input reads as it did. -/
def itemsDecodeSpec : ChangeSpec := { name := "itemsDecode", fn := fun _ => fun
  | [d] => { results := [.lit (.bool true)], args := [d] }
  | _ => none }
def itemsDecodeRow : OpenClaim := { program := "ytmnleknehjkmgaagreat", sum := "ea478d05deea2ec8b29fa5c3142b13d5f8aa0297c706323be4f59d85e4e34959", func := "breadboard/breadboardlaw13.ItemsDecode", spec := "itemsDecode", inPlace := ["internal/bytealg.IndexByteString", "internal/bytealg.IndexString"], unfollowed := true, recurses := true, named := ["internal/bytealg.MaxLen"], apart := false }
def ItemsDecodeSaid : Prop := itemsDecodeRow.holds Tryz.pinned (OpenSpec.ofChange itemsDecodeSpec)

/-- ITS FALSE NEIGHBOUR: 'it returns false'. Refute it at one input. -/
def itemsDecodeWrong : ChangeSpec := { name := "itemsDecode", fn := fun _ => fun
  | [d] => { results := [.lit (.bool false)], args := [d] }
  | _ => none }
def ItemsDecodeWrongFalsely : Prop := itemsDecodeRow.holds Tryz.pinned (OpenSpec.ofChange itemsDecodeWrong)

/-- 'breadboardlaw13.ItemsLists': WHATEVER THE INPUT: true; the input reads as it did. -/
def itemsListsSpec : ChangeSpec := { name := "itemsLists", fn := fun _ => fun
  | [d1, d2] => { results := [.lit (.bool true)], args := [d1, d2] }
  | _ => none }
def itemsListsRow : OpenClaim := { program := "ytmnleknehjkmgaagreat", sum := "ea478d05deea2ec8b29fa5c3142b13d5f8aa0297c706323be4f59d85e4e34959", func := "breadboard/breadboardlaw13.ItemsLists", spec := "itemsLists", inPlace := ["internal/bytealg.IndexByteString", "internal/bytealg.IndexString"], unfollowed := true, recurses := true, named := ["internal/bytealg.MaxLen"], apart := false }
def ItemsListsSaid : Prop := itemsListsRow.holds Tryz.pinned (OpenSpec.ofChange itemsListsSpec)

/-- ITS FALSE NEIGHBOUR: 'it returns false'. Refute it at one input. -/
def itemsListsWrong : ChangeSpec := { name := "itemsLists", fn := fun _ => fun
  | [d1, d2] => { results := [.lit (.bool false)], args := [d1, d2] }
  | _ => none }
def ItemsListsWrongFalsely : Prop := itemsListsRow.holds Tryz.pinned (OpenSpec.ofChange itemsListsWrong)

/-- 'breadboardlaw13.ItemsChecks': WHATEVER THE INPUT: true; the input reads as it did. -/
def itemsChecksSpec : ChangeSpec := { name := "itemsChecks", fn := fun _ => fun
  | [d1, d2] => { results := [.lit (.bool true)], args := [d1, d2] }
  | _ => none }
def itemsChecksRow : OpenClaim := { program := "ytmnleknehjkmgaagreat", sum := "ea478d05deea2ec8b29fa5c3142b13d5f8aa0297c706323be4f59d85e4e34959", func := "breadboard/breadboardlaw13.ItemsChecks", spec := "itemsChecks", inPlace := ["internal/bytealg.IndexByteString", "internal/bytealg.IndexString"], unfollowed := true, recurses := true, named := ["internal/bytealg.MaxLen"], apart := false }
def ItemsChecksSaid : Prop := itemsChecksRow.holds Tryz.pinned (OpenSpec.ofChange itemsChecksSpec)

/-- ITS FALSE NEIGHBOUR: 'it returns false'. Refute it at one input. -/
def itemsChecksWrong : ChangeSpec := { name := "itemsChecks", fn := fun _ => fun
  | [d1, d2] => { results := [.lit (.bool false)], args := [d1, d2] }
  | _ => none }
def ItemsChecksWrongFalsely : Prop := itemsChecksRow.holds Tryz.pinned (OpenSpec.ofChange itemsChecksWrong)

/-- 'breadboardlaw13.ItemsSplits': WHATEVER THE INPUT: true; the input reads as it did. -/
def itemsSplitsSpec : ChangeSpec := { name := "itemsSplits", fn := fun _ => fun
  | [d] => { results := [.lit (.bool true)], args := [d] }
  | _ => none }
def itemsSplitsRow : OpenClaim := { program := "ytmnleknehjkmgaagreat", sum := "ea478d05deea2ec8b29fa5c3142b13d5f8aa0297c706323be4f59d85e4e34959", func := "breadboard/breadboardlaw13.ItemsSplits", spec := "itemsSplits", inPlace := ["internal/bytealg.IndexByteString", "internal/bytealg.IndexString"], unfollowed := true, recurses := true, named := ["internal/bytealg.MaxLen"], apart := false }
def ItemsSplitsSaid : Prop := itemsSplitsRow.holds Tryz.pinned (OpenSpec.ofChange itemsSplitsSpec)

/-- ITS FALSE NEIGHBOUR: 'it returns false'. Refute it at one input. -/
def itemsSplitsWrong : ChangeSpec := { name := "itemsSplits", fn := fun _ => fun
  | [d] => { results := [.lit (.bool false)], args := [d] }
  | _ => none }
def ItemsSplitsWrongFalsely : Prop := itemsSplitsRow.holds Tryz.pinned (OpenSpec.ofChange itemsSplitsWrong)

/-- 'breadboardlaw13.ItemsJoins': WHATEVER THE INPUT: true; the input reads as it did. -/
def itemsJoinsSpec : ChangeSpec := { name := "itemsJoins", fn := fun _ => fun
  | [d1, d2] => { results := [.lit (.bool true)], args := [d1, d2] }
  | _ => none }
def itemsJoinsRow : OpenClaim := { program := "ytmnleknehjkmgaagreat", sum := "ea478d05deea2ec8b29fa5c3142b13d5f8aa0297c706323be4f59d85e4e34959", func := "breadboard/breadboardlaw13.ItemsJoins", spec := "itemsJoins", inPlace := ["internal/bytealg.IndexByteString", "internal/bytealg.IndexString"], unfollowed := true, recurses := true, named := ["internal/bytealg.MaxLen"], apart := false }
def ItemsJoinsSaid : Prop := itemsJoinsRow.holds Tryz.pinned (OpenSpec.ofChange itemsJoinsSpec)

/-- ITS FALSE NEIGHBOUR: 'it returns false'. Refute it at one input. -/
def itemsJoinsWrong : ChangeSpec := { name := "itemsJoins", fn := fun _ => fun
  | [d1, d2] => { results := [.lit (.bool false)], args := [d1, d2] }
  | _ => none }
def ItemsJoinsWrongFalsely : Prop := itemsJoinsRow.holds Tryz.pinned (OpenSpec.ofChange itemsJoinsWrong)

/- THE SECOND FORM. 'bulk': how many values and letters a reading holds, each counted each time it is reached (what is shared counts as often as it is met; a slice's spare places count too). A statement '..UptoSaid' is the law's where the arguments, and the package variables that the reading takes, are together of bulk at most 1048576: NARROWER than '..Said'. Prove '..Said' where nothing that the law and all that it calls make is longer than what came in: it says more and counts as full. Else prove '..UptoSaid'. A law counts once. -/
mutual
def uptoBulk {H : Type} : DataW H → Nat
  | .lit (.string bytes) => bytes.length + 1
  | .lit _ => 1
  | .nil => 1
  | .ptr d => uptoBulk d + 1
  | .slice elems spare => uptoBulkAll elems + uptoBulkAll spare + 1
  | .agg parts => uptoBulkAll parts + 1
  | .iface _ d => uptoBulk d + 1
  | .map entries => uptoBulkEntries entries + 1
  | .held _ => 1
def uptoBulkAll {H : Type} : List (DataW H) → Nat
  | [] => 0
  | d :: r => uptoBulk d + uptoBulkAll r
def uptoBulkEntries {H : Type} : List (Lit × DataW H) → Nat
  | [] => 0
  | x :: r => uptoBulkEntry x + uptoBulkEntries r
def uptoBulkEntry {H : Type} : Lit × DataW H → Nat
  | (.string bytes, d) => bytes.length + uptoBulk d + 1
  | (_, d) => uptoBulk d + 1
 end
def uptoSmall : (H : Type) → List (DataW H) → Bool := fun _ ds => decide (uptoBulkAll ds ≤ 1048576)
def OpenSpec.upto (s : _root_.Go.ChangeSpec) : _root_.Go.OpenSpec := { _root_.Go.OpenSpec.ofChange s with cond := some uptoSmall }

/-- 'breadboardlaw13.ItemsDecode', WHERE WHAT IT READS IS OF BULK AT MOST 1048576: true; the input reads as it did. -/
def itemsDecodeUptoRow : OpenClaim := { program := "ytmnleknehjkmgaagreat", sum := "ea478d05deea2ec8b29fa5c3142b13d5f8aa0297c706323be4f59d85e4e34959", func := "breadboard/breadboardlaw13.ItemsDecode", spec := "itemsDecode", inPlace := ["internal/bytealg.IndexByteString", "internal/bytealg.IndexString"], unfollowed := true, recurses := true, named := ["internal/bytealg.MaxLen"], apart := false, narrowed := true }
def ItemsDecodeUptoSaid : Prop := itemsDecodeUptoRow.holds Tryz.pinned (OpenSpec.upto itemsDecodeSpec)

/-- 'breadboardlaw13.ItemsLists', WHERE WHAT IT READS IS OF BULK AT MOST 1048576: true; the input reads as it did. -/
def itemsListsUptoRow : OpenClaim := { program := "ytmnleknehjkmgaagreat", sum := "ea478d05deea2ec8b29fa5c3142b13d5f8aa0297c706323be4f59d85e4e34959", func := "breadboard/breadboardlaw13.ItemsLists", spec := "itemsLists", inPlace := ["internal/bytealg.IndexByteString", "internal/bytealg.IndexString"], unfollowed := true, recurses := true, named := ["internal/bytealg.MaxLen"], apart := false, narrowed := true }
def ItemsListsUptoSaid : Prop := itemsListsUptoRow.holds Tryz.pinned (OpenSpec.upto itemsListsSpec)

/-- 'breadboardlaw13.ItemsChecks', WHERE WHAT IT READS IS OF BULK AT MOST 1048576: true; the input reads as it did. -/
def itemsChecksUptoRow : OpenClaim := { program := "ytmnleknehjkmgaagreat", sum := "ea478d05deea2ec8b29fa5c3142b13d5f8aa0297c706323be4f59d85e4e34959", func := "breadboard/breadboardlaw13.ItemsChecks", spec := "itemsChecks", inPlace := ["internal/bytealg.IndexByteString", "internal/bytealg.IndexString"], unfollowed := true, recurses := true, named := ["internal/bytealg.MaxLen"], apart := false, narrowed := true }
def ItemsChecksUptoSaid : Prop := itemsChecksUptoRow.holds Tryz.pinned (OpenSpec.upto itemsChecksSpec)

/-- 'breadboardlaw13.ItemsSplits', WHERE WHAT IT READS IS OF BULK AT MOST 1048576: true; the input reads as it did. -/
def itemsSplitsUptoRow : OpenClaim := { program := "ytmnleknehjkmgaagreat", sum := "ea478d05deea2ec8b29fa5c3142b13d5f8aa0297c706323be4f59d85e4e34959", func := "breadboard/breadboardlaw13.ItemsSplits", spec := "itemsSplits", inPlace := ["internal/bytealg.IndexByteString", "internal/bytealg.IndexString"], unfollowed := true, recurses := true, named := ["internal/bytealg.MaxLen"], apart := false, narrowed := true }
def ItemsSplitsUptoSaid : Prop := itemsSplitsUptoRow.holds Tryz.pinned (OpenSpec.upto itemsSplitsSpec)

/-- 'breadboardlaw13.ItemsJoins', WHERE WHAT IT READS IS OF BULK AT MOST 1048576: true; the input reads as it did. -/
def itemsJoinsUptoRow : OpenClaim := { program := "ytmnleknehjkmgaagreat", sum := "ea478d05deea2ec8b29fa5c3142b13d5f8aa0297c706323be4f59d85e4e34959", func := "breadboard/breadboardlaw13.ItemsJoins", spec := "itemsJoins", inPlace := ["internal/bytealg.IndexByteString", "internal/bytealg.IndexString"], unfollowed := true, recurses := true, named := ["internal/bytealg.MaxLen"], apart := false, narrowed := true }
def ItemsJoinsUptoSaid : Prop := itemsJoinsUptoRow.holds Tryz.pinned (OpenSpec.upto itemsJoinsSpec)

end Rows
end Go.Proofs.YtmnleknehjkmgaaGreat
