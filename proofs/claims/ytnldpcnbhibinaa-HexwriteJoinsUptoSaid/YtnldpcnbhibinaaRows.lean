/-
  No cell of these rows narrows 'for every input' (looked for: loops, veiled, ifaces, maps, wideKeys, modest, calm, conditions, laid).
  DERIVED. THE GIVEN ROWS OF THIS SEAT. 4 by the template 'for every input the law returns true; each argument reads behind the call as it read before'; 0 by the template 'total and deterministic' (their statements: YtnldpcnbhibinaaTotals.lean).
  GIVEN WITH THE SEED: the statements are not yours to turn. If you find one false, say at which input.
  Laid BY PROGRAM, IN A SANDBOX (cutbox-rows.mjs): the forced cells as the released guide's own fill.sh prints them over the translation a5c634d7b0ac80ef… (all of the seat's roots in one cut). By AI agents, Wed Nov 11 2026. No macro, syntax, notation, axiom, sorry.
-/
import Derived.Test.YtnldpcnbhibinaaChecked
import GoSem.Claim
import GoSem.ClaimJoined
import GoSem.ClaimMapViews
import Derived.JoinedTies
import Derived.KernelRfl
namespace Go.Proofs.Ytnldpcnbhibinaa
/- THE CELL 'sum', in the pinned program and in every row, IS THE sha256 OF THE DUMP (.gsa) THAT YtnldpcnbhibinaaProg.lean LOADS. Nothing in Lean hashes anything: it is a label: what it is worth is what the hold of that sum in a sandbox is worth. -/
noncomputable def Try.pinned : Pinned := { name := "ytnldpcnbhibinaa", sum := "a5c634d7b0ac80efb3ad525e2bbbf12fa3560791c3d7e5d6f2e2a748e23e6f92", checked := Try.checked }
namespace Rows
def none {H : Type} : Left H := { results := [], args := [] }

/-- 'breadboardlaw04.HexwriteWrites': WHATEVER THE INPUT: true; the input reads as it did. -/
def hexwriteWritesSpec : ChangeSpec := { name := "hexwriteWrites", fn := fun _ => fun
  | [d1, d2] => { results := [.lit (.bool true)], args := [d1, d2] }
  | _ => none }
def hexwriteWritesRow : OpenClaim := { program := "ytnldpcnbhibinaa", sum := "a5c634d7b0ac80efb3ad525e2bbbf12fa3560791c3d7e5d6f2e2a748e23e6f92", func := "breadboard/breadboardlaw04.HexwriteWrites", spec := "hexwriteWrites", inPlace := ["internal/abi.NoEscape", "internal/bytealg.CountString", "internal/bytealg.IndexByteString", "internal/bytealg.IndexString"], unfollowed := true, recurses := true, named := ["internal/bytealg.MaxLen"], apart := false }
def HexwriteWritesSaid : Prop := hexwriteWritesRow.holds Try.pinned (OpenSpec.ofChange hexwriteWritesSpec)

/-- ITS FALSE NEIGHBOUR: 'it returns false'. Refute it at one input. -/
def hexwriteWritesWrong : ChangeSpec := { name := "hexwriteWrites", fn := fun _ => fun
  | [d1, d2] => { results := [.lit (.bool false)], args := [d1, d2] }
  | _ => none }
def HexwriteWritesWrongFalsely : Prop := hexwriteWritesRow.holds Try.pinned (OpenSpec.ofChange hexwriteWritesWrong)

/-- 'breadboardlaw04.HexwriteDumps': WHATEVER THE INPUT: true; the input reads as it did. -/
def hexwriteDumpsSpec : ChangeSpec := { name := "hexwriteDumps", fn := fun _ => fun
  | [d] => { results := [.lit (.bool true)], args := [d] }
  | _ => none }
def hexwriteDumpsRow : OpenClaim := { program := "ytnldpcnbhibinaa", sum := "a5c634d7b0ac80efb3ad525e2bbbf12fa3560791c3d7e5d6f2e2a748e23e6f92", func := "breadboard/breadboardlaw04.HexwriteDumps", spec := "hexwriteDumps", inPlace := ["internal/abi.NoEscape"], unfollowed := true, recurses := true, apart := false }
def HexwriteDumpsSaid : Prop := hexwriteDumpsRow.holds Try.pinned (OpenSpec.ofChange hexwriteDumpsSpec)

/-- ITS FALSE NEIGHBOUR: 'it returns false'. Refute it at one input. -/
def hexwriteDumpsWrong : ChangeSpec := { name := "hexwriteDumps", fn := fun _ => fun
  | [d] => { results := [.lit (.bool false)], args := [d] }
  | _ => none }
def HexwriteDumpsWrongFalsely : Prop := hexwriteDumpsRow.holds Try.pinned (OpenSpec.ofChange hexwriteDumpsWrong)

/-- 'breadboardlaw04.HexwriteSame': WHATEVER THE INPUT: true; the input reads as it did. -/
def hexwriteSameSpec : ChangeSpec := { name := "hexwriteSame", fn := fun _ => fun
  | [d1, d2] => { results := [.lit (.bool true)], args := [d1, d2] }
  | _ => none }
def hexwriteSameRow : OpenClaim := { program := "ytnldpcnbhibinaa", sum := "a5c634d7b0ac80efb3ad525e2bbbf12fa3560791c3d7e5d6f2e2a748e23e6f92", func := "breadboard/breadboardlaw04.HexwriteSame", spec := "hexwriteSame", inPlace := ["internal/abi.NoEscape"], unfollowed := true, recurses := true, apart := false }
def HexwriteSameSaid : Prop := hexwriteSameRow.holds Try.pinned (OpenSpec.ofChange hexwriteSameSpec)

/-- ITS FALSE NEIGHBOUR: 'it returns false'. Refute it at one input. -/
def hexwriteSameWrong : ChangeSpec := { name := "hexwriteSame", fn := fun _ => fun
  | [d1, d2] => { results := [.lit (.bool false)], args := [d1, d2] }
  | _ => none }
def HexwriteSameWrongFalsely : Prop := hexwriteSameRow.holds Try.pinned (OpenSpec.ofChange hexwriteSameWrong)

/-- 'breadboardlaw04.HexwriteJoins': WHATEVER THE INPUT: true; the input reads as it did. -/
def hexwriteJoinsSpec : ChangeSpec := { name := "hexwriteJoins", fn := fun _ => fun
  | [d] => { results := [.lit (.bool true)], args := [d] }
  | _ => none }
def hexwriteJoinsRow : OpenClaim := { program := "ytnldpcnbhibinaa", sum := "a5c634d7b0ac80efb3ad525e2bbbf12fa3560791c3d7e5d6f2e2a748e23e6f92", func := "breadboard/breadboardlaw04.HexwriteJoins", spec := "hexwriteJoins", inPlace := ["internal/abi.NoEscape"], unfollowed := true, recurses := true, apart := false }
def HexwriteJoinsSaid : Prop := hexwriteJoinsRow.holds Try.pinned (OpenSpec.ofChange hexwriteJoinsSpec)

/-- ITS FALSE NEIGHBOUR: 'it returns false'. Refute it at one input. -/
def hexwriteJoinsWrong : ChangeSpec := { name := "hexwriteJoins", fn := fun _ => fun
  | [d] => { results := [.lit (.bool false)], args := [d] }
  | _ => none }
def HexwriteJoinsWrongFalsely : Prop := hexwriteJoinsRow.holds Try.pinned (OpenSpec.ofChange hexwriteJoinsWrong)

/- THE SECOND FORM. 'bulk': how many values and letters a reading holds, each counted each time it is reached (what is shared counts as often as it is met; a slice's spare places count too). A statement '..UptoSaid' is the law's where the arguments, and the package variables that the reading takes, are together of bulk at most 1048576: NARROWER than '..Said'. Prove '..Said' where nothing that the law and all that it calls make is longer than what came in: it says more and counts as full. Else prove '..UptoSaid'. A law counts once. -/
mutual
def uptoBulk {H : Type} : DataW H → Nat
  | .lit (.string bytes) => bytes.length + 1
  | .lit _ => 1
  | .nil => 1
  | .ptr d => uptoBulk d + 1
  | .slice elems spare => uptoBulkAll elems + uptoBulkAll spare + 1
  | .agg parts => uptoBulkAll parts + 1
  | .iface _ d => uptoBulk d + 1
  | .map entries => uptoBulkEntries entries + 1
  | .held _ => 1
def uptoBulkAll {H : Type} : List (DataW H) → Nat
  | [] => 0
  | d :: r => uptoBulk d + uptoBulkAll r
def uptoBulkEntries {H : Type} : List (Lit × DataW H) → Nat
  | [] => 0
  | x :: r => uptoBulkEntry x + uptoBulkEntries r
def uptoBulkEntry {H : Type} : Lit × DataW H → Nat
  | (.string bytes, d) => bytes.length + uptoBulk d + 1
  | (_, d) => uptoBulk d + 1
 end
def uptoSmall : (H : Type) → List (DataW H) → Bool := fun _ ds => decide (uptoBulkAll ds ≤ 1048576)
def OpenSpec.upto (s : _root_.Go.ChangeSpec) : _root_.Go.OpenSpec := { _root_.Go.OpenSpec.ofChange s with cond := some uptoSmall }

/-- 'breadboardlaw04.HexwriteWrites', WHERE WHAT IT READS IS OF BULK AT MOST 1048576: true; the input reads as it did. -/
def hexwriteWritesUptoRow : OpenClaim := { program := "ytnldpcnbhibinaa", sum := "a5c634d7b0ac80efb3ad525e2bbbf12fa3560791c3d7e5d6f2e2a748e23e6f92", func := "breadboard/breadboardlaw04.HexwriteWrites", spec := "hexwriteWrites", inPlace := ["internal/abi.NoEscape", "internal/bytealg.CountString", "internal/bytealg.IndexByteString", "internal/bytealg.IndexString"], unfollowed := true, recurses := true, named := ["internal/bytealg.MaxLen"], apart := false, narrowed := true }
def HexwriteWritesUptoSaid : Prop := hexwriteWritesUptoRow.holds Try.pinned (OpenSpec.upto hexwriteWritesSpec)

/-- 'breadboardlaw04.HexwriteDumps', WHERE WHAT IT READS IS OF BULK AT MOST 1048576: true; the input reads as it did. -/
def hexwriteDumpsUptoRow : OpenClaim := { program := "ytnldpcnbhibinaa", sum := "a5c634d7b0ac80efb3ad525e2bbbf12fa3560791c3d7e5d6f2e2a748e23e6f92", func := "breadboard/breadboardlaw04.HexwriteDumps", spec := "hexwriteDumps", inPlace := ["internal/abi.NoEscape"], unfollowed := true, recurses := true, apart := false, narrowed := true }
def HexwriteDumpsUptoSaid : Prop := hexwriteDumpsUptoRow.holds Try.pinned (OpenSpec.upto hexwriteDumpsSpec)

/-- 'breadboardlaw04.HexwriteSame', WHERE WHAT IT READS IS OF BULK AT MOST 1048576: true; the input reads as it did. -/
def hexwriteSameUptoRow : OpenClaim := { program := "ytnldpcnbhibinaa", sum := "a5c634d7b0ac80efb3ad525e2bbbf12fa3560791c3d7e5d6f2e2a748e23e6f92", func := "breadboard/breadboardlaw04.HexwriteSame", spec := "hexwriteSame", inPlace := ["internal/abi.NoEscape"], unfollowed := true, recurses := true, apart := false, narrowed := true }
def HexwriteSameUptoSaid : Prop := hexwriteSameUptoRow.holds Try.pinned (OpenSpec.upto hexwriteSameSpec)

/-- 'breadboardlaw04.HexwriteJoins', WHERE WHAT IT READS IS OF BULK AT MOST 1048576: true; the input reads as it did. -/
def hexwriteJoinsUptoRow : OpenClaim := { program := "ytnldpcnbhibinaa", sum := "a5c634d7b0ac80efb3ad525e2bbbf12fa3560791c3d7e5d6f2e2a748e23e6f92", func := "breadboard/breadboardlaw04.HexwriteJoins", spec := "hexwriteJoins", inPlace := ["internal/abi.NoEscape"], unfollowed := true, recurses := true, apart := false, narrowed := true }
def HexwriteJoinsUptoSaid : Prop := hexwriteJoinsUptoRow.holds Try.pinned (OpenSpec.upto hexwriteJoinsSpec)

end Rows
end Go.Proofs.Ytnldpcnbhibinaa
