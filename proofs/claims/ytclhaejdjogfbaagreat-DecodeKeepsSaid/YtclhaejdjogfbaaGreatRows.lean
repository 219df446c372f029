/-
  No cell of these rows narrows 'for every input' (looked for: loops, veiled, ifaces, maps, wideKeys, modest, calm, conditions, laid).
  DERIVED. THE GIVEN ROWS OF THIS SEAT. 4 by the template 'for every input the law returns true; each argument reads behind the call as it read before'; 0 by the template 'total and deterministic' (their statements: YtclhaejdjogfbaaGreatTotals.lean).
  GIVEN WITH THE SEED: the statements are not yours to turn. If you find one false, say at which input.
  Laid BY PROGRAM, IN A SANDBOX (cutbox-rows.mjs): the forced cells as the released guide's own fill.sh prints them over the translation bd7dc6b9145aff16… (all of the seat's roots in one cut). By AI agents, Wed Nov 11 2026. No macro, syntax, notation, axiom, sorry.
-/
import Derived.Test.YtclhaejdjogfbaaGreatChecked
import GoSem.Claim
import GoSem.ClaimJoined
import GoSem.ClaimMapViews
import Derived.JoinedTies
import Derived.KernelRfl
namespace Go.Proofs.YtclhaejdjogfbaaGreat
/- THE CELL 'sum', in the pinned program and in every row, IS THE sha256 OF THE DUMP (.gsa) THAT YtclhaejdjogfbaaGreatProg.lean LOADS. Nothing in Lean hashes anything: it is a label: what it is worth is what the hold of that sum in a sandbox is worth. -/
noncomputable def Tryz.pinned : Pinned := { name := "ytclhaejdjogfbaagreat", sum := "bd7dc6b9145aff16689c5d22a12cea1d95ec31467136abedd37ce59d9f5ab33c", checked := Tryz.checked }
namespace Rows
def none {H : Type} : Left H := { results := [], args := [] }

/-- 'breadboardlaw12.DecodeFirst': WHATEVER THE INPUT: true; the input reads as it did. -/
def decodeFirstSpec : ChangeSpec := { name := "decodeFirst", fn := fun _ => fun
  | [d] => { results := [.lit (.bool true)], args := [d] }
  | _ => none }
def decodeFirstRow : OpenClaim := { program := "ytclhaejdjogfbaagreat", sum := "bd7dc6b9145aff16689c5d22a12cea1d95ec31467136abedd37ce59d9f5ab33c", func := "breadboard/breadboardlaw12.DecodeFirst", spec := "decodeFirst", inPlace := ["internal/bytealg.IndexByteString", "internal/bytealg.IndexString"], unfollowed := true, recurses := true, named := ["internal/bytealg.MaxLen"], apart := false }
def DecodeFirstSaid : Prop := decodeFirstRow.holds Tryz.pinned (OpenSpec.ofChange decodeFirstSpec)

/-- ITS FALSE NEIGHBOUR: 'it returns false'. Refute it at one input. -/
def decodeFirstWrong : ChangeSpec := { name := "decodeFirst", fn := fun _ => fun
  | [d] => { results := [.lit (.bool false)], args := [d] }
  | _ => none }
def DecodeFirstWrongFalsely : Prop := decodeFirstRow.holds Tryz.pinned (OpenSpec.ofChange decodeFirstWrong)

/-- 'breadboardlaw12.DecodeAt': WHATEVER THE INPUT: true; the input reads as it did. -/
def decodeAtSpec : ChangeSpec := { name := "decodeAt", fn := fun _ => fun
  | [d1, d2] => { results := [.lit (.bool true)], args := [d1, d2] }
  | _ => none }
def decodeAtRow : OpenClaim := { program := "ytclhaejdjogfbaagreat", sum := "bd7dc6b9145aff16689c5d22a12cea1d95ec31467136abedd37ce59d9f5ab33c", func := "breadboard/breadboardlaw12.DecodeAt", spec := "decodeAt", inPlace := ["internal/bytealg.IndexByteString", "internal/bytealg.IndexString"], unfollowed := true, recurses := true, named := ["internal/bytealg.MaxLen"], apart := false }
def DecodeAtSaid : Prop := decodeAtRow.holds Tryz.pinned (OpenSpec.ofChange decodeAtSpec)

/-- ITS FALSE NEIGHBOUR: 'it returns false'. Refute it at one input. -/
def decodeAtWrong : ChangeSpec := { name := "decodeAt", fn := fun _ => fun
  | [d1, d2] => { results := [.lit (.bool false)], args := [d1, d2] }
  | _ => none }
def DecodeAtWrongFalsely : Prop := decodeAtRow.holds Tryz.pinned (OpenSpec.ofChange decodeAtWrong)

/-- 'breadboardlaw12.DecodeNeeds': WHATEVER THE INPUT: true; the input reads as it did. -/
def decodeNeedsSpec : ChangeSpec := { name := "decodeNeeds", fn := fun _ => fun
  | [d] => { results := [.lit (.bool true)], args := [d] }
  | _ => none }
def decodeNeedsRow : OpenClaim := { program := "ytclhaejdjogfbaagreat", sum := "bd7dc6b9145aff16689c5d22a12cea1d95ec31467136abedd37ce59d9f5ab33c", func := "breadboard/breadboardlaw12.DecodeNeeds", spec := "decodeNeeds", inPlace := ["internal/bytealg.IndexByteString", "internal/bytealg.IndexString"], unfollowed := true, recurses := true, named := ["internal/bytealg.MaxLen"], apart := false }
def DecodeNeedsSaid : Prop := decodeNeedsRow.holds Tryz.pinned (OpenSpec.ofChange decodeNeedsSpec)

/-- ITS FALSE NEIGHBOUR: 'it returns false'. Refute it at one input. -/
def decodeNeedsWrong : ChangeSpec := { name := "decodeNeeds", fn := fun _ => fun
  | [d] => { results := [.lit (.bool false)], args := [d] }
  | _ => none }
def DecodeNeedsWrongFalsely : Prop := decodeNeedsRow.holds Tryz.pinned (OpenSpec.ofChange decodeNeedsWrong)

/-- 'breadboardlaw12.DecodeKeeps': WHATEVER THE INPUT: true; the input reads as it did. -/
def decodeKeepsSpec : ChangeSpec := { name := "decodeKeeps", fn := fun _ => fun
  | [d1, d2] => { results := [.lit (.bool true)], args := [d1, d2] }
  | _ => none }
def decodeKeepsRow : OpenClaim := { program := "ytclhaejdjogfbaagreat", sum := "bd7dc6b9145aff16689c5d22a12cea1d95ec31467136abedd37ce59d9f5ab33c", func := "breadboard/breadboardlaw12.DecodeKeeps", spec := "decodeKeeps", inPlace := ["internal/bytealg.IndexByteString", "internal/bytealg.IndexString"], unfollowed := true, recurses := true, named := ["internal/bytealg.MaxLen"], apart := false }
def DecodeKeepsSaid : Prop := decodeKeepsRow.holds Tryz.pinned (OpenSpec.ofChange decodeKeepsSpec)

/-- ITS FALSE NEIGHBOUR: 'it returns false'. Refute it at one input. -/
def decodeKeepsWrong : ChangeSpec := { name := "decodeKeeps", fn := fun _ => fun
  | [d1, d2] => { results := [.lit (.bool false)], args := [d1, d2] }
  | _ => none }
def DecodeKeepsWrongFalsely : Prop := decodeKeepsRow.holds Tryz.pinned (OpenSpec.ofChange decodeKeepsWrong)

/- THE SECOND FORM. 'bulk': how many values and letters a reading holds, each counted each time it is reached (what is shared counts as often as it is met; a slice's spare places count too). A statement '..UptoSaid' is the law's where the arguments, and the package variables that the reading takes, are together of bulk at most 1048576: NARROWER than '..Said'. Prove '..Said' where nothing that the law and all that it calls make is longer than what came in: it says more and counts as full. Else prove '..UptoSaid'. A law counts once. -/
mutual
def uptoBulk {H : Type} : DataW H → Nat
  | .lit (.string bytes) => bytes.length + 1
  | .lit _ => 1
  | .nil => 1
  | .ptr d => uptoBulk d + 1
  | .slice elems spare => uptoBulkAll elems + uptoBulkAll spare + 1
  | .agg parts => uptoBulkAll parts + 1
  | .iface _ d => uptoBulk d + 1
  | .map entries => uptoBulkEntries entries + 1
  | .held _ => 1
def uptoBulkAll {H : Type} : List (DataW H) → Nat
  | [] => 0
  | d :: r => uptoBulk d + uptoBulkAll r
def uptoBulkEntries {H : Type} : List (Lit × DataW H) → Nat
  | [] => 0
  | x :: r => uptoBulkEntry x + uptoBulkEntries r
def uptoBulkEntry {H : Type} : Lit × DataW H → Nat
  | (.string bytes, d) => bytes.length + uptoBulk d + 1
  | (_, d) => uptoBulk d + 1
 end
def uptoSmall : (H : Type) → List (DataW H) → Bool := fun _ ds => decide (uptoBulkAll ds ≤ 1048576)
def OpenSpec.upto (s : _root_.Go.ChangeSpec) : _root_.Go.OpenSpec := { _root_.Go.OpenSpec.ofChange s with cond := some uptoSmall }

/-- 'breadboardlaw12.DecodeFirst', WHERE WHAT IT READS IS OF BULK AT MOST 1048576: true; the input reads as it did. -/
def decodeFirstUptoRow : OpenClaim := { program := "ytclhaejdjogfbaagreat", sum := "bd7dc6b9145aff16689c5d22a12cea1d95ec31467136abedd37ce59d9f5ab33c", func := "breadboard/breadboardlaw12.DecodeFirst", spec := "decodeFirst", inPlace := ["internal/bytealg.IndexByteString", "internal/bytealg.IndexString"], unfollowed := true, recurses := true, named := ["internal/bytealg.MaxLen"], apart := false, narrowed := true }
def DecodeFirstUptoSaid : Prop := decodeFirstUptoRow.holds Tryz.pinned (OpenSpec.upto decodeFirstSpec)

/-- 'breadboardlaw12.DecodeAt', WHERE WHAT IT READS IS OF BULK AT MOST 1048576: true; the input reads as it did. -/
def decodeAtUptoRow : OpenClaim := { program := "ytclhaejdjogfbaagreat", sum := "bd7dc6b9145aff16689c5d22a12cea1d95ec31467136abedd37ce59d9f5ab33c", func := "breadboard/breadboardlaw12.DecodeAt", spec := "decodeAt", inPlace := ["internal/bytealg.IndexByteString", "internal/bytealg.IndexString"], unfollowed := true, recurses := true, named := ["internal/bytealg.MaxLen"], apart := false, narrowed := true }
def DecodeAtUptoSaid : Prop := decodeAtUptoRow.holds Tryz.pinned (OpenSpec.upto decodeAtSpec)

/-- 'breadboardlaw12.DecodeNeeds', WHERE WHAT IT READS IS OF BULK AT MOST 1048576: true; the input reads as it did. -/
def decodeNeedsUptoRow : OpenClaim := { program := "ytclhaejdjogfbaagreat", sum := "bd7dc6b9145aff16689c5d22a12cea1d95ec31467136abedd37ce59d9f5ab33c", func := "breadboard/breadboardlaw12.DecodeNeeds", spec := "decodeNeeds", inPlace := ["internal/bytealg.IndexByteString", "internal/bytealg.IndexString"], unfollowed := true, recurses := true, named := ["internal/bytealg.MaxLen"], apart := false, narrowed := true }
def DecodeNeedsUptoSaid : Prop := decodeNeedsUptoRow.holds Tryz.pinned (OpenSpec.upto decodeNeedsSpec)

/-- 'breadboardlaw12.DecodeKeeps', WHERE WHAT IT READS IS OF BULK AT MOST 1048576: true; the input reads as it did. -/
def decodeKeepsUptoRow : OpenClaim := { program := "ytclhaejdjogfbaagreat", sum := "bd7dc6b9145aff16689c5d22a12cea1d95ec31467136abedd37ce59d9f5ab33c", func := "breadboard/breadboardlaw12.DecodeKeeps", spec := "decodeKeeps", inPlace := ["internal/bytealg.IndexByteString", "internal/bytealg.IndexString"], unfollowed := true, recurses := true, named := ["internal/bytealg.MaxLen"], apart := false, narrowed := true }
def DecodeKeepsUptoSaid : Prop := decodeKeepsUptoRow.holds Tryz.pinned (OpenSpec.upto decodeKeepsSpec)

end Rows
end Go.Proofs.YtclhaejdjogfbaaGreat
