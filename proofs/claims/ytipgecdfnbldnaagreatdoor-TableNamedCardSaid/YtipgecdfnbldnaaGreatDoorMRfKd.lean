/-
  What the reference's ed returns.
-/
import Derived.Test.YtipgecdfnbldnaaGreatDoorMRfE
import Derived.Deep.DeepCutAuto
import Derived.Deep.Cut
import Derived.StillTail
import Derived.StillTailTactics
import Derived.Deep.RegionHeld3
import Derived.RegionTactic
set_option linter.all false
set_option maxRecDepth 100000
set_option maxHeartbeats 4000000
namespace Go.Proofs.YtipgecdfnbldnaaGreatDoor
open Go.RowKit Go.Shelf
attribute [local irreducible] Go.Mixed.wpMix
def RetE (w : World) (m : Str) (L : List Tr) (ex : Str) (al : Bool) (e : Ending) (w' : World) : Prop := ∃ v, e = .returned (.tuple #[.agg #[.string (sB m), v], .string (sB ex), .bool al]) ∧ OwnT w' w.heap.size v L ∧ Below w.heap.size w w'
def ed7 (y : Nat) : Str × List Tr := ([([76, 68], [(9, 0, 0), (1, 7, 0)]), ([76, 68], [(9, 1, 0), (1, 7, 0)]), ([76, 68], [(1, 7, 0), (9, 0, 0)]), ([76, 68], [(1, 7, 0), (9, 1, 0)]), ([82, 82, 68], []), ([82, 76, 68], []), ([], []), ([], [])] : List (Str × List Tr)).getD y ([], [])
end Go.Proofs.YtipgecdfnbldnaaGreatDoor
