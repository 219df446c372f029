/-
  RkZ, EsB.
-/
import Derived.Test.YtmnleknehjkmgaaGreatDoorMRkB
import Derived.Test.YtmnleknehjkmgaaGreatDoorMRkC
import Derived.Test.YtmnleknehjkmgaaGreatDoorMRkD
import Derived.Test.YtmnleknehjkmgaaGreatDoorMRkE
import Derived.Test.YtmnleknehjkmgaaGreatDoorGAI
set_option linter.all false
set_option maxRecDepth 100000
set_option maxHeartbeats 4000000
namespace Go.Proofs.YtmnleknehjkmgaaGreatDoor
open Go.RowKit Go.Shelf
end Go.Proofs.YtmnleknehjkmgaaGreatDoor
namespace Go.Proofs.YtmnleknehjkmgaaGreatDoor
open Go.RowKit Go.Shelf
def entsR (page:Int):Nat→List Ke
 | 0=>[]
 | k+1=>match ratT page k with
  | some x=>entsR page k++[(page,(k:Int),x.1,x.2.1,x.2.2.1,x.2.2.2)]
  | none=>entsR page k
end Go.Proofs.YtmnleknehjkmgaaGreatDoor
