/-
  RkZ, EsB.
-/
import Derived.Test.YtclhaejdjogfbaaGreatDoorWRkB
import Derived.Test.YtclhaejdjogfbaaGreatDoorWRkC
import Derived.Test.YtclhaejdjogfbaaGreatDoorWRkD
import Derived.Test.YtclhaejdjogfbaaGreatDoorWRkE
import Derived.Test.YtclhaejdjogfbaaGreatDoorHAI
set_option linter.all false
set_option maxRecDepth 100000
set_option maxHeartbeats 4000000
namespace Go.Proofs.YtclhaejdjogfbaaGreatDoor
open Go.RowKit Go.Shelf
end Go.Proofs.YtclhaejdjogfbaaGreatDoor
namespace Go.Proofs.YtclhaejdjogfbaaGreatDoor
open Go.RowKit Go.Shelf
def entsR (page : Int) : Nat → List Ke
  | 0 => []
  | k + 1 => match ratT page k with
    | some x => entsR page k ++ [(page, (k : Int), x.1, x.2.1, x.2.2.1, x.2.2.2)]
    | none => entsR page k
end Go.Proofs.YtclhaejdjogfbaaGreatDoor
