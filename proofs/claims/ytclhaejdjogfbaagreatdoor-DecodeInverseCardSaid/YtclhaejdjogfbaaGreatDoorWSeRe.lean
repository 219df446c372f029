/-
  The reference's Fits.
-/
import Derived.Test.YtclhaejdjogfbaaGreatDoorHAS
import Derived.Test.YtclhaejdjogfbaaGreatDoorWCnU
import Derived.Test.YtclhaejdjogfbaaGreatDoorHAQ
import Derived.Test.YtclhaejdjogfbaaGreatDoorHAE
set_option linter.all false
set_option maxRecDepth 100000
set_option maxHeartbeats 4000000
namespace Go.Proofs.YtclhaejdjogfbaaGreatDoor
open Go.RowKit Go.Shelf
attribute [local go_sem] Oper.semAt_some
attribute [local irreducible] Go.Mixed.wpMix
end Go.Proofs.YtclhaejdjogfbaaGreatDoor
