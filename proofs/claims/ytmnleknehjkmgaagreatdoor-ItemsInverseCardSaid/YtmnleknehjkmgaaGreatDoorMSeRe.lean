/-
  The reference's Fits.
-/
import Derived.Test.YtmnleknehjkmgaaGreatDoorGAU
import Derived.Test.YtmnleknehjkmgaaGreatDoorMCnU
import Derived.Test.YtmnleknehjkmgaaGreatDoorGAR
import Derived.Test.YtmnleknehjkmgaaGreatDoorGAE
set_option linter.all false
set_option maxRecDepth 100000
set_option maxHeartbeats 4000000
namespace Go.Proofs.YtmnleknehjkmgaaGreatDoor
open Go.RowKit Go.Shelf
attribute [local go_sem] Oper.semAt_some
attribute [local irreducible] Go.Mixed.wpMix
end Go.Proofs.YtmnleknehjkmgaaGreatDoor
