/-
  The checks by Ev of the reference's At, by the kernel: FD.
-/
import Derived.Test.YtmnleknehjkmgaaGreatDoorGAI
set_option linter.all false
set_option maxRecDepth 100000
set_option maxHeartbeats 4000000
namespace Go.Proofs.YtmnleknehjkmgaaGreatDoor
set_option maxRecDepth 100000
end Go.Proofs.YtmnleknehjkmgaaGreatDoor
