/-
  The reference of the table, checked (a part).
-/
import Derived.Test.YtecpnfhpcamljaaGreatDoorKAJ
set_option linter.all false
set_option maxRecDepth 100000
set_option maxHeartbeats 4000000

namespace Go.Proofs.YtecpnfhpcamljaaGreatDoor
open Tryz
set_option maxRecDepth 100000
theorem qwR:qav prog 0 0 64=true:=by decide +kernel
theorem qxy:qav prog 1 0 64=true:=by decide +kernel
theorem qyP:qav prog 5 0 64=true:=by decide +kernel
theorem qxh:qav prog 6 0 64=true:=by decide +kernel
theorem qyG:qav prog 2 0 16=true:=by decide +kernel
theorem quK:qav prog 2 64 16=true:=by decide +kernel
theorem qtn:qav prog 2 128 16=true:=by decide +kernel
theorem qr8:qav prog 2 192 16=true:=by decide +kernel
theorem qxA:qav prog 3 0 32=true:=by decide +kernel
theorem qsh:qav prog 3 128 32=true:=by decide +kernel
theorem qyl:qav prog 4 0 32=true:=by decide +kernel
theorem qsV:qav prog 4 128 32=true:=by decide +kernel
end Go.Proofs.YtecpnfhpcamljaaGreatDoor
