/-
  The reference of the table, checked (a part).
-/
import Derived.Test.YtecpnfhpcamljaaGreatDoorKAJ
set_option linter.all false
set_option maxRecDepth 100000
set_option maxHeartbeats 4000000

namespace Go.Proofs.YtecpnfhpcamljaaGreatDoor
open Tryz
set_option maxRecDepth 100000
theorem qsg:qav prog 0 128 64=true:=by decide +kernel
theorem qsR:qav prog 1 128 64=true:=by decide +kernel
theorem qtt:qav prog 5 128 64=true:=by decide +kernel
theorem qss:qav prog 6 128 64=true:=by decide +kernel
theorem qvU:qav prog 2 32 16=true:=by decide +kernel
theorem qwn:qav prog 2 96 16=true:=by decide +kernel
theorem qrn:qav prog 2 160 16=true:=by decide +kernel
theorem qrP:qav prog 2 224 16=true:=by decide +kernel
theorem qut:qav prog 3 64 32=true:=by decide +kernel
theorem qsH:qav prog 3 192 32=true:=by decide +kernel
theorem qwm:qav prog 4 64 32=true:=by decide +kernel
theorem qsy:qav prog 4 192 32=true:=by decide +kernel
end Go.Proofs.YtecpnfhpcamljaaGreatDoor
