/-
  The reference of the table, checked (a part).
-/
import Derived.Test.YtecpnfhpcamljaaGreatDoorKAJ
set_option linter.all false
set_option maxRecDepth 100000
set_option maxHeartbeats 4000000

namespace Go.Proofs.YtecpnfhpcamljaaGreatDoor
open Tryz
set_option maxRecDepth 100000
theorem qsK:qav prog 0 192 64=true:=by decide +kernel
theorem qsG:qav prog 1 192 64=true:=by decide +kernel
theorem qs2:qav prog 5 192 64=true:=by decide +kernel
theorem qtg:qav prog 6 192 64=true:=by decide +kernel
theorem qvn:qav prog 2 48 16=true:=by decide +kernel
theorem qtu:qav prog 2 112 16=true:=by decide +kernel
theorem qsf:qav prog 2 176 16=true:=by decide +kernel
theorem qtv:qav prog 2 240 16=true:=by decide +kernel
theorem qv0:qav prog 3 96 32=true:=by decide +kernel
theorem qrR:qav prog 3 224 32=true:=by decide +kernel
theorem qvN:qav prog 4 96 32=true:=by decide +kernel
theorem qrk:qav prog 4 224 32=true:=by decide +kernel
end Go.Proofs.YtecpnfhpcamljaaGreatDoor
