/-
  The reference of the table, checked (a part).
-/
import Derived.Test.YtecpnfhpcamljaaGreatDoorKAJ
set_option linter.all false
set_option maxRecDepth 100000
set_option maxHeartbeats 4000000

namespace Go.Proofs.YtecpnfhpcamljaaGreatDoor
open Tryz
set_option maxRecDepth 100000
theorem qur:qav prog 0 64 64=true:=by decide +kernel
theorem qu2:qav prog 1 64 64=true:=by decide +kernel
theorem qvt:qav prog 5 64 64=true:=by decide +kernel
theorem quY:qav prog 6 64 64=true:=by decide +kernel
theorem qve:qav prog 2 16 16=true:=by decide +kernel
theorem qu1:qav prog 2 80 16=true:=by decide +kernel
theorem qrp:qav prog 2 144 16=true:=by decide +kernel
theorem qtq:qav prog 2 208 16=true:=by decide +kernel
theorem qvu:qav prog 3 32 32=true:=by decide +kernel
theorem qst:qav prog 3 160 32=true:=by decide +kernel
theorem qu7:qav prog 4 32 32=true:=by decide +kernel
theorem qrO:qav prog 4 160 32=true:=by decide +kernel
end Go.Proofs.YtecpnfhpcamljaaGreatDoor
