/-
  The checks by Ev of the reference's At, by the kernel: DD.
-/
import Derived.Test.YtajlleeonddinaaGreatDoorGAJ
set_option linter.all false
set_option maxRecDepth 100000
set_option maxHeartbeats 4000000
namespace Go.Proofs.YtajlleeonddinaaGreatDoor
set_option maxRecDepth 100000
theorem ok_3_0:okAll Tryz.prog 3 0 32=true:=by decide +kernel
theorem ok_3_32:okAll Tryz.prog 3 32 32=true:=by decide +kernel
theorem ok_3_64:okAll Tryz.prog 3 64 32=true:=by decide +kernel
theorem ok_3_96:okAll Tryz.prog 3 96 32=true:=by decide +kernel
theorem ok_3_128:okAll Tryz.prog 3 128 32=true:=by decide +kernel
theorem ok_3_160:okAll Tryz.prog 3 160 32=true:=by decide +kernel
theorem ok_3_192:okAll Tryz.prog 3 192 32=true:=by decide +kernel
theorem ok_3_224:okAll Tryz.prog 3 224 32=true:=by decide +kernel
end Go.Proofs.YtajlleeonddinaaGreatDoor
