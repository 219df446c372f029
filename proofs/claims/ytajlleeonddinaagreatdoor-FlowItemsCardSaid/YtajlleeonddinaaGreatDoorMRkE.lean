/-
  The checks by Ev of the reference's At, by the kernel: FD.
-/
import Derived.Test.YtajlleeonddinaaGreatDoorGAJ
set_option linter.all false
set_option maxRecDepth 100000
set_option maxHeartbeats 4000000
namespace Go.Proofs.YtajlleeonddinaaGreatDoor
set_option maxRecDepth 100000
theorem ok_4_0:okAll Tryz.prog 4 0 32=true:=by decide +kernel
theorem ok_4_32:okAll Tryz.prog 4 32 32=true:=by decide +kernel
theorem ok_4_64:okAll Tryz.prog 4 64 32=true:=by decide +kernel
theorem ok_4_96:okAll Tryz.prog 4 96 32=true:=by decide +kernel
theorem ok_4_128:okAll Tryz.prog 4 128 32=true:=by decide +kernel
theorem ok_4_160:okAll Tryz.prog 4 160 32=true:=by decide +kernel
theorem ok_4_192:okAll Tryz.prog 4 192 32=true:=by decide +kernel
theorem ok_4_224:okAll Tryz.prog 4 224 32=true:=by decide +kernel
end Go.Proofs.YtajlleeonddinaaGreatDoor
