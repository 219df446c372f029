/-
  The checks by Ev of the reference's At, by the kernel: Main, CB, DDCB, FDCB.
-/
import Derived.Test.YtajlleeonddinaaGreatDoorGAJ
set_option linter.all false
set_option maxRecDepth 100000
set_option maxHeartbeats 4000000
namespace Go.Proofs.YtajlleeonddinaaGreatDoor
set_option maxRecDepth 100000
theorem ok_0_0:okAll Tryz.prog 0 0 64=true:=by decide +kernel
theorem ok_0_64:okAll Tryz.prog 0 64 64=true:=by decide +kernel
theorem ok_0_128:okAll Tryz.prog 0 128 64=true:=by decide +kernel
theorem ok_0_192:okAll Tryz.prog 0 192 64=true:=by decide +kernel
theorem ok_1_0:okAll Tryz.prog 1 0 64=true:=by decide +kernel
theorem ok_1_64:okAll Tryz.prog 1 64 64=true:=by decide +kernel
theorem ok_1_128:okAll Tryz.prog 1 128 64=true:=by decide +kernel
theorem ok_1_192:okAll Tryz.prog 1 192 64=true:=by decide +kernel
theorem ok_5_0:okAll Tryz.prog 5 0 64=true:=by decide +kernel
theorem ok_5_64:okAll Tryz.prog 5 64 64=true:=by decide +kernel
theorem ok_5_128:okAll Tryz.prog 5 128 64=true:=by decide +kernel
theorem ok_5_192:okAll Tryz.prog 5 192 64=true:=by decide +kernel
theorem ok_6_0:okAll Tryz.prog 6 0 64=true:=by decide +kernel
theorem ok_6_64:okAll Tryz.prog 6 64 64=true:=by decide +kernel
theorem ok_6_128:okAll Tryz.prog 6 128 64=true:=by decide +kernel
theorem ok_6_192:okAll Tryz.prog 6 192 64=true:=by decide +kernel
end Go.Proofs.YtajlleeonddinaaGreatDoor
