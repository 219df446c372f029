/-
  The checks by Ev of the reference's At, by the kernel: ED.
-/
import Derived.Test.YtajlleeonddinaaGreatDoorGAJ
set_option linter.all false
set_option maxRecDepth 100000
set_option maxHeartbeats 4000000
namespace Go.Proofs.YtajlleeonddinaaGreatDoor
set_option maxRecDepth 100000
theorem ok_2_0:okAll Tryz.prog 2 0 16=true:=by decide +kernel
theorem ok_2_16:okAll Tryz.prog 2 16 16=true:=by decide +kernel
theorem ok_2_32:okAll Tryz.prog 2 32 16=true:=by decide +kernel
theorem ok_2_48:okAll Tryz.prog 2 48 16=true:=by decide +kernel
theorem ok_2_64:okAll Tryz.prog 2 64 16=true:=by decide +kernel
theorem ok_2_80:okAll Tryz.prog 2 80 16=true:=by decide +kernel
theorem ok_2_96:okAll Tryz.prog 2 96 16=true:=by decide +kernel
theorem ok_2_112:okAll Tryz.prog 2 112 16=true:=by decide +kernel
theorem ok_2_128:okAll Tryz.prog 2 128 16=true:=by decide +kernel
theorem ok_2_144:okAll Tryz.prog 2 144 16=true:=by decide +kernel
theorem ok_2_160:okAll Tryz.prog 2 160 16=true:=by decide +kernel
theorem ok_2_176:okAll Tryz.prog 2 176 16=true:=by decide +kernel
theorem ok_2_192:okAll Tryz.prog 2 192 16=true:=by decide +kernel
theorem ok_2_208:okAll Tryz.prog 2 208 16=true:=by decide +kernel
theorem ok_2_224:okAll Tryz.prog 2 224 16=true:=by decide +kernel
theorem ok_2_240:okAll Tryz.prog 2 240 16=true:=by decide +kernel
end Go.Proofs.YtajlleeonddinaaGreatDoor
