/-
  The walk over the law's alive.
-/
import Derived.Test.YtbnehcnimbkakaaRecN
import Derived.Test.YtbnehcnimbkakaaRecF
namespace Go.Proofs.Ytbnehcnimbkakaa
open Go.RowKit
set_option linter.unusedVariables false

def endS : ByteArray := ⟨#[58, 48, 48, 48, 48, 48, 48, 48, 49, 70, 70]⟩
theorem endPrint : printS 1 0 [] = endS ∧ rightB 1 0 ([] : List UInt8).length = true := by decide +kernel
theorem endParse : parT endS = 1 ∧ parA endS = 0 ∧ parD endS = [] ∧ parCode endS = 0 := by decide +kernel
set_option maxHeartbeats 1000000 in
theorem alive_any (w : World) : Calls Try.prog 9 #[] w fun e w' => e = .returned (.bool true) ∧ Below w.heap.size w w' := by
  have hp : ∀ w, Calls Try.prog 10 #[.agg #[.int .i64 1, .int .i64 0, .slice none 0 0]] w fun e w' => e = .returned (.tuple #[.string ⟨#[58, 48, 48, 48, 48, 48, 48, 48, 49, 70, 70]⟩, .bool true]) ∧ Below w.heap.size w w' := fun w => by
    have h := print_any 1 0 none 0 [] (by simp [maxLen]) w (.inl rfl)
    rw [endPrint.1, endPrint.2] at h
    exact h
  have hq : ∀ w, Calls Try.prog 12 #[.string ⟨#[58, 48, 48, 48, 48, 48, 48, 48, 49, 70, 70]⟩] w (RetRec w 1 0 [] 0) := fun w => by
    have h := parse_any endS (by decide) w
    rw [endParse.1, endParse.2.1, endParse.2.2.1, endParse.2.2.2] at h
    exact h
  go_enter Try.func9, Try.ntmps9
  go_wp2_with fail
  refine (hp _).mono ?_
  rintro e w1 ⟨rfl, hB1⟩
  have B1 := Lib.hid hB1
  clear hB1 hp
  go_wp2_with fail
  refine (hq _).mono ?_
  rintro e w2 ⟨A, cap, rfl, -, -, hB2⟩
  have B2 := Lib.hid (B1.out.trans (hB2.mono B1.out.size))
  have N := Lib.hid (B2.out.alloc B2.out.size (.cells #[.int .i64 1, .int .i64 0, .slice A ([] : List UInt8).length cap] 28))
  clear hB2 hq
  go_wp2
  go_ret
  exact ⟨rfl, N.out⟩
end Go.Proofs.Ytbnehcnimbkakaa
