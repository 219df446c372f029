/-
  A byte 13 at the end of a line, and blank lines. No program.
-/
import Derived.Test.YtmeegpdjhcilkaaDoorNumAll
namespace Go.Proofs.YtmeegpdjhcilkaaDoor
open Go.RowKit
set_option linter.unusedVariables false
/-- A line without a byte 13 at its end. -/
def trimC (x : List UInt8) : List UInt8 := if x.getLast? = some 13 then x.dropLast else x
def blankL (x : List UInt8) : Bool := x.all fun c => c == 32 || c == 9
theorem trimC_le (x : List UInt8) : (trimC x).length ≤ x.length := by
  unfold trimC
  split
  · rw [List.length_dropLast]; omega
  · exact Nat.le_refl _
end Go.Proofs.YtmeegpdjhcilkaaDoor
