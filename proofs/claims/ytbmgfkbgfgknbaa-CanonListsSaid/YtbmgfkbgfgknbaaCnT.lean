/-
  The walk over canon.steps: the three steps in their order.
-/
import Derived.Test.YtbmgfkbgfgknbaaCnS
import Derived.Laws.EntriesVeiled
namespace Go.Proofs.Ytbmgfkbgfgknbaa
open Go.RowKit
set_option linter.unusedVariables false

set_option maxRecDepth 100000 in
set_option maxHeartbeats 1000000 in
theorem steps_any (w : World) : Calls Try.prog 17 #[] w fun e w' =>
    e = .returned (.agg #[.func (.func 21) #[] #[], .func (.func 22) #[] #[], .func (.func 23) #[] #[]]) ∧ Below w.heap.size w w' := by
  have B0 : ∀ o, Hid (Below w.heap.size w (w.alloc o)) := fun o => (Below.refl _ _).alloc (Nat.le_refl _) _
  go_enter Try.func17, Try.ntmps17
  go_wp2
  trace_state
  refine bodyPost_ret (v := .agg #[.func (.func 21) #[] #[], .func (.func 22) #[] #[], .func (.func 23) #[] #[]]) ?_ rfl ⟨rfl, (B0 _).out⟩
  simp [results, Try.results17, go_sem]
end Go.Proofs.Ytbmgfkbgfgknbaa
