/-
  The walk over canon.steps: the three steps in their order.
-/
import Derived.Test.YtbmgfkbgfgknbaaDoorCnS
import Derived.Laws.EntriesVeiled
namespace Go.Proofs.YtbmgfkbgfgknbaaDoor
open Go.RowKit
set_option linter.unusedVariables false

set_option maxRecDepth 100000 in
set_option maxHeartbeats 1000000 in
theorem steps_any (w : World) : Calls Tryd.prog 15 #[] w fun e w' =>
    e = .returned (.agg #[.func (.func 22) #[] #[], .func (.func 23) #[] #[], .func (.func 24) #[] #[]]) ∧ Below w.heap.size w w' := by
  have B0 : ∀ o, Hid (Below w.heap.size w (w.alloc o)) := fun o => (Below.refl _ _).alloc (Nat.le_refl _) _
  go_enter Tryd.func15, Tryd.ntmps15
  go_wp2
  trace_state
  refine bodyPost_ret (v := .agg #[.func (.func 22) #[] #[], .func (.func 23) #[] #[], .func (.func 24) #[] #[]]) ?_ rfl ⟨rfl, (B0 _).out⟩
  simp [results, Tryd.results15, go_sem]
end Go.Proofs.YtbmgfkbgfgknbaaDoor
