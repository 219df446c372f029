/-
  The walks over the register A and the register pairs of canonical forms.
-/
import Derived.Test.YtbmgfkbgfgknbaaDoorCnN
namespace Go.Proofs.YtbmgfkbgfgknbaaDoor
open Go.RowKit
set_option linter.unusedVariables false

set_option maxRecDepth 100000 in
set_option maxHeartbeats 1000000 in
theorem acc_any (w : World) : Calls Tryd.prog 28 #[] w fun e w' => e = .returned (.agg #[.int .i64 1, .int .i64 7, .int .i64 0]) ∧ Below w.heap.size w w' := by
  have B0 : ∀ o, Hid (Below w.heap.size w (w.alloc o)) := fun o => (Below.refl _ _).alloc (Nat.le_refl _) _
  go_enter Tryd.func28, Tryd.ntmps28
  go_wp2
  refine bodyPost_ret (v := .agg #[.int .i64 1, .int .i64 7, .int .i64 0]) ?_ rfl ⟨rfl, (B0 _).out⟩
  simp [results, Tryd.results28, go_sem]
set_option maxRecDepth 100000 in
set_option maxHeartbeats 1000000 in
theorem pair_any (r : Int) (w : World) : Calls Tryd.prog 30 #[.int .i64 r] w fun e w' => e = .returned (.agg #[.int .i64 3, .int .i64 r, .int .i64 0]) ∧ Below w.heap.size w w' := by
  have B0 : ∀ o, Hid (Below w.heap.size w (w.alloc o)) := fun o => (Below.refl _ _).alloc (Nat.le_refl _) _
  go_enter Tryd.func30, Tryd.ntmps30
  go_wp2
  refine bodyPost_ret (v := .agg #[.int .i64 3, .int .i64 r, .int .i64 0]) ?_ rfl ⟨rfl, (B0 _).out⟩
  simp [results, Tryd.results30, go_sem]
end Go.Proofs.YtbmgfkbgfgknbaaDoor
