/-
  The walks over the register A and the register pairs of canonical forms.
-/
import Derived.Test.YtbmgfkbgfgknbaaCnN
namespace Go.Proofs.Ytbmgfkbgfgknbaa
open Go.RowKit
set_option linter.unusedVariables false

set_option maxRecDepth 100000 in
set_option maxHeartbeats 1000000 in
theorem acc_any (w : World) : Calls Try.prog 25 #[] w fun e w' => e = .returned (.agg #[.int .i64 1, .int .i64 7, .int .i64 0]) ∧ Below w.heap.size w w' := by
  have B0 : ∀ o, Hid (Below w.heap.size w (w.alloc o)) := fun o => (Below.refl _ _).alloc (Nat.le_refl _) _
  go_enter Try.func25, Try.ntmps25
  go_wp2
  refine bodyPost_ret (v := .agg #[.int .i64 1, .int .i64 7, .int .i64 0]) ?_ rfl ⟨rfl, (B0 _).out⟩
  simp [results, Try.results25, go_sem]
set_option maxRecDepth 100000 in
set_option maxHeartbeats 1000000 in
theorem pair_any (r : Int) (w : World) : Calls Try.prog 27 #[.int .i64 r] w fun e w' => e = .returned (.agg #[.int .i64 3, .int .i64 r, .int .i64 0]) ∧ Below w.heap.size w w' := by
  have B0 : ∀ o, Hid (Below w.heap.size w (w.alloc o)) := fun o => (Below.refl _ _).alloc (Nat.le_refl _) _
  go_enter Try.func27, Try.ntmps27
  go_wp2
  refine bodyPost_ret (v := .agg #[.int .i64 3, .int .i64 r, .int .i64 0]) ?_ rfl ⟨rfl, (B0 _).out⟩
  simp [results, Try.results27, go_sem]
end Go.Proofs.Ytbmgfkbgfgknbaa
