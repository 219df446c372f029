/-
  The walks over the law's fault and hexread.Normal.
-/
import Derived.Test.YtmeegpdjhcilkaaGreatDoorRdY
namespace Go.Proofs.YtmeegpdjhcilkaaGreatDoor
open Go.RowKit
set_option linter.unusedVariables false

theorem fault5_any (l c : Int) (w : World) : Calls Tryz.prog 9 #[.int .i64 l, .int .i64 c] w fun e w' => e = .returned (.agg #[.int .i64 l, .int .i64 c]) ∧ Below w.heap.size w w' := by
  have F : Two (w.alloc (.cells #[.int .i64 l, .int .i64 c] 26)) w.heap.size 26 (.int .i64 l) (.int .i64 c) := World.alloc_heap_new _ _
  have c0 := F.c0
  have c1 := F.c1
  have B : Hid (Below w.heap.size w (w.alloc (.cells #[.int .i64 l, .int .i64 c] 26))) := (Below.refl _ _).alloc (Nat.le_refl _) _
  clear F
  go_enter Tryz.func9, Tryz.ntmps9
  go_wp2
  refine bodyPost_ret (v := .agg #[.int .i64 l, .int .i64 c]) (by simp [results, Tryz.results9, go_sem, c0, c1]) rfl ?_
  exact ⟨rfl, B.out⟩
end Go.Proofs.YtmeegpdjhcilkaaGreatDoor
