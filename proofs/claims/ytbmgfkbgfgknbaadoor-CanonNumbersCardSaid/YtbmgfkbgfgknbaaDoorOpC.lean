/-
  The walk over operand.kinds.
-/
import Derived.Test.YtbmgfkbgfgknbaaDoorOpB
import Derived.Laws.Tables
import Derived.Deep.WholeRow
namespace Go.Proofs.YtbmgfkbgfgknbaaDoor
open Go.RowKit
set_option linter.unusedVariables false

def kindsA : Array Value := #[.nilFunc, .int .i64 0, .int .i64 0, .nilFunc,
  .func (.func 36) #[] #[], .int .i64 0, .int .i64 0, .func (.func 37) #[] #[],
  .func (.func 38) #[] #[], .int .i64 0, .int .i64 0, .func (.func 37) #[] #[],
  .func (.func 39) #[] #[], .int .i64 0, .int .i64 0, .func (.func 37) #[] #[],
  .func (.func 40) #[] #[], .int .i64 0, .int .i64 0, .func (.func 41) #[] #[],
  .func (.func 42) #[] #[], .int .i64 (-128), .int .i64 127, .func (.func 43) #[] #[],
  .func (.func 44) #[] #[], .int .i64 (-32768), .int .i64 65535, .func (.func 45) #[] #[],
  .func (.func 44) #[] #[], .int .i64 0, .int .i64 65535, .func (.func 46) #[] #[],
  .func (.func 47) #[] #[], .int .i64 0, .int .i64 0, .func (.func 37) #[] #[],
  .func (.func 48) #[] #[], .int .i64 0, .int .i64 0, .func (.func 37) #[] #[],
  .func (.func 44) #[] #[], .int .i64 (-128), .int .i64 127, .func (.func 49) #[] #[]]
theorem wpList_build {P : Program} {ops : Array Oper} {Q : Exit → Act → World → Prop} {o : Oper} {l : List Oper} {a : Act} {w : World} (t : TypeId) (parts : Array (Nat × Operand)) (ho : o.op = .build t parts) (hg : o.guard = none) (cells : Array Value)
    (hc : P.built t (parts.map fun (i, x) => (i, a.eval x)).toList = some cells) (h : wpList P ops Q l (a.put o.dst (.agg cells)) w) : wpList P ops Q (o :: l) a w := by
  simp only [wpList]
  rw [if_pos (by simp [Region.wanted, hg])]
  left
  exact wp_build t parts ho (by rw [hc]; rfl) (by rw [hc]; exact h)
theorem kindsA_size : kindsA.size = 44 := rfl
set_option maxRecDepth 100000 in
set_option maxHeartbeats 1000000 in
theorem kinds_any (w : World) :
    Calls Tryd.prog 33 #[] w fun e w' => e = .returned (.agg kindsA) ∧ w.alloc (.cells kindsA 65) = w' := by
  have hst : ∀ c : Array Value, c.size = 44 → (storeCells ⟨w.heap.size, 0, none⟩ kindsA.toList 0).run Tryd.prog (w.alloc (.cells c 65)) = .ok () (w.alloc (.cells kindsA 65)) := fun c hc =>
    run_storeCells_new w 65 c kindsA (by kernel_rfl) (by rw [hc, kindsA_size]) (by kernel_rfl)
  have hld : (loadVar 65 ⟨w.heap.size, 0, none⟩).run Tryd.prog (w.alloc (.cells kindsA 65)) = .ok (.agg kindsA) (w.alloc (.cells kindsA 65)) :=
    run_loadVar_new w 65 kindsA 11 54 (by kernel_rfl) (by kernel_rfl)
  have hks := kindsA_size
  go_enter Tryd.func33, Tryd.ntmps33
  go_wp2_with (with_reducible refine wpList_build (o := ⟨some 11, _, _, _, _, _⟩) _ _ rfl rfl kindsA (by kernel_rfl) ?_)
  refine bodyPost_ret (v := .agg kindsA) ?_ rfl ⟨rfl, rfl⟩
  simp [results, Tryd.results33, asAddr, hld]
end Go.Proofs.YtbmgfkbgfgknbaaDoor
