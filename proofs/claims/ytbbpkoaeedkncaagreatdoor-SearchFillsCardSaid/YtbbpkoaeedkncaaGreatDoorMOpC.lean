/-
  The walk over operand.kinds.
-/
import Derived.Test.YtbbpkoaeedkncaaGreatDoorGAB
import Derived.Laws.Tables
import Derived.Deep.WholeRow
set_option linter.all false
set_option maxRecDepth 100000
set_option maxHeartbeats 4000000
namespace Go.Proofs.YtbbpkoaeedkncaaGreatDoor
open Go.RowKit
def kindsA : Array Value := #[.nilFunc, .int .i64 0, .int .i64 0, .nilFunc,
  .func (.func 146) #[] #[], .int .i64 0, .int .i64 0, .func (.func 147) #[] #[],
  .func (.func 148) #[] #[], .int .i64 0, .int .i64 0, .func (.func 147) #[] #[],
  .func (.func 149) #[] #[], .int .i64 0, .int .i64 0, .func (.func 147) #[] #[],
  .func (.func 150) #[] #[], .int .i64 0, .int .i64 0, .func (.func 151) #[] #[],
  .func (.func 152) #[] #[], .int .i64 (-128), .int .i64 127, .func (.func 153) #[] #[],
  .func (.func 154) #[] #[], .int .i64 (-32768), .int .i64 65535, .func (.func 155) #[] #[],
  .func (.func 154) #[] #[], .int .i64 0, .int .i64 65535, .func (.func 156) #[] #[],
  .func (.func 157) #[] #[], .int .i64 0, .int .i64 0, .func (.func 147) #[] #[],
  .func (.func 158) #[] #[], .int .i64 0, .int .i64 0, .func (.func 147) #[] #[],
  .func (.func 154) #[] #[], .int .i64 (-128), .int .i64 127, .func (.func 159) #[] #[]]
theorem wpList_build {P : Program} {ops : Array Oper} {Q : Exit → Act → World → Prop} {o : Oper} {l : List Oper} {a : Act} {w : World} (t : TypeId) (parts : Array (Nat × Operand)) (ho : o.op = .build t parts) (hg : o.guard = none) (cells : Array Value)
    (hc : P.built t (parts.map fun (i, x) => (i, a.eval x)).toList = some cells) (h : wpList P ops Q l (a.put o.dst (.agg cells)) w) : wpList P ops Q (o :: l) a w := by
  simp only [wpList]
  rw [if_pos (by simp [Region.wanted, hg])]
  left
  exact wp_build t parts ho (by rw [hc]; rfl) (by rw [hc]; exact h)
theorem kindsA_size : kindsA.size = 44 := rfl
theorem kinds_any (w : World) :
    Calls Tryz.prog 132 #[] w fun e w' => e = .returned (.agg kindsA) ∧ w.alloc (.cells kindsA 184) = w' := by
  have hst : ∀ c : Array Value, c.size = 44 → (storeCells ⟨w.heap.size, 0, none⟩ kindsA.toList 0).run Tryz.prog (w.alloc (.cells c 184)) = .ok () (w.alloc (.cells kindsA 184)) := fun c hc =>
    run_storeCells_new w 184 c kindsA (by kernel_rfl) (by rw [hc, kindsA_size]) (by kernel_rfl)
  have hld : (loadVar 184 ⟨w.heap.size, 0, none⟩).run Tryz.prog (w.alloc (.cells kindsA 184)) = .ok (.agg kindsA) (w.alloc (.cells kindsA 184)) :=
    run_loadVar_new w 184 kindsA 11 157 (by kernel_rfl) (by kernel_rfl)
  have hks := kindsA_size
  go_enter Tryz.func132, Tryz.ntmps132
  go_wp2_with (with_reducible refine wpList_build (o := ⟨some 11, _, _, _, _, _⟩) _ _ rfl rfl kindsA (by kernel_rfl) ?_)
  refine bodyPost_ret (v := .agg kindsA) ?_ rfl ⟨rfl, rfl⟩
  simp [results, Tryz.results132, asAddr, hld]
end Go.Proofs.YtbbpkoaeedkncaaGreatDoor
