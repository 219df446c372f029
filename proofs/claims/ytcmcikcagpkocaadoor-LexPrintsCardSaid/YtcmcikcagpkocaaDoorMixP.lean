/-
  Short forms of the steps in a mixed region (laws over any program).
-/
import Derived.Test.YtcmcikcagpkocaaDoorMixG
namespace Go.Mixed
open Go
set_option linter.unusedVariables false
section
variable {P : Program} {ops : Array Oper}
theorem mp {C : World → Prop} {T : Act → World → Prop} {k : Nat} {r : List (Nat × Bool)} {a : Act} {w : World} {o : Oper} (ho : ops[k]? = some o) (v : Value)
    (h : wpMix P ops C T r (a.put o.dst v) w) (hw : Region.wanted o (yielded ops a.tmps) = true := by kernel_rfl)
    (hv : ∀ w, C w → (execOp a.eval o).run P w = .ok (.value v) w := by intro w h; first | (clear h; go_simp; done) | (clear h; go_simp; rfl) | (go_simp; done) | (go_simp; rfl)) : wpMix P ops C T ((k, true) :: r) a w := wpMix_pure ho hw v hv h
theorem mo {C : World → Prop} {T : Act → World → Prop} {k : Nat} {r : List (Nat × Bool)} {a : Act} {w : World} {o : Oper} (ho : ops[k]? = some o) (v : Value)
    (hv : ∀ w, C w → (execOp a.eval o).run P w = .ok (.value v) w) (h : wpMix P ops C T r (a.put o.dst v) w) (hw : Region.wanted o (yielded ops a.tmps) = true := by kernel_rfl) : wpMix P ops C T ((k, true) :: r) a w := wpMix_pure ho hw v hv h
theorem ms {C : World → Prop} {T : Act → World → Prop} {k : Nat} {r : List (Nat × Bool)} {a : Act} {w : World} {o : Oper} (ho : ops[k]? = some o)
    (h : wpMix P ops C T r (a.put o.dst undef) w) (hw : Region.wanted o (yielded ops a.tmps) = false := by kernel_rfl) : wpMix P ops C T ((k, true) :: r) a w := wpMix_skip ho hw h
end
end Go.Mixed
