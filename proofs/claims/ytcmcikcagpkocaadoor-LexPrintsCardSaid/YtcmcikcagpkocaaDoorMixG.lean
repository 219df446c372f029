/-
  Steps of a mixed region behind guards. No program of its own.
-/
import Derived.Test.YtcmcikcagpkocaaDoorMixed
namespace Go.Mixed
open Go
theorem execOp_bare (ρ : Operand → Value) (o : Oper) : execOp ρ { o with guard := none } = execOp ρ o := by unfold execOp; rfl
/-- A loud operation behind a guard that lets it come up. -/
theorem wpMix_loudG {P : Program} {ops : Array Oper} {C : World → Prop} {T : Act → World → Prop} {k : Nat} {r : List (Nat × Bool)} {a : Act} {w : World} {o : Oper} (ho : ops[k]? = some o) (hw : Region.wanted o (yielded ops a.tmps) = true)
    (h : wpList P ops (QK fun a' w' => C w' ∧ wpMix P ops C T r a' w') [{ o with guard := none }] a w) : wpMix P ops C T ((k, false) :: r) a w := by
  simp only [wpMix]
  unfold wpOp
  simp only [ho, hw, if_true]
  simp only [wpList] at h
  rw [if_pos (by simp [Region.wanted])] at h
  rcases h with h | h
  · refine .inl ?_
    unfold Oper.wp at h ⊢
    rw [execOp_bare] at h
    have h2 := upon_QK h
    generalize (execOp a.eval o).run P w = rs at h2 ⊢
    cases rs with
    | ok x w' => cases x <;> exact h2
    | halt x w' => cases x <;> exact h2
  · exact absurd h.2 (not_letsOut_QK _)
/-- An operation that its guard does not want. -/
theorem wpMix_skip {P : Program} {ops : Array Oper} {C : World → Prop} {T : Act → World → Prop} {k : Nat} {r : List (Nat × Bool)} {a : Act} {w : World} {o : Oper} (ho : ops[k]? = some o) (hw : Region.wanted o (yielded ops a.tmps) = false)
    (h : wpMix P ops C T r (a.put o.dst undef) w) : wpMix P ops C T ((k, true) :: r) a w := by
  simp only [wpMix, ho]
  exact ⟨undef, .inr ⟨hw, rfl⟩, h⟩
theorem wpMix_skipL {P : Program} {ops : Array Oper} {C : World → Prop} {T : Act → World → Prop} {k : Nat} {r : List (Nat × Bool)} {a : Act} {w : World} {o : Oper} (ho : ops[k]? = some o) (hw : Region.wanted o (yielded ops a.tmps) = false)
    (hC : C w) (h : wpMix P ops C T r (a.put o.dst undef) w) : wpMix P ops C T ((k, false) :: r) a w := by
  simp only [wpMix]
  unfold wpOp
  simp only [ho, hw, Bool.false_eq_true, if_false]
  exact ⟨hC, h⟩
end Go.Mixed
