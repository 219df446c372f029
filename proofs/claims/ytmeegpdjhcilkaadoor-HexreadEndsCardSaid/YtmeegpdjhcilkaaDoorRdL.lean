/-
  The lines of a text, a byte 13 at the end of a line, and blank lines. No program.
-/
import Derived.Test.YtmeegpdjhcilkaaDoorHexAllD
import Derived.Test.YtmeegpdjhcilkaaDoorRdB
namespace Go.Proofs.YtmeegpdjhcilkaaDoor
open Go.RowKit
set_option linter.unusedVariables false
/-- The parts of a text between its line feeds. -/
def linesOf : List UInt8 → List (List UInt8)
  | [] => [[]]
  | c :: t => if c = 10 then [] :: linesOf t else (match linesOf t with | [] => [[c]] | x :: r => (c :: x) :: r)
theorem linesOf_noLf {x : List UInt8} (h : NoLf x) : linesOf x = [x] := by
  induction x with
  | nil => rfl
  | cons c t ih =>
    have h1 : c ≠ 10 := h c (by simp)
    unfold linesOf
    rw [if_neg h1, ih fun d hd => h d (by simp [hd])]
theorem linesOf_cons {x : List UInt8} (h : NoLf x) (t : List UInt8) : linesOf (x ++ 10 :: t) = x :: linesOf t := by
  induction x with
  | nil => simp [linesOf]
  | cons c x ih =>
    have h1 : c ≠ 10 := h c (by simp)
    rw [List.cons_append]
    show (if c = 10 then _ else _) = _
    rw [if_neg h1, ih fun d hd => h d (by simp [hd])]
theorem linesOf_join {l : List (List UInt8)} (h : ∀ x ∈ l, NoLf x) (t : List UInt8) : linesOf (joinL l ++ t) = l ++ linesOf t := by
  induction l with
  | nil => simp [joinL]
  | cons x l ih =>
    rw [joinL_cons, List.append_assoc, List.cons_append, linesOf_cons (h x (by simp)), ih fun y hy => h y (by simp [hy])]
    rfl
theorem linesOf_ne (x : List UInt8) : linesOf x ≠ [] := by
  cases x with
  | nil => simp [linesOf]
  | cons c t =>
    unfold linesOf
    split
    · simp
    · split <;> simp
theorem linesOf_all (x : List UInt8) : ∀ y ∈ linesOf x, NoLf y := by
  induction x with
  | nil => intro y hy; simp [linesOf] at hy; subst hy; intro c hc; cases hc
  | cons c t ih =>
    intro y hy
    unfold linesOf at hy
    split at hy
    · rcases List.mem_cons.1 hy with rfl | hy
      · intro c hc; cases hc
      · exact ih y hy
    · rename_i hc
      split at hy
      · simp at hy; subst hy; intro d hd; simp at hd; subst hd; exact hc
      · rename_i x r he
        rcases List.mem_cons.1 hy with rfl | hy
        · intro d hd
          rcases List.mem_cons.1 hd with rfl | hd
          · exact hc
          · exact ih x (by rw [he]; simp) d hd
        · exact ih y (by rw [he]; simp [hy])
/-- All lines but the last, and the last one. -/
theorem lines_last (x : List UInt8) : ∃ l t, linesOf x = l ++ [t] ∧ x = joinL l ++ t ∧ (∀ y ∈ l, NoLf y) ∧ NoLf t := by
  induction x with
  | nil => exact ⟨[], [], rfl, rfl, fun y hy => (by cases hy), fun c hc => (by cases hc)⟩
  | cons c x ih =>
    obtain ⟨l, t, h1, h2, h3, h4⟩ := ih
    by_cases hc : c = 10
    · subst hc
      refine ⟨[] :: l, t, by simp [linesOf, h1], by rw [joinL_cons, h2]; rfl, fun y hy => ?_, h4⟩
      rcases List.mem_cons.1 hy with rfl | hy
      · intro c hc; cases hc
      · exact h3 y hy
    · cases l with
      | nil =>
        refine ⟨[], c :: t, ?_, by rw [h2]; rfl, fun y hy => (by cases hy), fun d hd => ?_⟩
        · unfold linesOf; rw [if_neg hc, h1]; rfl
        · rcases List.mem_cons.1 hd with rfl | hd
          · exact hc
          · exact h4 d hd
      | cons y l =>
        refine ⟨(c :: y) :: l, t, ?_, ?_, fun z hz => ?_, h4⟩
        · unfold linesOf; rw [if_neg hc, h1]; rfl
        · rw [h2, joinL_cons, joinL_cons]; rfl
        · rcases List.mem_cons.1 hz with rfl | hz
          · intro d hd
            rcases List.mem_cons.1 hd with rfl | hd
            · exact hc
            · exact h3 y (by simp) d hd
          · exact h3 z (by simp [hz])
theorem linesOf_count (x : List UInt8) : (linesOf x).length = x.count 10 + 1 := by
  obtain ⟨l, t, h1, h2, h3, h4⟩ := lines_last x
  rw [h1, h2, List.count_append, count_join h3, count_noLf h4]
  simp
theorem mem_join {l : List (List UInt8)} {y : List UInt8} (hy : y ∈ l) : y.length ≤ (joinL l).length := by
  induction l with
  | nil => cases hy
  | cons z l ih =>
    rw [joinL_cons, List.length_append, List.length_cons]
    rcases List.mem_cons.1 hy with rfl | hy
    · omega
    · have := ih hy; omega
theorem lines_len {x : List UInt8} : ∀ y ∈ linesOf x, y.length ≤ x.length := by
  intro y hy
  obtain ⟨l, t, h1, h2, h3, h4⟩ := lines_last x
  rw [h1] at hy
  rw [h2, List.length_append]
  rcases List.mem_append.1 hy with hy | hy
  · have := mem_join hy; omega
  · simp at hy; subst hy; omega
end Go.Proofs.YtmeegpdjhcilkaaDoor
