
import Derived.Test.YtmeegpdjhcilkaaDoorRdEr
import Derived.Test.YtmeegpdjhcilkaaDoorRdN
import Derived.Test.YtmeegpdjhcilkaaDoorRdE
namespace Go.Proofs.YtmeegpdjhcilkaaDoor
open Go.RowKit
set_option linter.unusedVariables false
theorem mem_joinC {l : List (List UInt8)} {y : List UInt8} (hy : y ∈ l) {c : UInt8} (hc : c ∈ y) : c ∈ joinL l := by
  induction l with
  | nil => cases hy
  | cons a t ih =>
    rw [joinL_cons]
    rcases List.mem_cons.1 hy with rfl | h
    · exact List.mem_append_left _ hc
    · exact List.mem_append_right _ (List.mem_cons_of_mem _ (ih h))
theorem trimC_no13 {y : List UInt8} (h : ∀ c ∈ y, c ≠ 13) : trimC y = y := by
  unfold trimC
  rw [if_neg]
  intro e
  exact h 13 (List.mem_of_getLast? e) rfl
theorem end_bytes : printL 1 0 [] ++ [10] = [58, 48, 48, 48, 48, 48, 48, 48, 49, 70, 70, 10] := by decide +kernel
theorem text_split (V : List Im.Cel) : textW 16 V = joinL ((recsW 16 V).map lineB) ++ [58, 48, 48, 48, 48, 48, 48, 48, 49, 70, 70, 10] := by
  unfold textW linesW
  rw [joinL_append, joinL_one, end_bytes]
theorem text_tight {V : List Im.Cel} (hV : Im.SortedW V) : (textW 16 V).length ≤ 39500000 := by
  have h3 := join_bound _ 600 (lines_le (s := 16) (by omega) (by omega) hV)
  rw [lines_length] at h3
  have h4 := recs_length (s := 16) (by omega) (by omega) hV
  have h5 := Im.sorted_length hV
  unfold textW
  omega
theorem blank_of (l : List UInt8) : l.all (([32, 9] : List UInt8).contains ·) = blankL l := by
  unfold blankL
  congr 1
  funext c
  simp [List.contains, List.elem]
  cases h1 : c == 32 <;> cases h2 : c == 9 <;> simp_all
theorem lines_blank {x : List UInt8} (h : x.all (([32, 9, 10] : List UInt8).contains ·) = true) : ∀ y ∈ linesOf x, lnBlank y = true := by
  obtain ⟨L, u, h1, h2, h3, h4⟩ := lines_last x
  have hm : ∀ y ∈ linesOf x, ∀ c ∈ y, c ∈ x ∧ c ≠ 10 := by
    intro y hy c hc
    rw [h1] at hy
    rw [h2]
    rcases List.mem_append.1 hy with hy | hy
    · exact ⟨List.mem_append_left _ (mem_joinC hy hc), h3 y hy c hc⟩
    · simp at hy; subst hy
      exact ⟨List.mem_append_right _ hc, h4 c hc⟩
  intro y hy
  have hb : ∀ c ∈ y, c = 32 ∨ c = 9 := fun c hc => by
    obtain ⟨g1, g2⟩ := hm y hy c hc
    have g3 := List.all_eq_true.1 h c g1
    simp at g3
    rcases g3 with g | g | g
    · exact .inl g
    · exact .inr g
    · exact absurd g g2
  have ht : trimC y = y := trimC_no13 fun c hc => by rcases hb c hc with rfl | rfl <;> decide
  unfold lnBlank
  rw [ht]
  unfold blankL
  exact List.all_eq_true.2 fun c hc => by rcases hb c hc with rfl | rfl <;> decide

theorem line_sub {x y : List UInt8} (hy : y ∈ linesOf x) {c : UInt8} (hc : c ∈ y) : c ∈ x := by
  obtain ⟨L, u, h1, h2, h3, h4⟩ := lines_last x
  rw [h1] at hy
  rw [h2]
  rcases List.mem_append.1 hy with hy | hy
  · exact List.mem_append_left _ (mem_joinC hy hc)
  · simp at hy; subst hy
    exact List.mem_append_right _ hc
end Go.Proofs.YtmeegpdjhcilkaaDoor
