/-
  What is read from the lines of a text: the cells, the line and the code. No program.
-/
import Derived.Test.YtmeegpdjhcilkaaDoorRdL
import Derived.Test.YtmeegpdjhcilkaaDoorHexRp
namespace Go.Proofs.YtmeegpdjhcilkaaDoor
open Go.RowKit
set_option linter.unusedVariables false
/-- A line as it is parsed. -/
def lnS (x : List UInt8) : ByteArray := strOf (trimC x)
def lnBlank (x : List UInt8) : Bool := blankL (trimC x)
/-- What a record asks for, behind its line. -/
def recCode (V : List Im.Cel) (x : List UInt8) : Int :=
  if ¬ parCode (lnS x) = 0 then parCode (lnS x) else if parT (lnS x) = 0 then Im.codeW V (parA (lnS x)) (parD (lnS x)) else if parT (lnS x) = 1 then (if parD (lnS x) = [] then 0 else 6) else 7
def lnCode (V : List Im.Cel) (e : Bool) (x : List UInt8) : Int := if lnBlank x then 0 else if e then 9 else recCode V x
def lnV (V : List Im.Cel) (x : List UInt8) : List Im.Cel := if lnBlank x then V else if parT (lnS x) = 0 then Im.putW V (parA (lnS x)) (parD (lnS x)) else V
def lnE (e : Bool) (x : List UInt8) : Bool := if lnBlank x then e else decide (parT (lnS x) = 1)
def readL (n : Nat) (V : List Im.Cel) (e : Bool) : List (List UInt8) → List Im.Cel × Int × Int
  | [] => if e then (V, 0, 0) else ([], 0, 8)
  | x :: t => if lnCode V e x = 0 then readL (n + 1) (lnV V x) (lnE e x) t else ([], (n : Int) + 1, lnCode V e x)
theorem readL_go {n : Nat} {V : List Im.Cel} {e : Bool} {x : List UInt8} {t : List (List UInt8)} (h : lnCode V e x = 0) : readL n V e (x :: t) = readL (n + 1) (lnV V x) (lnE e x) t := by
  show (if _ then _ else _) = _
  rw [if_pos h]
theorem readL_stop {n : Nat} {V : List Im.Cel} {e : Bool} {x : List UInt8} {t : List (List UInt8)} (h : lnCode V e x ≠ 0) : readL n V e (x :: t) = ([], (n : Int) + 1, lnCode V e x) := by
  show (if _ then _ else _) = _
  rw [if_neg h]
/-- What Read returns for a text. -/
def readT (x : List UInt8) : List Im.Cel × Int × Int := readL 0 [] false (linesOf x)
theorem lnV_sorted {V : List Im.Cel} (h : Im.SortedW V) (x : List UInt8) : Im.SortedW (lnV V x) := by
  unfold lnV
  split
  · exact h
  split
  · unfold Im.putW
    split
    · rename_i hc
      obtain ⟨_, _, h2, h3⟩ := Im.code_zero hc
      exact Im.insW_sorted h h2 h3
    · exact h
  · exact h
theorem readL_sorted {n : Nat} {V : List Im.Cel} {e : Bool} {l : List (List UInt8)} (h : Im.SortedW V) : Im.SortedW (readL n V e l).1 := by
  induction l generalizing n V e with
  | nil =>
    unfold readL
    split
    · exact h
    · exact Im.sorted_nil
  | cons x t ih =>
    by_cases hc : lnCode V e x = 0
    · rw [readL_go hc]; exact ih (lnV_sorted h x)
    · rw [readL_stop hc]; exact Im.sorted_nil
theorem readT_sorted (x : List UInt8) : Im.SortedW (readT x).1 := readL_sorted Im.sorted_nil
theorem readL_bad {n : Nat} {V : List Im.Cel} {e : Bool} {l : List (List UInt8)} (h : (readL n V e l).2.2 ≠ 0) : (readL n V e l).1 = [] := by
  induction l generalizing n V e with
  | nil =>
    unfold readL at h ⊢
    cases e
    · rfl
    · exact absurd rfl h
  | cons x t ih =>
    by_cases hc : lnCode V e x = 0
    · rw [readL_go hc] at h ⊢; exact ih h
    · rw [readL_stop hc]
theorem readL_good {n : Nat} {V : List Im.Cel} {e : Bool} {l : List (List UInt8)} (h : (readL n V e l).2.2 = 0) : (readL n V e l).2.1 = 0 := by
  induction l generalizing n V e with
  | nil =>
    unfold readL at h ⊢
    cases e
    · simp at h
    · rfl
  | cons x t ih =>
    by_cases hc : lnCode V e x = 0
    · rw [readL_go hc] at h ⊢; exact ih h
    · rw [readL_stop hc] at h; exact absurd h hc
end Go.Proofs.YtmeegpdjhcilkaaDoor
