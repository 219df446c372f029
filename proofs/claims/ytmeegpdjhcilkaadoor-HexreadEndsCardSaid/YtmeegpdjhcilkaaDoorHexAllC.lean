/-
  HexX, HexY: texts joined to one.
-/
import Derived.Test.YtmeegpdjhcilkaaDoorHexAllB
import Derived.Test.YtmeegpdjhcilkaaDoorHexAllA
/-
  The walks over hexwrite.row and rows, and the contract of the function that rows returns.
-/
namespace Go.Proofs.YtmeegpdjhcilkaaDoor
open Go.RowKit Go.Shelf
set_option linter.unusedVariables false
attribute [local go_sem] Oper.semAt_some

end Go.Proofs.YtmeegpdjhcilkaaDoor
/-
  The contract of the function that hexwrite.rows returns: it passes on the rows of a run.
-/
namespace Go.Proofs.YtmeegpdjhcilkaaDoor
open Go.RowKit Go.Shelf
set_option linter.unusedVariables false
attribute [local go_sem] Oper.semAt_some

theorem BytesT.take {w : World} {A : Option Addr} {xs : List UInt8} (h : BytesT w A xs) (n : Nat) : BytesT w A (xs.take n) := by
  rcases h with rfl | ⟨b, off, cs, h1, h2, h3⟩
  · left; simp
  · refine .inr ⟨b, off, cs, h1, h2, fun j hj => ?_⟩
    have hj' : j < xs.length := by simp at hj; omega
    rw [List.getElem_take]
    exact h3 j hj'
theorem BytesT.sub {w : World} {A : Option Addr} {xs : List UInt8} (h : BytesT w A xs) (l m : Nat) (hm : xs.length ≤ m) : BytesT w (subA A l m) (xs.drop l) := by
  by_cases h0 : xs.length ≤ l
  · left; exact List.drop_eq_nil_of_le h0
  · rcases h with rfl | ⟨b, off, cs, rfl, h2, h3⟩
    · simp at h0
    · right
      unfold subA
      rw [if_neg (by omega)]
      refine ⟨b, off + l, cs, ?_, h2, fun j hj => ?_⟩
      · simp only [Option.map_some, Option.some.injEq]
        unfold Addr.add
        split
        · rename_i h; have : l = 0 := by omega
          subst this; rfl
        · simp
      · have hj' : l + j < xs.length := by simp at hj; omega
        have h := h3 (l + j) hj'
        rw [show off + l + j = off + (l + j) by omega, List.getElem_drop]
        exact h
def rwV (x : R) : Array Value := #[.int .i64 x.addr, .slice x.A x.data.length x.cap]
def rwK (x : R) : Int × List UInt8 := (x.addr, x.data)
def rwE (x : R) (W : World) : Prop := BytesP (fun i => i < W.heap.size) W x.A x.data ∧ x.data.length ≤ 16
theorem rows_step (a : Nat) (xs : List UInt8) (off n : Nat) (hn : 0 < n) (ho : off + n ≤ xs.length) (hin : (a + off) % 16 + n ≤ 16) (hoff : off = 0 ∨ (a + off) % 16 = 0) :
    rowsC (Im.mkW a (xs.take (off + n))) = rowsC (Im.mkW a (xs.take off)) ++ [(a + off, (xs.drop off).take n)] := by
  rw [List.take_add, Im.mkW_append]
  have e : (xs.take off).length = off := by rw [List.length_take]; omega
  rw [e]
  have hlen : ((xs.drop off).take n).length = n := by rw [List.length_take, List.length_drop]; omega
  refine rows_mk _ _ _ (fun h => by rw [h] at hlen; simp at hlen; omega) (by rw [hlen]; exact hin) ?_
  rcases Im.snoc_cases (Im.mkW a (xs.take off)) with h | ⟨V, c, h⟩
  · exact .inl h
  · rcases hoff with h0 | h0
    · rw [h0] at h; simp [Im.mkW] at h
    · exact .inr ⟨V, c, h, .inr h0⟩
theorem pairN_length (l : List Im.Rn) : (Im.pairN l).length = l.length := by unfold Im.pairN; simp
end Go.Proofs.YtmeegpdjhcilkaaDoor
