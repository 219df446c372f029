/-
  What the lines of a text are read back to, and what Put makes of them. No program.
-/
import Derived.Test.YtmeegpdjhcilkaaDoorHexAllD
namespace Go.Proofs.YtmeegpdjhcilkaaDoor
open Go.RowKit
set_option linter.unusedVariables false
theorem line_par (p : Int × List UInt8) (h : rightB 0 p.1 p.2.length = true) : parCode (strOf (lineB p)) = 0 ∧ parT (strOf (lineB p)) = 0 ∧ parA (strOf (lineB p)) = p.1 ∧ parD (strOf (lineB p)) = p.2 := by
  have h2 := par_line 0 p.1 p.2 h _ (digits_hex _)
  rw [← print_line] at h2
  exact h2
theorem put_end {W : List Im.Cel} {a : Nat} {xs : List UInt8} (hs : Im.SortedW (W ++ Im.mkW a xs)) (hx : xs ≠ []) :
    Im.codeW W (a : Int) xs = 0 ∧ Im.putW W (a : Int) xs = W ++ Im.mkW a xs ∧ ∀ c ∈ W, c.1 < a := by
  have hlen : 0 < xs.length := List.length_pos_iff.2 hx
  have hp := List.pairwise_append.1 hs.1
  have mem : ∀ j, j < xs.length → (a + j, xs.getD j 0) ∈ Im.mkW a xs := fun j hj => Im.mkW_mem.2 ⟨by simp, by simp; omega, by simp⟩
  have hlo : ∀ c ∈ W, c.1 < a := fun c hc => hp.2.2 c hc _ (mem 0 hlen)
  have hhi : a + xs.length ≤ 65536 := by
    have h : a + (xs.length - 1) < 65536 := hs.2 _ (List.mem_append_right W (mem (xs.length - 1) (by omega)))
    omega
  have hc : Im.codeW W (a : Int) xs = 0 := Im.code_iff.2 ⟨⟨by omega, by omega, by simp; omega⟩, fun c hc hh => by have := hlo c hc; have := hh.1; simp at this; omega⟩
  refine ⟨hc, ?_, hlo⟩
  unfold Im.putW
  rw [if_pos hc]
  have hsW : Im.SortedW W := ⟨hp.1, fun c hc => hs.2 c (List.mem_append_left _ hc)⟩
  obtain ⟨_, _, z3, z4⟩ := Im.code_zero hc
  refine Im.sorted_ext (Im.insW_sorted hsW z3 z4).1 hs.1 fun c => ?_
  rw [Im.mem_insW, List.mem_append]
  exact Iff.rfl
/-- The address before record k; -1 before the first. -/
def lastA (l : List (Int × List UInt8)) (k : Nat) : Int := if k = 0 then -1 else (l.getD (k - 1) (0, [])).1
theorem rec_step {V : List Im.Cel} (hV : Im.SortedW V) (k : Nat) (h : k < (recsW 16 V).length) :
    Im.codeW (cellsL ((recsW 16 V).take k)) (recsW 16 V)[k].1 (recsW 16 V)[k].2 = 0 ∧
    Im.putW (cellsL ((recsW 16 V).take k)) (recsW 16 V)[k].1 (recsW 16 V)[k].2 = cellsL ((recsW 16 V).take (k + 1)) ∧
    lastA (recsW 16 V) k < (recsW 16 V)[k].1 ∧ lastA (recsW 16 V) (k + 1) = (recsW 16 V)[k].1 := by
  have hok := recs_ok (s := 16) (by omega) (by omega) hV
  have hcr := cells_recs (s := 16) (by omega) (by omega) hV
  obtain ⟨l, hl⟩ : ∃ l, recsW 16 V = l := ⟨_, rfl⟩
  simp only [hl] at h hok hcr ⊢
  obtain ⟨a0, a1, a2, a3⟩ := hok _ (List.getElem_mem h)
  obtain ⟨a, ha⟩ : ∃ a : Nat, l[k].1 = (a : Int) := ⟨l[k].1.toNat, by omega⟩
  have e1 : cellsL (l.take (k + 1)) = cellsL (l.take k) ++ Im.mkW a l[k].2 := by
    rw [List.take_succ_eq_append_getElem h, cellsL_append, cellsL_one, ha]; rfl
  have e2 : V = (cellsL (l.take k) ++ Im.mkW a l[k].2) ++ cellsL (l.drop (k + 1)) := by
    rw [← e1, ← cellsL_append, List.take_append_drop, hcr]
  have hs : Im.SortedW (cellsL (l.take k) ++ Im.mkW a l[k].2) := by
    rw [e2] at hV
    exact ⟨(List.pairwise_append.1 hV.1).1, fun c hc => hV.2 c (List.mem_append_left _ hc)⟩
  obtain ⟨p1, p2, p3⟩ := put_end hs a2
  rw [ha]
  refine ⟨p1, p2.trans e1.symm, ?_, ?_⟩
  · unfold lastA
    by_cases hk : k = 0
    · rw [if_pos hk]; omega
    · rw [if_neg hk]
      obtain ⟨j, rfl⟩ : ∃ j, k = j + 1 := ⟨k - 1, by omega⟩
      have hj : j < l.length := by omega
      obtain ⟨b0, b1, b2, b3⟩ := hok _ (List.getElem_mem hj)
      have hlen : 0 < l[j].2.length := List.length_pos_iff.2 b2
      have hm : (l[j].1.toNat, l[j].2.getD 0 0) ∈ cellsL (l.take (j + 1)) := by
        rw [List.take_succ_eq_append_getElem hj, cellsL_append, cellsL_one]
        exact List.mem_append_right _ (Im.mkW_mem.2 ⟨Nat.le_refl _, by simp; omega, by simp⟩)
      have h3 : l[j].1.toNat < a := p3 _ hm
      have e : l.getD (j + 1 - 1) (0, []) = l[j] := by simp [List.getD_eq_getElem?_getD, List.getElem?_eq_getElem hj]
      rw [e]
      omega
  · unfold lastA
    rw [if_neg (by omega), ← ha]
    simp [List.getD_eq_getElem?_getD, List.getElem?_eq_getElem h]
theorem line_len {V : List Im.Cel} (hV : Im.SortedW V) (k : Nat) (h : k < (recsW 16 V).length) : (strOf (lineB (recsW 16 V)[k])).size ≤ 43 := by
  obtain ⟨a0, a1, a2, a3⟩ := recs_ok (s := 16) (by omega) (by omega) hV _ (List.getElem_mem h)
  rw [strOf_size]
  unfold lineB
  rw [print_length]
  omega
theorem end_line : strOf (printL 1 0 []) = ⟨#[58, 48, 48, 48, 48, 48, 48, 48, 49, 70, 70]⟩ := by decide +kernel
/-- The pieces of the text. -/
theorem text_size {V : List Im.Cel} (hV : Im.SortedW V) : (textW 16 V).length ≤ 40000000 := by
  have hr := recs_length (s := 16) (by omega) (by omega) hV
  have hl := Im.sorted_length hV
  have hok := recs_ok (s := 16) (by omega) (by omega) hV
  have h : ∀ l : List (Int × List UInt8), (∀ p ∈ l, p.2.length ≤ 16) → (joinL (l.map lineB ++ [printL 1 0 []])).length ≤ 44 * l.length + 12 := fun l => by
    induction l with
    | nil => intro _; simp [joinL, print_length]
    | cons p l ih =>
      intro hp
      have h1 := ih fun q hq => hp q (by simp [hq])
      have h2 := hp p (by simp)
      rw [List.map_cons, List.cons_append, joinL_cons, List.length_append, List.length_cons]
      have h3 : (lineB p).length = 2 * p.2.length + 11 := print_length _ _ _
      rw [List.length_cons]
      omega
  have := h (recsW 16 V) fun p hp => (hok p hp).2.2.2
  unfold textW linesW
  omega
end Go.Proofs.YtmeegpdjhcilkaaDoor
