/-
  A draft in memory: a box with a mnemonic and a slice of operands of the call's own.
-/
import Derived.Test.YtbmgfkbgfgknbaaCnW
namespace Go.Proofs.Ytbmgfkbgfgknbaa
open Go.RowKit
set_option linter.unusedVariables false

/-- The block of a draft. -/
def Dr (w : World) (b : Nat) (s : ByteArray) (v : Value) : Prop := w.heap[b]? = some (.cells #[.string s, v] 38 (0, 0))
theorem Dr.cells {w : World} {b : Nat} {s : ByteArray} {v : Value} (h : Dr w b s v) : w.cell? ⟨b, 0, none⟩ = some (.string s) ∧ w.cell? ⟨b, 1, none⟩ = some v ∧ w.frozen? ⟨b, 0, none⟩ = false ∧ w.frozen? ⟨b, 1, none⟩ = false :=
  ⟨by rw [Lib.cell_of_heap h]; rfl, by rw [Lib.cell_of_heap h]; rfl, Lib.frozen_of_heap h 0, Lib.frozen_of_heap h 1⟩
theorem Dr.lt {w : World} {b : Nat} {s : ByteArray} {v : Value} (h : Dr w b s v) : b < w.heap.size := (Array.getElem?_eq_some_iff.1 h).1
theorem Dr.below {w w' : World} {b : Nat} {s : ByteArray} {v : Value} (h : Dr w b s v) (hb : Below w.heap.size w w') : Dr w' b s v := (hb.block _ h.lt).trans h
theorem Dr.put {w : World} {b : Nat} {s : ByteArray} {v : Value} (h : Dr w b s v) (u : Value) : Dr (w.setCell ⟨b, 1, none⟩ u) b s u := by
  have h1 := heap_setCell_same w b 1 _ _ u h
  exact h1
theorem Dr.other {w : World} {b g : Nat} {s : ByteArray} {v : Value} (h : Dr w b s v) (hg : g ≠ b) (j : Nat) (u : Value) : Dr (w.setCell ⟨g, j, none⟩ u) b s v := (heap_setCell_other w ⟨g, j, none⟩ b u hg.symm).trans h
/-- A block of operands that the call owns, from block n on; they begin at cell 'off'. -/
def RowS (w : World) (n g off : Nat) (L : List Tr) : Prop := n ≤ g ∧ ∃ cur, w.heap[g]? = some (.cells cur 33 (0, 0)) ∧ ∀ j u, (cellsT L)[j]? = some u → cur[off + j]? = some u
def OwnS (w : World) (n : Nat) (v : Value) (L : List Tr) : Prop :=
  (v = .slice none 0 0 ∧ L = []) ∨ ∃ g off cap, v = .slice (some ⟨g, off, none⟩) L.length cap ∧ L.length ≤ cap ∧ cap ≤ maxLen ∧ RowS w n g off L
theorem RowS.apart {w : World} {n g off b : Nat} {L : List Tr} {s : ByteArray} {v : Value} (h : RowS w n g off L) (hd : Dr w b s v) : g ≠ b := by
  rintro rfl
  obtain ⟨-, cur, hc, -⟩ := h
  rw [show w.heap[g]? = _ from hd] at hc
  simp at hc
theorem RowS.lt {w : World} {n g off : Nat} {L : List Tr} (h : RowS w n g off L) : g < w.heap.size := by
  obtain ⟨-, cur, hc, -⟩ := h
  exact (Array.getElem?_eq_some_iff.1 hc).1
theorem RowS.below {w w' : World} {n g off : Nat} {L : List Tr} (h : RowS w n g off L) (hb : Below w.heap.size w w') : RowS w' n g off L := by
  have hl := h.lt
  obtain ⟨h1, cur, hc, h2⟩ := h
  exact ⟨h1, cur, (hb.block _ hl).trans hc, h2⟩
theorem RowS.cellAt {w : World} {n g off : Nat} {L : List Tr} (h : RowS w n g off L) (j : Nat) (u : Value) (e : (cellsT L)[j]? = some u) : w.cell? ⟨g, off + j, none⟩ = some u := by
  obtain ⟨-, cur, hc, h2⟩ := h
  rw [Lib.cell_of_heap hc]
  exact h2 j u e
theorem RowS.frozen {w : World} {n g off : Nat} {L : List Tr} (h : RowS w n g off L) (j : Nat) : w.frozen? ⟨g, j, none⟩ = false := by
  obtain ⟨-, cur, hc, -⟩ := h
  exact Lib.frozen_of_heap hc j
theorem RowS.at_ {w : World} {n g off : Nat} {L : List Tr} (h : RowS w n g off L) (j : Nat) (hj : j < L.length) : w.cell? ⟨g, off + j * 3, none⟩ = some (.int .i64 L[j].1) ∧ w.cell? ⟨g, off + j * 3 + 1, none⟩ = some (.int .i64 L[j].2.1) ∧ w.cell? ⟨g, off + j * 3 + 2, none⟩ = some (.int .i64 L[j].2.2) := by
  obtain ⟨h1, h2, h3⟩ := cellsT_at L j hj
  exact ⟨h.cellAt _ _ h1, by rw [Nat.add_assoc]; exact h.cellAt _ _ h2, by rw [Nat.add_assoc]; exact h.cellAt _ _ h3⟩
theorem RowS.put {w : World} {n g off : Nat} {L L' : List Tr} (h : RowS w n g off L) (j : Nat) (u : Value) (e : (cellsT L).set j u = cellsT L') : RowS (w.setCell ⟨g, off + j, none⟩ u) n g off L' := by
  obtain ⟨h1, cur, hc, h2⟩ := h
  refine ⟨h1, _, heap_setCell_same w g (off + j) _ _ u hc, fun k x hk => ?_⟩
  rw [← e, List.getElem?_set] at hk
  by_cases hjk : j = k
  · subst hjk
    rw [if_pos rfl] at hk
    have hlen : off + j < cur.size := by
      by_cases hj : j < (cellsT L).length
      · have := h2 j _ (List.getElem?_eq_getElem hj)
        exact (Array.getElem?_eq_some_iff.1 this).1
      · rw [if_neg hj] at hk; cases hk
    split at hk
    · simp only [Option.some.injEq] at hk
      subst hk
      simp [Array.getElem?_setIfInBounds, hlen]
    · cases hk
  · rw [if_neg hjk] at hk
    rw [Array.getElem?_setIfInBounds, if_neg (by omega)]
    exact h2 k x hk
theorem OwnS.below {w w' : World} {n : Nat} {v : Value} {L : List Tr} (h : OwnS w n v L) (hb : Below w.heap.size w w') : OwnS w' n v L := by
  rcases h with h | ⟨g, off, cap, h1, h2, h3, h4⟩
  · exact .inl h
  · exact .inr ⟨g, off, cap, h1, h2, h3, h4.below hb⟩
theorem OwnS.other {w : World} {n b : Nat} {v u : Value} {L : List Tr} {s : ByteArray} {x : Value} (h : OwnS w n v L) (hd : Dr w b s x) (j : Nat) : OwnS (w.setCell ⟨b, j, none⟩ u) n v L := by
  rcases h with h | ⟨g, off, cap, h1, h2, h3, h4⟩
  · exact .inl h
  · have hg := h4.apart hd
    obtain ⟨h5, cur, hc, h6⟩ := h4
    exact .inr ⟨g, off, cap, h1, h2, h3, h5, cur, (heap_setCell_other w ⟨b, j, none⟩ g u hg).trans hc, h6⟩
theorem OwnS.ops {w : World} {n : Nat} {v : Value} {L : List Tr} (h : OwnS w n v L) : ∃ A cap, v = .slice A L.length cap ∧ OpsP w A L ∧ L.length ≤ cap ∧ cap ≤ maxLen := by
  rcases h with ⟨rfl, rfl⟩ | ⟨g, off, cap, rfl, h2, h3, h4⟩
  · exact ⟨none, 0, rfl, .inl rfl, Nat.le_refl _, by unfold maxLen; omega⟩
  · exact ⟨_, cap, rfl, .inr ⟨g, off, rfl, fun j hj => h4.at_ j hj⟩, h2, h3⟩
theorem OwnT.own {w : World} {n : Nat} {v : Value} {L : List Tr} (h : OwnT w n v L) : OwnS w n v L := by
  obtain ⟨hl, h | ⟨g, cap, cur, rfl, h1, h2, h3, h4, h5, h6⟩⟩ := h
  · exact .inl ⟨h.1, List.eq_nil_of_length_eq_zero h.2⟩
  · refine .inr ⟨g, 0, cap, rfl, h3, h4, h1, cur, h2, fun j u hj => ?_⟩
    rw [← h6, List.getElem?_take] at hj
    split at hj
    · rw [Nat.zero_add]; simpa using hj
    · cases hj
theorem OwnS.lift {w : World} {n m : Nat} {v : Value} {L : List Tr} (h : OwnS w n v L) (k : m ≤ n) : OwnS w m v L := by
  rcases h with h | ⟨g, off, cap, h1, h2, h3, h4, h5⟩
  · exact .inl h
  · exact .inr ⟨g, off, cap, h1, h2, h3, Nat.le_trans k h4, h5⟩
theorem OwnS.nonnil {w : World} {n : Nat} {v : Value} {L : List Tr} (h : OwnS w n v L) (h0 : 0 < L.length) : ∃ g off cap, v = .slice (some ⟨g, off, none⟩) L.length cap ∧ L.length ≤ cap ∧ cap ≤ maxLen ∧ RowS w n g off L := by
  rcases h with ⟨-, rfl⟩ | h
  · simp at h0
  · exact h
theorem OwnS.alloc {w : World} {n : Nat} {v : Value} {L : List Tr} (h : OwnS w n v L) (o : Obj) : OwnS (w.alloc o) n v L := h.below ((Below.refl _ _).alloc (Nat.le_refl _) _)
theorem Dr.alloc {w : World} {b : Nat} {s : ByteArray} {v : Value} (h : Dr w b s v) (o : Obj) : Dr (w.alloc o) b s v := h.below ((Below.refl _ _).alloc (Nat.le_refl _) _)
end Go.Proofs.Ytbmgfkbgfgknbaa
