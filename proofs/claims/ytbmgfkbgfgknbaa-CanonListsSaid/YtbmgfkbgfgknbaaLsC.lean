/-
  What the second loop of the law over lists keeps.
-/
import Derived.Test.YtbmgfkbgfgknbaaLsB
import Derived.Test.YtbmgfkbgfgknbaaCnX
namespace Go.Proofs.Ytbmgfkbgfgknbaa
open Go.RowKit
set_option linter.unusedVariables false

theorem OwnS.apart {w : World} {n : Nat} {v : Value} {L : List Tr} (h : OwnS w n v L) (p : Addr) (hp : v.ownBlock ≠ some p.block) (u : Value) : OwnS (w.setCell p u) n v L := by
  rcases h with h | ⟨g, off, cap, rfl, h2, h3, h4, cur, hc, h6⟩
  · exact .inl h
  · exact .inr ⟨g, off, cap, rfl, h2, h3, h4, cur, (heap_setCell_other w p g u (fun e => hp (by rw [← e]; rfl))).trans hc, h6⟩
theorem RowE.apart {w : World} {rb n k : Nat} {R : List Ie} {vs : Nat → Value} (h : RowE w rb n R vs k) (p : Addr) (hp : p.block ≠ rb) (u : Value) : RowE (w.setCell p u) rb n R vs k := by
  obtain ⟨cur, hc, h1, h2⟩ := h
  exact ⟨cur, (heap_setCell_other w p rb u (fun e => hp e.symm)).trans hc, h1, h2⟩
/-- The canonical forms from number k on are as they were made; all that was there before them too. -/
def St2 (wq wr : World) (n : Nat) (R : List Ie) (vs : Nat → Value) (k : Nat) : Prop :=
  RowE wr wq.heap.size n R vs n ∧ (∀ j, k ≤ j → ∀ h : j < R.length, OwnS wr (wq.heap.size + 1) (vs j) (canE R[j])) ∧ Below wq.heap.size wq wr
theorem St2.below {wq wr w' : World} {n k : Nat} {R : List Ie} {vs : Nat → Value} (h : St2 wq wr n R vs k) (hb : Below wr.heap.size wr w') : St2 wq w' n R vs k :=
  ⟨h.1.below hb, fun j hj hl => (h.2.1 j hj hl).below hb, h.2.2.trans (hb.mono h.2.2.size)⟩
theorem St2.put {wq wr : World} {n k g : Nat} {R : List Ie} {vs : Nat → Value} (h : St2 wq wr n R vs (k + 1)) (hn : R.length = n) (hd : DisV vs n) (hk : k < n) (hg : (vs k).ownBlock = some g) (hgb : wq.heap.size + 1 ≤ g) (i : Nat) (u : Value) : St2 wq (wr.setCell ⟨g, i, none⟩ u) n R vs (k + 1) :=
  ⟨h.1.apart ⟨g, i, none⟩ (by simp; omega) u, fun j hj hl => (h.2.1 j hj hl).apart ⟨g, i, none⟩ (hd k j g (by omega) (by omega) hg) u, h.2.2.setCell (p := ⟨g, i, none⟩) (by simp; omega) u⟩
theorem St2.next {wq wr : World} {n k : Nat} {R : List Ie} {vs : Nat → Value} (h : St2 wq wr n R vs k) : St2 wq wr n R vs (k + 1) :=
  ⟨h.1, fun j hj hl => h.2.1 j (by omega) hl, h.2.2⟩
theorem St2.cells {wq wr : World} {n k : Nat} {R : List Ie} {vs : Nat → Value} (h : St2 wq wr n R vs k) (hn : R.length = n) (j : Nat) (hj : j < n) : wr.cell? ⟨wq.heap.size, j * 2, none⟩ = some (.string (R[j]'(by omega)).s) ∧ wr.cell? ⟨wq.heap.size, j * 2 + 1, none⟩ = some (vs j) := by
  obtain ⟨⟨cur, hc, h1, h2⟩, -, -⟩ := h
  obtain ⟨h3, h4⟩ := h2 j hj (by omega)
  exact ⟨by rw [Lib.cell_of_heap hc]; exact h3, by rw [Lib.cell_of_heap hc]; exact h4⟩
/-- The copy of the list: the same mnemonics and operands. -/
def Alike (R R' : List Ie) (k : Nat) : Prop := R'.length = k ∧ ∀ j (h : j < R.length) (h' : j < R'.length), R'[j].s = R[j].s ∧ R'[j].L = R[j].L
theorem Alike.more {R R' : List Ie} {k : Nat} (h : Alike R R' k) (hk : k < R.length) (r : Ie) (h1 : r.s = R[k].s) (h2 : r.L = R[k].L) : Alike R (R' ++ [r]) (k + 1) := by
  refine ⟨by rw [List.length_append, h.1]; rfl, fun j hj hj' => ?_⟩
  by_cases e : j < R'.length
  · rw [List.getElem_append_left e]; exact h.2 j hj e
  · have : j = R'.length := by rw [List.length_append] at hj'; simp at hj'; omega
    subst this
    have hk' : R'.length = k := h.1
    simp only [List.getElem_append_right (Nat.le_refl _), Nat.sub_self, List.getElem_cons_zero]
    simp only [hk']
    exact ⟨h1, h2⟩
end Go.Proofs.Ytbmgfkbgfgknbaa
