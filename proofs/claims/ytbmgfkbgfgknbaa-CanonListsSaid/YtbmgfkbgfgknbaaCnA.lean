/-
  Canonical forms of instructions: the class of a mnemonic, the width, and the operands of the canonical form. No program.
-/
import Derived.Test.YtbmgfkbgfgknbaaOb
namespace Go.Proofs.Ytbmgfkbgfgknbaa
open Go.RowKit
set_option linter.unusedVariables false

def accT : Tr := (1, 7, 0)
def hlT : Tr := (3, 2, 0)
def deT : Tr := (3, 1, 0)
/-- The classes of mnemonics that the canonical form and the width name. -/
def I1 (s : ByteArray) : Prop := s = ⟨#[83, 85, 66]⟩ ∨ s = ⟨#[65, 78, 68]⟩ ∨ s = ⟨#[88, 79, 82]⟩ ∨ s = ⟨#[79, 82]⟩ ∨ s = ⟨#[67, 80]⟩
def I2 (s : ByteArray) : Prop := s = ⟨#[65, 68, 68]⟩ ∨ s = ⟨#[65, 68, 67]⟩ ∨ s = ⟨#[83, 66, 67]⟩
def I3 (s : ByteArray) : Prop := s = ⟨#[69, 88]⟩
def I4 (s : ByteArray) : Prop := s = ⟨#[66, 73, 84]⟩ ∨ s = ⟨#[82, 69, 83]⟩ ∨ s = ⟨#[83, 69, 84]⟩ ∨ s = ⟨#[73, 77]⟩ ∨ s = ⟨#[82, 83, 84]⟩ ∨ s = ⟨#[79, 85, 84]⟩
def I5 (s : ByteArray) : Prop := s = ⟨#[74, 80]⟩ ∨ s = ⟨#[67, 65, 76, 76]⟩
def I6 (s : ByteArray) : Prop := s = ⟨#[76, 68]⟩
instance (s : ByteArray) : Decidable (I1 s) := by unfold I1; infer_instance
instance (s : ByteArray) : Decidable (I2 s) := by unfold I2; infer_instance
instance (s : ByteArray) : Decidable (I3 s) := by unfold I3; infer_instance
instance (s : ByteArray) : Decidable (I4 s) := by unfold I4; infer_instance
instance (s : ByteArray) : Decidable (I5 s) := by unfold I5; infer_instance
instance (s : ByteArray) : Decidable (I6 s) := by unfold I6; infer_instance
def opc (s : ByteArray) : Nat := if I1 s then 1 else if I2 s then 2 else if I3 s then 3 else if I4 s then 4 else if I5 s then 5 else if I6 s then 6 else 0
theorem opc_1 {s : ByteArray} (h : I1 s) : opc s = 1 := by rcases h with rfl | rfl | rfl | rfl | rfl <;> decide +kernel
theorem opc_2 {s : ByteArray} (h : I2 s) : opc s = 2 := by rcases h with rfl | rfl | rfl <;> decide +kernel
theorem opc_3 {s : ByteArray} (h : I3 s) : opc s = 3 := by obtain rfl : s = _ := h; decide +kernel
theorem opc_4 {s : ByteArray} (h : I4 s) : opc s = 4 := by rcases h with rfl | rfl | rfl | rfl | rfl | rfl <;> decide +kernel
theorem opc_5 {s : ByteArray} (h : I5 s) : opc s = 5 := by rcases h with rfl | rfl <;> decide +kernel
theorem opc_6 {s : ByteArray} (h : I6 s) : opc s = 6 := by obtain rfl : s = _ := h; decide +kernel
theorem opc_n1 {s : ByteArray} (h : ¬ I1 s) : opc s ≠ 1 := by
  unfold opc; rw [if_neg h]; split <;> try decide
  split <;> try decide
  split <;> try decide
  split <;> try decide
  split <;> decide
theorem opc_n2 {s : ByteArray} (h : ¬ I2 s) : opc s ≠ 2 := by
  unfold opc; rw [if_neg h]; split <;> try decide
  split <;> try decide
  split <;> try decide
  split <;> try decide
  split <;> decide
theorem opc_n3 {s : ByteArray} (h : ¬ I3 s) : opc s ≠ 3 := by
  unfold opc; rw [if_neg h]; split <;> try decide
  split <;> try decide
  split <;> try decide
  split <;> try decide
  split <;> decide
theorem opc_n4 {s : ByteArray} (h : ¬ I4 s) : opc s ≠ 4 := by
  unfold opc; rw [if_neg h]; split <;> try decide
  split <;> try decide
  split <;> try decide
  split <;> try decide
  split <;> decide
theorem opc_n5 {s : ByteArray} (h : ¬ I5 s) : opc s ≠ 5 := by
  unfold opc; rw [if_neg h]; split <;> try decide
  split <;> try decide
  split <;> try decide
  split <;> try decide
  split <;> decide
theorem opc_n6 {s : ByteArray} (h : ¬ I6 s) : opc s ≠ 6 := by
  unfold opc; rw [if_neg h]; split <;> try decide
  split <;> try decide
  split <;> try decide
  split <;> try decide
  split <;> decide
/-- The steps: the register A, EX, the numbers. -/
def accL (c : Nat) (L : List Tr) : List Tr := if c = 1 ∧ L.length = 2 ∧ L.head? = some accT then L.tail else if c = 2 ∧ L.length = 1 then accT :: L else L
def exL (c : Nat) (L : List Tr) : List Tr := if c = 3 ∧ L = [hlT, deT] then [deT, hlT] else L
def widL (c : Nat) (L : List Tr) : Int := if c = 4 then 0 else if c = 5 then 2 else if c = 6 ∧ L.head?.map (fun t => t.1) = some 3 then 2 else 1
def valW (w : Int) : Int := if w = 1 then 256 else if w = 2 then 65536 else 0
def wrapT (v : Int) (t : Tr) : Tr := if t.1 = 6 ∧ -(v / 2) ≤ t.2.2 ∧ t.2.2 < 0 then (t.1, t.2.1, t.2.2 + v) else t
/-- The operands of the canonical form. -/
def canL (c : Nat) (L : List Tr) : List Tr := (exL c (accL c L)).map (wrapT (valW (widL c L)))
theorem wrapT_fst (v : Int) (t : Tr) : (wrapT v t).1 = t.1 := by unfold wrapT; split <;> rfl
theorem wrapT_snd (v : Int) (t : Tr) : (wrapT v t).2.1 = t.2.1 := by unfold wrapT; split <;> rfl
theorem wrapT_not (v : Int) (t u : Tr) (hu : u.1 ≠ 6) (h : wrapT v t = u) : t = u := by
  unfold wrapT at h
  split at h
  · rename_i hc
    rw [← h] at hu
    exact absurd hc.1 hu
  · exact h
theorem wrapT_other (v : Int) (u : Tr) (hu : u.1 ≠ 6) : wrapT v u = u := by unfold wrapT; rw [if_neg (fun h => hu h.1)]
theorem valW_cases (w : Int) : valW w = 256 ∨ valW w = 65536 ∨ valW w = 0 := by
  unfold valW
  split
  · exact .inl rfl
  · split
    · exact .inr (.inl rfl)
    · exact .inr (.inr rfl)
theorem wrapT_twice (w : Int) (t : Tr) : wrapT (valW w) (wrapT (valW w) t) = wrapT (valW w) t := by
  obtain ⟨a, b, n⟩ := t
  by_cases h : a = 6 ∧ -(valW w / 2) ≤ n ∧ n < 0
  · have e : wrapT (valW w) (a, b, n) = (a, b, n + valW w) := by unfold wrapT; rw [if_pos h]
    rw [e]
    unfold wrapT
    rw [if_neg]
    rintro ⟨-, -, h3⟩
    obtain ⟨-, h1, h2⟩ := h
    simp only at h3
    rcases valW_cases w with q | q | q <;> rw [q] at h1 h3 <;> omega
  · have e : wrapT (valW w) (a, b, n) = (a, b, n) := by unfold wrapT; rw [if_neg h]
    rw [e, e]
theorem map_twice (w : Int) (L : List Tr) : (L.map (wrapT (valW w))).map (wrapT (valW w)) = L.map (wrapT (valW w)) := by
  rw [List.map_map]
  exact List.map_congr_left fun t _ => wrapT_twice w t
theorem accL_len (c : Nat) (L : List Tr) : (accL c L).length ≤ L.length + 1 := by
  unfold accL
  split
  · rw [List.length_tail]; omega
  · split
    · exact Nat.le_refl _
    · omega
theorem exL_len (c : Nat) (L : List Tr) : (exL c L).length = L.length := by
  unfold exL
  split
  · rename_i h; rw [h.2]; rfl
  · rfl
theorem canL_len (c : Nat) (L : List Tr) : (canL c L).length ≤ L.length + 1 := by
  unfold canL
  rw [List.length_map, exL_len]
  exact accL_len c L
theorem head_map (v : Int) (L : List Tr) : (L.map (wrapT v)).head?.map (fun t => t.1) = L.head?.map (fun t => t.1) := by
  cases L with
  | nil => rfl
  | cons t r => simp [wrapT_fst]
theorem widL_can (c : Nat) (L : List Tr) : widL c (canL c L) = widL c L := by
  by_cases h : c = 6
  · subst h
    have e1 : accL 6 L = L := by unfold accL; rw [if_neg (by omega), if_neg (by omega)]
    have e2 : exL 6 L = L := by unfold exL; rw [if_neg (by omega)]
    unfold canL
    rw [e1, e2]
    unfold widL
    rw [head_map]
  · unfold widL
    have n1 : ∀ x : List Tr, ¬ (c = 6 ∧ x.head?.map (fun t => t.1) = some 3) := fun x q => h q.1
    rw [if_neg (n1 _), if_neg (n1 _)]
theorem acc_can (c : Nat) (L : List Tr) : accL c (canL c L) = canL c L := by
  by_cases h1 : c = 1
  · subst h1
    unfold accL
    rw [if_neg, if_neg (by omega)]
    rintro ⟨-, h2, h3⟩
    have e2 : ∀ x, exL 1 x = x := fun x => by unfold exL; rw [if_neg (by omega)]
    unfold canL at h2 h3
    rw [e2] at h2 h3
    unfold accL at h2 h3
    split at h2
    · rename_i hc
      rw [List.length_map, List.length_tail] at h2
      omega
    · rename_i hc
      rw [if_neg hc, if_neg (by omega)] at h3
      rw [if_neg (by omega)] at h2
      refine hc ⟨rfl, by simpa using h2, ?_⟩
      cases L with
      | nil => simp at h3
      | cons t r =>
        simp only [List.map_cons, List.head?_cons, Option.some.injEq] at h3 ⊢
        exact wrapT_not _ _ _ (by decide) h3
  · by_cases h2 : c = 2
    · subst h2
      unfold accL
      rw [if_neg (by omega), if_neg]
      rintro ⟨-, h3⟩
      have e2 : ∀ x, exL 2 x = x := fun x => by unfold exL; rw [if_neg (by omega)]
      unfold canL at h3
      rw [e2, List.length_map] at h3
      unfold accL at h3
      rw [if_neg (by omega)] at h3
      split at h3
      · rename_i hc
        simp only [List.length_cons] at h3
        omega
      · rename_i hc
        exact hc ⟨rfl, h3⟩
    · unfold accL
      rw [if_neg (fun q => h1 q.1), if_neg (fun q => h2 q.1)]
theorem two_of (L : List Tr) (h : L.length = 2) : ∃ a b, L = [a, b] := by
  cases L with
  | nil => simp at h
  | cons a r =>
    cases r with
    | nil => simp at h
    | cons b r =>
      cases r with
      | nil => exact ⟨a, b, rfl⟩
      | cons c r => simp at h
theorem ex_can (c : Nat) (L : List Tr) : exL c (canL c L) = canL c L := by
  unfold exL
  rw [if_neg]
  rintro ⟨rfl, h⟩
  have e1 : accL 3 L = L := by unfold accL; rw [if_neg (by omega), if_neg (by omega)]
  unfold canL at h
  rw [e1] at h
  unfold exL at h
  split at h
  · simp only [List.map_cons, List.map_nil, List.cons.injEq] at h
    have := wrapT_not _ _ _ (by decide) h.1
    exact absurd this (by decide)
  · rename_i hc
    refine hc ⟨rfl, ?_⟩
    have hl := congrArg List.length h
    rw [List.length_map] at hl
    obtain ⟨a, b, rfl⟩ := two_of L (by simpa using hl)
    simp only [List.map_cons, List.map_nil, List.cons.injEq, and_true] at h
    rw [wrapT_not _ _ _ (by decide) h.1, wrapT_not _ _ _ (by decide) h.2]
/-- The canonical form of a canonical form. -/
theorem can_can (c : Nat) (L : List Tr) : canL c (canL c L) = canL c L := by
  have e : canL c (canL c L) = (exL c (accL c (canL c L))).map (wrapT (valW (widL c (canL c L)))) := rfl
  rw [e, widL_can, acc_can, ex_can]
  exact map_twice _ _
end Go.Proofs.Ytbmgfkbgfgknbaa
