/-
  Canonical forms of right instructions: their operands are valid, and their numbers are not negative as far as the width permits. No program.
-/
import Derived.Test.YtbmgfkbgfgknbaaDoorInC
import Derived.Test.YtbmgfkbgfgknbaaDoorCnA
namespace Go.Proofs.YtbmgfkbgfgknbaaDoor
open Go.RowKit
set_option linter.unusedVariables false

theorem code_split {s : ByteArray} {L : List Tr} (h : codeI s L = 0) : knB s = true ∧ L.length ≤ 3 ∧ ∀ t ∈ L, vT t = true := by
  unfold codeI at h
  split at h
  · cases h
  · rename_i h1
    split at h
    · cases h
    · rename_i h2
      split at h
      · rename_i h3
        exact ⟨by simpa using h1, by omega, fun t ht => List.all_eq_true.1 h3 t ht⟩
      · cases h
theorem mem_ex {c : Nat} {L : List Tr} {u : Tr} (h : u ∈ exL c (accL c L)) : u ∈ L ∨ u = accT ∨ u = hlT ∨ u = deT := by
  have h1 : u ∈ accL c L ∨ u = hlT ∨ u = deT := by
    unfold exL at h
    split at h
    · rcases List.mem_cons.1 h with e | h
      · exact .inr (.inr e)
      · exact .inr (.inl (List.mem_singleton.1 h))
    · exact .inl h
  rcases h1 with h1 | h1 | h1
  · unfold accL at h1
    split at h1
    · exact .inl (List.mem_of_mem_tail h1)
    · split at h1
      · rcases List.mem_cons.1 h1 with e | h
        · exact .inr (.inl e)
        · exact .inl h
      · exact .inl h1
  · exact .inr (.inr (.inl h1))
  · exact .inr (.inr (.inr h1))
theorem vT_acc : vT accT = true := by decide +kernel
theorem vT_hl : vT hlT = true := by decide +kernel
theorem vT_de : vT deT = true := by decide +kernel
theorem vT_mem {c : Nat} {s : ByteArray} {L : List Tr} (h : codeI s L = 0) {u : Tr} (hu : u ∈ exL c (accL c L)) : vT u = true := by
  rcases mem_ex hu with h1 | rfl | rfl | rfl
  · exact (code_split h).2.2 u h1
  · exact vT_acc
  · exact vT_hl
  · exact vT_de
theorem vT_6 {t : Tr} (h : vT t = true) (hk : t.1 = 6) : t.2.1 = 0 ∧ -32768 ≤ t.2.2 ∧ t.2.2 ≤ 65535 := by
  obtain ⟨a, r, n⟩ := t
  simp only at hk
  subst hk
  unfold vT at h
  simp only [vld_6] at h
  simp only [Bool.and_eq_true, beq_iff_eq, decide_eq_true_eq] at h
  exact ⟨h.1, h.2.1, h.2.2⟩
theorem vT_wrap {t : Tr} (w : Int) (h : vT t = true) : vT (wrapT (valW w) t) = true := by
  by_cases hc : t.1 = 6 ∧ -(valW w / 2) ≤ t.2.2 ∧ t.2.2 < 0
  · obtain ⟨h1, h2, h3⟩ := vT_6 h hc.1
    have e : wrapT (valW w) t = (t.1, t.2.1, t.2.2 + valW w) := by unfold wrapT; rw [if_pos hc]
    rw [e, hc.1]
    unfold vT
    simp only [vld_6, Bool.and_eq_true, beq_iff_eq, decide_eq_true_eq]
    obtain ⟨-, h4, h5⟩ := hc
    refine ⟨h1, ?_, ?_⟩ <;> rcases valW_cases w with q | q | q <;> rw [q] at h4 ⊢ <;> omega
  · have e : wrapT (valW w) t = t := by unfold wrapT; rw [if_neg hc]
    rw [e]; exact h
theorem canL_le3 {c : Nat} {L : List Tr} (h : L.length ≤ 3) : (canL c L).length ≤ 3 := by
  unfold canL
  rw [List.length_map, exL_len]
  unfold accL
  split
  · rw [List.length_tail]; omega
  · split
    · simp only [List.length_cons]; omega
    · exact h
theorem can_check {s : ByteArray} {L : List Tr} (h : codeI s L = 0) : codeI s (canL (opc s) L) = 0 := by
  obtain ⟨h1, h2, h3⟩ := code_split h
  refine (code_0 s _ h1 (by have := canL_le3 (c := opc s) h2; omega) fun k hk a => ?_).symm
  have hm := List.getElem_mem a
  unfold canL at hm
  rw [List.mem_map] at hm
  obtain ⟨u, hu, e⟩ := hm
  have := vT_wrap (widL (opc s) L) (vT_mem h hu)
  rw [e] at this
  exact this
theorem can_num {s : ByteArray} {L : List Tr} (h : codeI s L = 0) {x : Int} (hx : widL (opc s) L = x) (t : Tr) (ht : t ∈ canL (opc s) L) (hk : t.1 = 6) (hn : t.2.2 < 0) : ¬ x = 2 ∧ (x = 1 → ¬ -128 ≤ t.2.2) := by
  unfold canL at ht
  rw [List.mem_map, hx] at ht
  obtain ⟨u, hu, rfl⟩ := ht
  rw [wrapT_fst] at hk
  obtain ⟨h1, h2, h3⟩ := vT_6 (vT_mem h hu) hk
  by_cases hc : u.1 = 6 ∧ -(valW x / 2) ≤ u.2.2 ∧ u.2.2 < 0
  · have e : wrapT (valW x) u = (u.1, u.2.1, u.2.2 + valW x) := by unfold wrapT; rw [if_pos hc]
    rw [e] at hn
    simp only at hn
    obtain ⟨-, h4, h5⟩ := hc
    rcases valW_cases x with q | q | q <;> rw [q] at h4 hn <;> omega
  · have e : wrapT (valW x) u = u := by unfold wrapT; rw [if_neg hc]
    rw [e] at hn ⊢
    constructor
    · rintro rfl
      exact hc ⟨hk, by show -(65536 / 2 : Int) ≤ _; omega, hn⟩
    · rintro rfl hq
      exact hc ⟨hk, by show -(256 / 2 : Int) ≤ _; omega, hn⟩
end Go.Proofs.YtbmgfkbgfgknbaaDoor
