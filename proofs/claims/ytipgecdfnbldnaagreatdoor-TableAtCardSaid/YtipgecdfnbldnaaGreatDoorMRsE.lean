/-
  What holds of every entry of the table: by the kernel.
-/
import Derived.Test.YtipgecdfnbldnaaGreatDoorMFoA
import Derived.Test.YtipgecdfnbldnaaGreatDoorReS
set_option linter.all false
namespace Go.Proofs.YtipgecdfnbldnaaGreatDoor
open Go.RowKit Go.Shelf
set_option linter.unusedVariables false

def okE (page : Int) (x : En) : Bool :=
  decide (sizeT page x.2.2.1 = rsizeT page x.2.2.1) && decide (1 ≤ sizeT page x.2.2.1) && decide (sizeT page x.2.2.1 ≤ 4) && (docB page x.1 x.2.1 x.2.2.2 == rdocB page x.1 x.2.1 x.2.2.2) && decide (codeI (sB x.1) x.2.1 = 0)
def okN (p n : Nat) : Bool := match atN p n with | some x => okE p x | none => true
theorem ok_0 : ∀ n : Fin 256, okN 0 n.val = true := by decide +kernel
theorem ok_1 : ∀ n : Fin 256, okN 1 n.val = true := by decide +kernel
theorem ok_2 : ∀ n : Fin 256, okN 2 n.val = true := by decide +kernel
theorem ok_3 : ∀ n : Fin 256, okN 3 n.val = true := by decide +kernel
theorem ok_4 : ∀ n : Fin 256, okN 4 n.val = true := by decide +kernel
theorem ok_5 : ∀ n : Fin 256, okN 5 n.val = true := by decide +kernel
theorem ok_6 : ∀ n : Fin 256, okN 6 n.val = true := by decide +kernel
theorem ok_all (p n : Nat) (hp : p < 7) (hn : n < 256) : okN p n = true := by
  rcases (by omega : p = 0 ∨ p = 1 ∨ p = 2 ∨ p = 3 ∨ p = 4 ∨ p = 5 ∨ p = 6) with rfl | rfl | rfl | rfl | rfl | rfl | rfl
  · exact ok_0 ⟨n, hn⟩
  · exact ok_1 ⟨n, hn⟩
  · exact ok_2 ⟨n, hn⟩
  · exact ok_3 ⟨n, hn⟩
  · exact ok_4 ⟨n, hn⟩
  · exact ok_5 ⟨n, hn⟩
  · exact ok_6 ⟨n, hn⟩
/-- An entry of the table. -/
theorem ok_some {page : Int} {n : Nat} (hn : n < 256) {x : En} (h : ratT page n = some x) : okE page x = true := by
  by_cases hp : 0 ≤ page ∧ page ≤ 6
  · obtain ⟨p, rfl⟩ : ∃ p : Nat, page = p := ⟨page.toNat, by omega⟩
    have h1 := ok_all p n (by omega) hn
    rw [← at_same _ n hn, atN_eq p n hn] at h
    unfold okN at h1
    rw [h] at h1
    exact h1
  · rw [ratT_no hp] at h
    cases h
theorem ok_parts {page : Int} {m ex : Str} {L : List Tr} {al : Bool} (h : okE page (m, L, ex, al) = true) : sizeT page ex = rsizeT page ex ∧ 1 ≤ sizeT page ex ∧ sizeT page ex ≤ 4 ∧ docB page m L al = rdocB page m L al ∧ codeI (sB m) L = 0 := by
  unfold okE at h
  simp only [Bool.and_eq_true, decide_eq_true_eq, beq_iff_eq] at h
  obtain ⟨⟨⟨⟨h1, h2⟩, h3⟩, h4⟩, h5⟩ := h
  exact ⟨h1, h2, h3, h4, h5⟩
end Go.Proofs.YtipgecdfnbldnaaGreatDoor
