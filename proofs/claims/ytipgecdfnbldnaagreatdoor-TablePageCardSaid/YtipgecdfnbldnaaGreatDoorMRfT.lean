/-
  The reference's At and the code's At have the same entries and the same kinds: by the kernel.
-/
import Derived.Test.YtipgecdfnbldnaaGreatDoorMRfZ
import Derived.Test.YtipgecdfnbldnaaGreatDoorTaX
set_option linter.all false
set_option maxRecDepth 100000
set_option maxHeartbeats 4000000
namespace Go.Proofs.YtipgecdfnbldnaaGreatDoor
open Go.RowKit Go.Shelf
instance decEn : DecidableEq En := inferInstance
instance decOEn : DecidableEq (Option En) := inferInstance
theorem same_0 : ∀ n : Fin 256, ratT 0 n.val = atN 0 n.val := by decide +kernel
theorem same_1 : ∀ n : Fin 256, ratT 1 n.val = atN 1 n.val := by decide +kernel
theorem same_2 : ∀ n : Fin 256, ratT 2 n.val = atN 2 n.val := by decide +kernel
theorem same_3 : ∀ n : Fin 256, ratT 3 n.val = atN 3 n.val := by decide +kernel
theorem same_4 : ∀ n : Fin 256, ratT 4 n.val = atN 4 n.val := by decide +kernel
theorem same_5 : ∀ n : Fin 256, ratT 5 n.val = atN 5 n.val := by decide +kernel
theorem same_6 : ∀ n : Fin 256, ratT 6 n.val = atN 6 n.val := by decide +kernel
theorem listS_no {page : Int} (h : ¬ (0 ≤ page ∧ page ≤ 6)) : listS page = [] := by
  unfold listS
  rw [if_neg (by omega), if_neg (by omega), if_neg (by omega)]
theorem ratT_no {page : Int} (h : ¬ (0 ≤ page ∧ page ≤ 6)) (op : Nat) : ratT page op = none := by
  unfold ratT
  rw [if_neg (by omega), if_neg (by omega), if_neg (by omega), if_neg (by omega), if_neg (by omega)]
theorem at_same (page : Int) (n : Nat) (hn : n < 256) : atT page (n : Int) = ratT page n := by
  by_cases hp : 0 ≤ page ∧ page ≤ 6
  · rcases (by omega : page = 0 ∨ page = 1 ∨ page = 2 ∨ page = 3 ∨ page = 4 ∨ page = 5 ∨ page = 6) with rfl | rfl | rfl | rfl | rfl | rfl | rfl
    · exact (atN_eq 0 n hn).trans (same_0 ⟨n, hn⟩).symm
    · exact (atN_eq 1 n hn).trans (same_1 ⟨n, hn⟩).symm
    · exact (atN_eq 2 n hn).trans (same_2 ⟨n, hn⟩).symm
    · exact (atN_eq 3 n hn).trans (same_3 ⟨n, hn⟩).symm
    · exact (atN_eq 4 n hn).trans (same_4 ⟨n, hn⟩).symm
    · exact (atN_eq 5 n hn).trans (same_5 ⟨n, hn⟩).symm
    · exact (atN_eq 6 n hn).trans (same_6 ⟨n, hn⟩).symm
  · rw [ratT_no hp]
    unfold atT findP
    rw [listS_no hp]
    rfl
end Go.Proofs.YtipgecdfnbldnaaGreatDoor
