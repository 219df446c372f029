/-
  Walks over the document's own answers (package breadboardref01): digit, value, Hex, Text, Signed: each returns what the walks over package num return.
-/
import Derived.Test.YtbmgfkbgfgknbaaDoorNumH
namespace Go.Proofs.YtbmgfkbgfgknbaaDoor
open Go.RowKit
set_option linter.unusedVariables false

/-- The value of a digit, or 99. -/
def digV (c : Int) : Int := if 48 ≤ c ∧ c ≤ 57 then c - 48 else if 97 ≤ c ∧ c ≤ 102 then c - 87 else if 65 ≤ c ∧ c ≤ 70 then c - 55 else 99
theorem hexTab_cut (x : Int) (h0 : 0 ≤ x) (h1 : x < 16) : hexTab.extract x.toNat (x + 1).toNat = ⟨#[hexU x]⟩ := by
  have t : ∀ i : Fin 16, hexTab.extract i.val (i.val + 1) = ⟨#[hexU (i.val : Int)]⟩ := by decide +kernel
  have h := t ⟨x.toNat, by omega⟩
  have e : ((x.toNat : Nat) : Int) = x := by omega
  have e2 : (x + 1).toNat = x.toNat + 1 := by omega
  simp only [e] at h
  rw [e2]
  exact h
theorem hexS_succ (n : Int) (k : Nat) : (hexS n (k + 1)).data.toList = hexU (digI n k) :: (hexS n k).data.toList := by
  have e : (List.range (k + 1)).map (fun j => hexU (digI n (k + 1 - 1 - j))) = hexU (digI n k) :: (List.range k).map fun j => hexU (digI n (k - 1 - j)) := by
    rw [List.range_succ_eq_map, List.map_cons, List.map_map]
    congr 1
    apply List.map_congr_left
    intro j hj
    have := List.mem_range.1 hj
    show hexU (digI n (k + 1 - 1 - (j + 1))) = _
    rw [show k + 1 - 1 - (j + 1) = k - 1 - j by omega]
  unfold hexS
  simpa using e
theorem digI_of (n m : Int) (k : Nat) (h : m = n / 2 ^ (4 * k)) : m % 16 = digI n k := by unfold digI; rw [h]
theorem shr_next (n m : Int) (k : Nat) (h : m = n / 2 ^ (4 * k)) : m / 16 = n / 2 ^ (4 * (k + 1)) := by
  rw [h, Int.ediv_ediv_of_nonneg (by exact Int.pow_nonneg (by omega)), show (2 : Int) ^ (4 * (k + 1)) = 2 ^ (4 * k) * 16 by rw [Nat.mul_add, Int.pow_add]; rfl]
end Go.Proofs.YtbmgfkbgfgknbaaDoor
