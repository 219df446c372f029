/-
  Operands: the names of registers and conditions, by kinds. No program.
-/
import Derived.Test.YtbmgfkbgfgknbaaDoorNumL
namespace Go.Proofs.YtbmgfkbgfgknbaaDoor
open Go.RowKit
set_option linter.unusedVariables false

/-- The names of a kind, by their numbers; the empty one stands for none. -/
def nmL : Nat → List ByteArray
  | 1 => [⟨#[66]⟩, ⟨#[67]⟩, ⟨#[68]⟩, ⟨#[69]⟩, ⟨#[72]⟩, ⟨#[76]⟩, ⟨#[]⟩, ⟨#[65]⟩]
  | 2 => [⟨#[73, 88, 72]⟩, ⟨#[73, 88, 76]⟩, ⟨#[73, 89, 72]⟩, ⟨#[73, 89, 76]⟩]
  | 3 => [⟨#[66, 67]⟩, ⟨#[68, 69]⟩, ⟨#[72, 76]⟩, ⟨#[83, 80]⟩, ⟨#[65, 70]⟩, ⟨#[73, 88]⟩, ⟨#[73, 89]⟩, ⟨#[65, 70, 39]⟩]
  | 4 => [⟨#[66, 67]⟩, ⟨#[68, 69]⟩, ⟨#[72, 76]⟩, ⟨#[83, 80]⟩, ⟨#[]⟩, ⟨#[73, 88]⟩, ⟨#[73, 89]⟩, ⟨#[]⟩, ⟨#[67]⟩]
  | 5 => [⟨#[]⟩, ⟨#[]⟩, ⟨#[]⟩, ⟨#[]⟩, ⟨#[]⟩, ⟨#[73, 88]⟩, ⟨#[73, 89]⟩]
  | 8 => [⟨#[78, 90]⟩, ⟨#[90]⟩, ⟨#[78, 67]⟩, ⟨#[67]⟩, ⟨#[80, 79]⟩, ⟨#[80, 69]⟩, ⟨#[80]⟩, ⟨#[77]⟩]
  | 9 => [⟨#[73]⟩, ⟨#[82]⟩]
  | _ => []
def atS (L : List ByteArray) (r : Int) : ByteArray := if 0 ≤ r then L.getD r.toNat ⟨#[]⟩ else ⟨#[]⟩
def neB (s : ByteArray) : Bool := !s.toList.isEmpty
theorem atS_in (L : List ByteArray) (k : Nat) (h : k < L.length) : atS L (k : Int) = L[k] := by
  unfold atS
  rw [if_pos (by omega), List.getD_eq_getElem?_getD, Int.toNat_natCast, List.getElem?_eq_getElem h]
  rfl
theorem atS_out (L : List ByteArray) (r : Int) (h : r < 0 ∨ (L.length : Int) ≤ r) : atS L r = ⟨#[]⟩ := by
  unfold atS
  split
  · rw [List.getD_eq_getElem?_getD, List.getElem?_eq_none (by omega)]; rfl
  · rfl
/-- The name of number r of kind k. -/
def nmS (k : Nat) (r : Int) : ByteArray := atS (nmL k) r
theorem atS_mem (L : List ByteArray) (r : Int) : atS L r = ⟨#[]⟩ ∨ atS L r ∈ L := by
  by_cases h : 0 ≤ r ∧ r < (L.length : Int)
  · right
    obtain ⟨k, rfl⟩ : ∃ k : Nat, r = k := ⟨r.toNat, by omega⟩
    rw [atS_in L k (by omega)]
    exact List.getElem_mem _
  · left; exact atS_out L r (by omega)
end Go.Proofs.YtbmgfkbgfgknbaaDoor
