/-
  Slices of strings in memory.
-/
import Derived.Test.YtbmgfkbgfgknbaaOb
namespace Go.Proofs.Ytbmgfkbgfgknbaa
open Go.RowKit
set_option linter.unusedVariables false

theorem strs_new (w : World) (L : List ByteArray) (t : TypeId) : ∀ j (h : j < L.length), (w.alloc (.cells (L.map Value.string).toArray t)).cell? ⟨w.heap.size, j, none⟩ = some (.string L[j]) := by
  intro j h
  simp [go_sem, h]
/-- A slice of strings that reads as L. -/
def StrsA (w : World) (A : Option Addr) (L : List ByteArray) : Prop := L = [] ∨ ∃ b off, A = some ⟨b, off, none⟩ ∧ ∀ j (h : j < L.length), w.cell? ⟨b, off + j, none⟩ = some (.string L[j])
theorem StrsA.at_ {w : World} {A : Option Addr} {L : List ByteArray} (h : StrsA w A L) {k : Nat} (hk : k < L.length) : ∃ b off, A = some ⟨b, off, none⟩ ∧ w.cell? ⟨b, off + k, none⟩ = some (.string L[k]) := by
  rcases h with rfl | ⟨b, off, rfl, hc⟩
  · simp at hk
  · exact ⟨b, off, rfl, hc k hk⟩
theorem StrsA.below {w w' : World} {A : Option Addr} {L : List ByteArray} (h : StrsA w A L) (hb : Below w.heap.size w w') : StrsA w' A L := by
  rcases h with rfl | ⟨b, off, rfl, hc⟩
  · exact .inl rfl
  · exact .inr ⟨b, off, rfl, fun j hj => (hb.cell (World.block_lt_of_cell? w _ (hc j hj))).trans (hc j hj)⟩
def RetStrs (w : World) (L : List ByteArray) (e : Ending) (w' : World) : Prop := ∃ A cap, e = .returned (.slice A L.length cap) ∧ StrsA w' A L ∧ Below w.heap.size w w'
theorem strs_of_new (w : World) (L : List ByteArray) (t : TypeId) : StrsA (w.alloc (.cells (L.map Value.string).toArray t)) (some ⟨w.heap.size, 0, none⟩) L :=
  .inr ⟨_, 0, rfl, fun j hj => by rw [Nat.zero_add]; exact strs_new w L t j hj⟩
end Go.Proofs.Ytbmgfkbgfgknbaa
