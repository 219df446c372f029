/-
  The walks over the document's own Ops and Known; slices of strings.
-/
import Derived.Test.YtbmgfkbgfgknbaaDoorInL
import Derived.Test.YtbmgfkbgfgknbaaDoorOb
import Derived.Test.YtbmgfkbgfgknbaaDoorOpB
namespace Go.Proofs.YtbmgfkbgfgknbaaDoor
open Go.RowKit Go.Maps
set_option linter.unusedVariables false

/-- A slice of strings that reads as L. -/
def StrsA (w : World) (A : Option Addr) (L : List ByteArray) : Prop := L = [] ∨ ∃ b off, A = some ⟨b, off, none⟩ ∧ ∀ j (h : j < L.length), w.cell? ⟨b, off + j, none⟩ = some (.string L[j])
theorem StrsA.at_ {w : World} {A : Option Addr} {L : List ByteArray} (h : StrsA w A L) {k : Nat} (hk : k < L.length) : ∃ b off, A = some ⟨b, off, none⟩ ∧ w.cell? ⟨b, off + k, none⟩ = some (.string L[k]) := by
  rcases h with rfl | ⟨b, off, rfl, hc⟩
  · simp at hk
  · exact ⟨b, off, rfl, hc k hk⟩
theorem StrsA.below {w w' : World} {A : Option Addr} {L : List ByteArray} (h : StrsA w A L) (hb : Below w.heap.size w w') : StrsA w' A L := by
  rcases h with rfl | ⟨b, off, rfl, hc⟩
  · exact .inl rfl
  · exact .inr ⟨b, off, rfl, fun j hj => (hb.cell (World.block_lt_of_cell? w _ (hc j hj))).trans (hc j hj)⟩
def RetStrs (w : World) (L : List ByteArray) (e : Ending) (w' : World) : Prop := ∃ A cap, e = .returned (.slice A L.length cap) ∧ StrsA w' A L ∧ Below w.heap.size w w'
theorem strs_of_new (w : World) (L : List ByteArray) (t : TypeId) : StrsA (w.alloc (.cells (L.map Value.string).toArray t)) (some ⟨w.heap.size, 0, none⟩) L :=
  .inr ⟨_, 0, rfl, fun j hj => by rw [Nat.zero_add]; exact strs_new w L t j hj⟩
set_option maxRecDepth 100000 in
set_option maxHeartbeats 1000000 in
theorem rops_any (w : World) : Calls Tryd.prog 18 #[] w (RetStrs w opsL) := by
  go_enter Tryd.func18, Tryd.ntmps18
  go_wp2
  go_ret
  exact ⟨_, 68, rfl, strs_of_new w opsL 9, (Below.refl _ _).alloc (Nat.le_refl _) _⟩
theorem kn_yes (s : ByteArray) (j : Nat) (h : j < opsL.length) (e : (opsL[j].toList == s.toList) = true) : true = knB s :=
  (List.any_eq_true.2 ⟨_, List.getElem_mem h, e⟩).symm
theorem kn_no (s : ByteArray) (h : ∀ k, k < 68 → ∀ (a : k < opsL.length), (opsL[k].toList == s.toList) = false) : false = knB s := by
  refine (List.any_eq_false.2 fun x hx => ?_).symm
  obtain ⟨k, hk, rfl⟩ := List.getElem_of_mem hx
  rw [h k (by rw [ops_len] at hk; exact hk) hk]
  exact Bool.false_ne_true
set_option maxHeartbeats 2000000 in
theorem rknown_any (s : ByteArray) (w : World) :
    Calls Tryd.prog 9 #[.string s] w fun e w' => e = .returned (.bool (knB s)) ∧ Below w.heap.size w w' := by
  go_enter Tryd.func9, Tryd.ntmps9
  go_wp2_with fail
  refine (rops_any _).mono ?_
  rintro e w1 ⟨A, cap, rfl, hA, h1⟩
  have X := Lib.hid hA
  have B1 := Lib.hid h1
  clear hA h1
  rw [ops_len]
  go_wp2
  go_loopw [4] (fun i wr => ∃ j : Nat, j ≤ 68 ∧ i = .int .i64 j ∧ Hid (∀ k, k < j → ∀ (a : k < opsL.length), (opsL[k].toList == s.toList) = false) ∧ wr = w1) (fun i _ => 68 - (intOf i).toNat)
  case atStart => exact ⟨0, Nat.zero_le _, rfl, fun k h => by omega, rfl⟩
  case round =>
    obtain ⟨j, hj, rfl, R, rfl⟩ := hrel
    by_cases hlt : j < 68
    · have hj1 : j < opsL.length := by rw [ops_len]; exact hlt
      obtain ⟨b1, o1, hA1, p0⟩ := X.out.at_ hj1
      subst hA1
      cases q : (opsL[j].toList == s.toList)
      · have R2 : Hid (∀ k, k < j + 1 → ∀ (a : k < opsL.length), (opsL[k].toList == s.toList) = false) := fun k hk a => by
          by_cases e : k = j
          · subst e; exact q
          · exact R.out k (by omega) a
        obtain ⟨x, hx⟩ : ∃ x, opsL[j] = x := ⟨_, rfl⟩
        rw [hx] at p0 q
        clear hx R hj1
        go_wp2
        go_roundw
        case rel => exact ⟨j + 1, by omega, by go_num, R2.out, trivial⟩
        case measure => simp [intOf]; omega
      · have T : Hid (true = knB s) := kn_yes s j hj1 q
        obtain ⟨x, hx⟩ : ∃ x, opsL[j] = x := ⟨_, rfl⟩
        rw [hx] at p0 q
        clear hx R hj1
        go_wp2
        go_ret
        exact ⟨ret_bool T.out, B1.out⟩
    · have hj8 : j = 68 := by omega
      subst hj8
      have T : Hid (false = knB s) := kn_no s R.out
      clear R hlt
      go_wp2
      go_ret
      exact ⟨ret_bool T.out, B1.out⟩
end Go.Proofs.YtbmgfkbgfgknbaaDoor
