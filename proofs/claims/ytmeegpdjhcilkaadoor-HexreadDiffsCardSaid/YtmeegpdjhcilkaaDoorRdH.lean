/-
  The walk over slices.Equal at integers that read alike.
-/
import Derived.Test.YtmeegpdjhcilkaaDoorRdG
namespace Go.Proofs.YtmeegpdjhcilkaaDoor
open Go.RowKit
set_option linter.unusedVariables false

set_option maxHeartbeats 1000000 in
theorem equalI_any (A1 A2 : Option Addr) (c1 c2 : Nat) (xs : List Int) (hx : xs.length ≤ maxLen) (w : World) (h1 : IntsAt w A1 xs) (h2 : IntsAt w A2 xs) :
    Calls Tryd.prog 26 #[.slice A1 xs.length c1, .slice A2 xs.length c2] w (Im.SomeDraws w true) := by
  unfold maxLen at hx
  have H1 := Lib.hid h1
  have H2 := Lib.hid h2
  clear h1 h2
  obtain ⟨n, hn⟩ : ∃ n, xs.length = n := ⟨_, rfl⟩
  have L1 := Lib.hid hn
  rw [hn] at hx ⊢
  clear hn
  go_enter Tryd.func26, Tryd.ntmps26
  go_wp2
  go_loopw [13] (fun i wr => ∃ k q : Nat, k ≤ n ∧ i = .int .i64 k ∧ wr = w.drewN q) (fun i _ => n - (intOf i).toNat)
  case atStart => exact ⟨0, 0, Nat.zero_le _, rfl, rfl⟩
  case round =>
    obtain ⟨k, q, hk, rfl, rfl⟩ := hrel
    by_cases hlt : k < n
    · obtain ⟨b1, o1, hA1, g1⟩ := H1.out.at_ (show k < xs.length by have := L1.out; omega)
      obtain ⟨b2, o2, hA2, g2⟩ := H2.out.at_ (show k < xs.length by have := L1.out; omega)
      subst hA1 hA2
      obtain ⟨x, hx⟩ : ∃ x : Int, (xs[k]'(by have := L1.out; omega)) = x := ⟨_, rfl⟩
      rw [hx] at g1 g2
      clear hx
      go_wp2_with fail
      go_quiet (fail)
      go_wp2
      go_roundw
      case rel => exact ⟨k + 1, _, by omega, by go_num, rfl⟩
      case measure => simp [intOf]; omega
    · go_wp2
      go_ret
      exact ⟨rfl, _, rfl⟩
theorem SomeDraws.below {w w' : World} {b : Bool} {e : Ending} (h : Im.SomeDraws w b e w') : e = .returned (.bool b) ∧ Below w.heap.size w w' := by
  obtain ⟨h1, q, rfl⟩ := h
  exact ⟨h1, Im.below_drewN w q⟩
end Go.Proofs.YtmeegpdjhcilkaaDoor
