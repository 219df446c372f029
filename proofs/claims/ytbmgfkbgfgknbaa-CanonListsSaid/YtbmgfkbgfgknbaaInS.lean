/-
  The walk over the document's own Same.
-/
import Derived.Test.YtbmgfkbgfgknbaaOb
namespace Go.Proofs.Ytbmgfkbgfgknbaa
open Go.RowKit
set_option linter.unusedVariables false

set_option maxRecDepth 100000 in
set_option maxHeartbeats 4000000 in
theorem same_any (s : ByteArray) (A1 A2 : Option Addr) (c1 c2 : Nat) (L : List Tr) (hL : L.length ≤ 1000) (w : World) (H1 : OpsP w A1 L) (H2 : OpsP w A2 L) :
    Calls Try.prog 13 #[.agg #[.string s, .slice A1 L.length c1], .agg #[.string s, .slice A2 L.length c2]] w fun e w' => e = .returned (.bool true) ∧ Below w.heap.size w w' := by
  have X1 := Lib.hid H1
  have X2 := Lib.hid H2
  obtain ⟨n, hn⟩ : ∃ n, L.length = n := ⟨_, rfl⟩
  have HN := Lib.hid hn
  rw [hn] at hL ⊢
  have hq := strB_eq s
  have B0 : Hid (Below w.heap.size w ((w.alloc (.cells #[.string s, .slice A1 n c1] 24)).alloc (.cells #[.string s, .slice A2 n c2] 24))) := ((Below.refl _ _).alloc (Nat.le_refl _) _).alloc (by simp) _
  clear H1 H2 hn
  go_enter Try.func13, Try.ntmps13
  go_wp2
  go_loopw [5] (fun i wr => ∃ j q : Nat, j ≤ n ∧ i = .int .i64 j ∧ wr = ((w.alloc (.cells #[.string s, .slice A1 n c1] 24)).alloc (.cells #[.string s, .slice A2 n c2] 24)).drewN q) (fun i _ => n - (intOf i).toNat)
  case atStart => exact ⟨0, 0, Nat.zero_le _, rfl, rfl⟩
  case round =>
    obtain ⟨j, q, hj, rfl, rfl⟩ := hrel
    by_cases hlt : j < n
    · have hj1 : j < L.length := by have := HN.out; omega
      obtain ⟨b1, o1, hA1, hb1, p0, p1, p2⟩ := X1.out.at_ hj1
      obtain ⟨b2, o2, hA2, hb2, q0, q1, q2⟩ := X2.out.at_ hj1
      subst hA1
      subst hA2
      have hx1 : b1 ≠ w.heap.size := by omega
      have hx2 : b2 ≠ w.heap.size := by omega
      have hx3 : b1 ≠ w.heap.size + 1 := by omega
      have hx4 : b2 ≠ w.heap.size + 1 := by omega
      obtain ⟨⟨x0, x1, x2⟩, hx⟩ : ∃ x, L[j] = x := ⟨_, rfl⟩
      rw [hx] at p0 p1 p2 q0 q1 q2
      simp only at p0 p1 p2 q0 q1 q2
      clear hx hj1
      go_wp2
      go_quiet (fail)
      go_wp2
      go_roundw
      case rel => exact ⟨j + 1, _, by omega, by go_num, rfl⟩
      case measure => simp [intOf]; omega
    · go_wp2
      go_ret
      exact ⟨rfl, below_dn B0.out _⟩
end Go.Proofs.Ytbmgfkbgfgknbaa
