/-
  Short instructions.
-/
import Derived.Test.YtbmgfkbgfgknbaaOb
namespace Go.Proofs.Ytbmgfkbgfgknbaa
open Go.RowKit
set_option linter.unusedVariables false

theorem short_any (s : ByteArray) (hs : s.size ≤ maxLen) (A : Option Addr) (cap n : Nat) (hn : n ≤ maxLen) (w : World) :
    Calls Try.prog 5 #[.agg #[.string s, .slice A n cap]] w fun e w' => e = .returned (.bool (decide (s.size ≤ 100) && decide (n ≤ 20))) ∧ Below w.heap.size w w' := by
  unfold maxLen at hs hn
  have B0 : Hid (Below w.heap.size w (w.alloc (.cells #[.string s, .slice A n cap] 24))) := (Below.refl _ _).alloc (Nat.le_refl _) _
  by_cases h1 : s.size ≤ 100
  · by_cases h2 : n ≤ 20
    · have E : Hid (true = (decide (s.size ≤ 100) && decide (n ≤ 20))) := by simp [Hid, h1, h2]
      have g1 : decide ((s.size : Int) ≤ 100) = true := decide_eq_true (by omega)
      have g2 : decide ((n : Int) ≤ 20) = true := decide_eq_true (by omega)
      have g3 : (s.size : Int) ≤ 100 := by omega
      have g4 : (n : Int) ≤ 20 := by omega
      go_enter Try.func5, Try.ntmps5
      go_wp2
      go_ret
      exact ⟨by first | exact ret_bool E.out | rfl, B0.out⟩
    · have E : Hid (false = (decide (s.size ≤ 100) && decide (n ≤ 20))) := by simp [Hid, h2]
      have g1 : decide ((s.size : Int) ≤ 100) = true := decide_eq_true (by omega)
      have g2 : decide ((n : Int) ≤ 20) = false := decide_eq_false (by omega)
      have g3 : (s.size : Int) ≤ 100 := by omega
      have g4 : ¬ (n : Int) ≤ 20 := by omega
      go_enter Try.func5, Try.ntmps5
      go_wp2
      go_ret
      exact ⟨by first | exact ret_bool E.out | rfl, B0.out⟩
  · have E : Hid (false = (decide (s.size ≤ 100) && decide (n ≤ 20))) := by simp [Hid, h1]
    have g1 : decide ((s.size : Int) ≤ 100) = false := decide_eq_false (by omega)
    have g3 : ¬ (s.size : Int) ≤ 100 := by omega
    go_enter Try.func5, Try.ntmps5
    go_wp2
    go_ret
    exact ⟨by first | exact ret_bool E.out | rfl, B0.out⟩
end Go.Proofs.Ytbmgfkbgfgknbaa
