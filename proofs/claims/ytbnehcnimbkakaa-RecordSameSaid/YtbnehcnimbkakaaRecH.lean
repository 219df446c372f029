/-
  The walks over record.isRight and breadboardref03.Right: for every record, whether it is right; nothing that was there is changed.
-/
import Derived.Test.YtbnehcnimbkakaaRecG
namespace Go.Proofs.Ytbnehcnimbkakaa
open Go.RowKit
set_option linter.unusedVariables false

/-- Is a record right? -/
def rightB (T a : Int) (n : Nat) : Bool := decide (0 ≤ T ∧ T ≤ 255 ∧ 0 ≤ a ∧ a ≤ 65535 ∧ n ≤ 255)
theorem fits1 (lo hi n : Int) : fitsB lo hi [n] = decide (lo ≤ n ∧ n ≤ hi) := by
  unfold fitsB; by_cases h1 : lo ≤ n <;> by_cases h2 : n ≤ hi <;> simp [h1, h2]
theorem ints_one' (w : World) (n : Nat) (hn : w.heap.size = n) (x : Int) (t : TypeId) : IntsAt (w.alloc (.cells #[.int .i64 x] t)) (some ⟨n, 0, none⟩) [x] := by
  subst hn
  exact ints_one w x t
set_option maxHeartbeats 1000000 in
theorem isRight_any (T a : Int) (A : Option Addr) (len cap : Nat) (hl : len ≤ maxLen) (w : World) :
    Calls Try.prog 26 #[.agg #[.int .i64 T, .int .i64 a, .slice A len cap]] w fun e w' => e = .returned (.bool (rightB T a len)) ∧ Below w.heap.size w w' := by
  unfold maxLen at hl
  by_cases hT : 0 ≤ T ∧ T ≤ 255
  · have fT : fitsB 0 255 [T] = true := by rw [fits1]; exact decide_eq_true hT
    by_cases ha : 0 ≤ a ∧ a ≤ 65535
    · have fa : fitsB 0 65535 [a] = true := by rw [fits1]; exact decide_eq_true ha
      have N : Hid (decide ((len : Int) ≤ 255) = rightB T a len) := by
        show _ = _
        unfold rightB
        exact decide_eq_decide.2 (by omega)
      clear hT ha
      go_enter Try.func26, Try.ntmps26
      go_wp2_with fail
      refine (fits_any 0 255 _ _ [T] (by simp [maxLen]) _ (ints_one' _ _ (by simp) _ _)).mono ?_
      rintro e w' ⟨rfl, rfl⟩
      go_wp2_with fail
      refine (fits_any 0 65535 _ _ [a] (by simp [maxLen]) _ (ints_one' _ _ (by simp) _ _)).mono ?_
      rintro e w' ⟨rfl, rfl⟩
      go_wp2
      go_ret
      exact ⟨ret_bool N.out, (((Below.refl _ _).alloc (Nat.le_refl _) _).alloc (by simp) _).alloc (by simp; omega) _⟩
    · have fa : fitsB 0 65535 [a] = false := by rw [fits1]; exact decide_eq_false ha
      have N : Hid (false = rightB T a len) := by
        show _ = _
        unfold rightB
        exact (decide_eq_false (by omega)).symm
      clear hT ha
      go_enter Try.func26, Try.ntmps26
      go_wp2_with fail
      refine (fits_any 0 255 _ _ [T] (by simp [maxLen]) _ (ints_one' _ _ (by simp) _ _)).mono ?_
      rintro e w' ⟨rfl, rfl⟩
      go_wp2_with fail
      refine (fits_any 0 65535 _ _ [a] (by simp [maxLen]) _ (ints_one' _ _ (by simp) _ _)).mono ?_
      rintro e w' ⟨rfl, rfl⟩
      go_wp2
      go_ret
      exact ⟨ret_bool N.out, (((Below.refl _ _).alloc (Nat.le_refl _) _).alloc (by simp) _).alloc (by simp; omega) _⟩
  · have fT : fitsB 0 255 [T] = false := by rw [fits1]; exact decide_eq_false hT
    have N : Hid (false = rightB T a len) := by
      show _ = _
      unfold rightB
      exact (decide_eq_false (by omega)).symm
    clear hT
    go_enter Try.func26, Try.ntmps26
    go_wp2_with fail
    refine (fits_any 0 255 _ _ [T] (by simp [maxLen]) _ (ints_one' _ _ (by simp) _ _)).mono ?_
    rintro e w' ⟨rfl, rfl⟩
    go_wp2
    go_ret
    exact ⟨ret_bool N.out, ((Below.refl _ _).alloc (Nat.le_refl _) _).alloc (by simp) _⟩
set_option maxHeartbeats 1000000 in
theorem rright_any (T a : Int) (A : Option Addr) (len cap : Nat) (hl : len ≤ maxLen) (w : World) :
    Calls Try.prog 33 #[.agg #[.int .i64 T, .int .i64 a, .slice A len cap]] w fun e w' => e = .returned (.bool (rightB T a len)) ∧ Below w.heap.size w w' := by
  unfold maxLen at hl
  by_cases h1 : 0 ≤ T
  case neg =>
    have N : Hid (false = rightB T a len) := by show _ = _; unfold rightB; exact (decide_eq_false (by omega)).symm
    have h1' : decide (0 ≤ T) = false := decide_eq_false h1
    clear h1
    go_enter Try.func33, Try.ntmps33
    go_wp2
    go_ret
    exact ⟨ret_bool N.out, (Below.refl _ _).alloc (Nat.le_refl _) _⟩
  by_cases h2 : T ≤ 255
  case neg =>
    have N : Hid (false = rightB T a len) := by show _ = _; unfold rightB; exact (decide_eq_false (by omega)).symm
    have h2' : decide (T ≤ 255) = false := decide_eq_false h2
    clear h2
    go_enter Try.func33, Try.ntmps33
    go_wp2
    go_ret
    exact ⟨ret_bool N.out, (Below.refl _ _).alloc (Nat.le_refl _) _⟩
  by_cases h3 : 0 ≤ a
  case neg =>
    have N : Hid (false = rightB T a len) := by show _ = _; unfold rightB; exact (decide_eq_false (by omega)).symm
    have h3' : decide (0 ≤ a) = false := decide_eq_false h3
    clear h3
    go_enter Try.func33, Try.ntmps33
    go_wp2
    go_ret
    exact ⟨ret_bool N.out, (Below.refl _ _).alloc (Nat.le_refl _) _⟩
  by_cases h4 : a ≤ 65535
  case neg =>
    have N : Hid (false = rightB T a len) := by show _ = _; unfold rightB; exact (decide_eq_false (by omega)).symm
    have h4' : decide (a ≤ 65535) = false := decide_eq_false h4
    clear h4
    go_enter Try.func33, Try.ntmps33
    go_wp2
    go_ret
    exact ⟨ret_bool N.out, (Below.refl _ _).alloc (Nat.le_refl _) _⟩
  have N : Hid (decide ((len : Int) ≤ 255) = rightB T a len) := by show _ = _; unfold rightB; exact decide_eq_decide.2 (by omega)
  go_enter Try.func33, Try.ntmps33
  go_wp2
  go_ret
  exact ⟨ret_bool N.out, (Below.refl _ _).alloc (Nat.le_refl _) _⟩
end Go.Proofs.Ytbnehcnimbkakaa
