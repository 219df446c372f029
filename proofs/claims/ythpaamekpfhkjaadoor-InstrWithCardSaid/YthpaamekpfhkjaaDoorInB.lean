/-
  Marks and numbers of operands: the walks over mark, hasNumber, and the document's own mark and number.
-/
import Derived.Test.YthpaamekpfhkjaaDoorInA
import Derived.Test.YthpaamekpfhkjaaDoorMixG
namespace Go.Proofs.YthpaamekpfhkjaaDoor
open Go.RowKit
set_option linter.unusedVariables false

/-- The mark of an operand. -/
def mrkS (k r n : Int) : ByteArray :=
  if k = 5 then (if r = 5 then ⟨#[40, 73, 88, 43, 100, 41]⟩ else ⟨#[40, 73, 89, 43, 100, 41]⟩) else if k = 6 then ⟨#[110]⟩ else if k = 7 then ⟨#[40, 110, 41]⟩ else if k = 10 then ⟨#[101]⟩ else txtS k r n
def nbB (k : Int) : Bool := decide (k = 5) || decide (k = 6) || decide (k = 7) || decide (k = 10)
theorem mrk_5a (k r n : Int) (h : k = 5) (h1 : r = 5) : mrkS k r n = ⟨#[40, 73, 88, 43, 100, 41]⟩ := by unfold mrkS; rw [if_pos h, if_pos h1]
theorem mrk_5b (k r n : Int) (h : k = 5) (h1 : ¬ r = 5) : mrkS k r n = ⟨#[40, 73, 89, 43, 100, 41]⟩ := by unfold mrkS; rw [if_pos h, if_neg h1]
theorem mrk_6 (r n : Int) : mrkS 6 r n = ⟨#[110]⟩ := rfl
theorem mrk_7 (r n : Int) : mrkS 7 r n = ⟨#[40, 110, 41]⟩ := rfl
theorem mrk_10 (r n : Int) : mrkS 10 r n = ⟨#[101]⟩ := rfl
theorem mrk_o (k r n : Int) (h5 : ¬ k = 5) (h6 : ¬ k = 6) (h7 : ¬ k = 7) (h10 : ¬ k = 10) : mrkS k r n = txtS k r n := by unfold mrkS; rw [if_neg h5, if_neg h6, if_neg h7, if_neg h10]
set_option maxHeartbeats 1000000 in
theorem mark_any (k r n : Int) (w : World) :
    Calls Tryd.prog 31 #[.agg #[.int .i64 k, .int .i64 r, .int .i64 n]] w fun e w' => e = .returned (.string (mrkS k r n)) ∧ Below w.heap.size w w' := by
  have hb : Below w.heap.size w (w.alloc (.cells #[.int .i64 k, .int .i64 r, .int .i64 n] 36)) := (Below.refl _ _).alloc (Nat.le_refl _) _
  have HB := Lib.hid hb
  clear hb
  have TX := Lib.hid (otext_any k r n)
  by_cases h6 : k = 6
  · have HE := Lib.hid (mrk_6 r n)
    subst h6
    go_enter Tryd.func31, Tryd.ntmps31
    go_wp2
    go_ret
    exact ⟨ret_str HE.out.symm, HB.out⟩
  by_cases h7 : k = 7
  · have HE := Lib.hid (mrk_7 r n)
    subst h7
    clear h6
    go_enter Tryd.func31, Tryd.ntmps31
    go_wp2
    go_ret
    exact ⟨ret_str HE.out.symm, HB.out⟩
  by_cases h10 : k = 10
  · have HE := Lib.hid (mrk_10 r n)
    subst h10
    clear h6 h7
    go_enter Tryd.func31, Tryd.ntmps31
    go_wp2
    go_ret
    exact ⟨ret_str HE.out.symm, HB.out⟩
  by_cases h5 : k = 5
  · by_cases hr : r = 5
    · have HE := Lib.hid (mrk_5a k r n h5 hr)
      subst h5 hr
      go_enter Tryd.func31, Tryd.ntmps31
      go_wp2
      go_ret
      exact ⟨ret_str HE.out.symm, HB.out⟩
    · have HE := Lib.hid (mrk_5b k r n h5 hr)
      subst h5
      go_enter Tryd.func31, Tryd.ntmps31
      go_wp2
      go_ret
      exact ⟨ret_str HE.out.symm, HB.out⟩
  · have HE := Lib.hid (mrk_o k r n h5 h6 h7 h10)
    go_enter Tryd.func31, Tryd.ntmps31
    go_wp2_with fail
    refine (TX.out _).mono ?_
    rintro e w1 ⟨rfl, h1⟩
    have B1 := Lib.hid (HB.out.trans (h1.mono (by simp)))
    clear h1
    go_wp2
    go_ret
    exact ⟨ret_str HE.out.symm, B1.out⟩
set_option maxHeartbeats 1000000 in
theorem rmark_any (k r n : Int) (w : World) :
    Calls Tryd.prog 32 #[.agg #[.int .i64 k, .int .i64 r, .int .i64 n]] w fun e w' => e = .returned (.string (mrkS k r n)) ∧ Below w.heap.size w w' := by
  have hb : Below w.heap.size w (w.alloc (.cells #[.int .i64 k, .int .i64 r, .int .i64 n] 36)) := (Below.refl _ _).alloc (Nat.le_refl _) _
  have HB := Lib.hid hb
  clear hb
  have TX := Lib.hid (rtxt_any k r n)
  by_cases h5 : k = 5
  · by_cases hr : r = 5
    · have HE := Lib.hid (mrk_5a k r n h5 hr)
      subst h5 hr
      go_enter Tryd.func32, Tryd.ntmps32
      go_wp2
      go_ret
      exact ⟨ret_str HE.out.symm, HB.out⟩
    · have HE := Lib.hid (mrk_5b k r n h5 hr)
      subst h5
      go_enter Tryd.func32, Tryd.ntmps32
      go_wp2
      go_ret
      exact ⟨ret_str HE.out.symm, HB.out⟩
  by_cases h6 : k = 6
  · have HE := Lib.hid (mrk_6 r n)
    subst h6
    clear h5
    go_enter Tryd.func32, Tryd.ntmps32
    go_wp2
    go_ret
    exact ⟨ret_str HE.out.symm, HB.out⟩
  by_cases h7 : k = 7
  · have HE := Lib.hid (mrk_7 r n)
    subst h7
    clear h6 h5
    go_enter Tryd.func32, Tryd.ntmps32
    go_wp2
    go_ret
    exact ⟨ret_str HE.out.symm, HB.out⟩
  by_cases h10 : k = 10
  · have HE := Lib.hid (mrk_10 r n)
    subst h10
    clear h6 h7 h5
    go_enter Tryd.func32, Tryd.ntmps32
    go_wp2
    go_ret
    exact ⟨ret_str HE.out.symm, HB.out⟩
  · have HE := Lib.hid (mrk_o k r n h5 h6 h7 h10)
    go_enter Tryd.func32, Tryd.ntmps32
    go_wp2_with fail
    refine (TX.out _).mono ?_
    rintro e w1 ⟨rfl, h1⟩
    have B1 := Lib.hid (HB.out.trans (h1.mono (by simp)))
    clear h1
    go_wp2
    go_ret
    exact ⟨ret_str HE.out.symm, B1.out⟩
set_option maxHeartbeats 1000000 in
theorem hasNumber_any (k r n : Int) (w : World) :
    Calls Tryd.prog 33 #[.agg #[.int .i64 k, .int .i64 r, .int .i64 n]] w fun e w' => e = .returned (.bool (nbB k)) ∧ Below w.heap.size w w' := by
  have hb : Below w.heap.size w (w.alloc (.cells #[.int .i64 k, .int .i64 r, .int .i64 n] 36)) := (Below.refl _ _).alloc (Nat.le_refl _) _
  have HB := Lib.hid hb
  clear hb
  by_cases h : k = 5 ∨ k = 6 ∨ k = 7 ∨ k = 10
  · have HE : Hid (true = nbB k) := by unfold nbB Hid; rcases h with rfl | rfl | rfl | rfl <;> rfl
    rcases h with rfl | rfl | rfl | rfl
    all_goals
      go_enter Tryd.func33, Tryd.ntmps33
      go_wp2
      go_ret
      exact ⟨ret_bool HE.out, HB.out⟩
  · have h5 : ¬ k = 5 := by omega
    have h6 : ¬ k = 6 := by omega
    have h7 : ¬ k = 7 := by omega
    have h10 : ¬ k = 10 := by omega
    have HE : Hid (false = nbB k) := by unfold nbB Hid; rw [decide_eq_false h5, decide_eq_false h6, decide_eq_false h7, decide_eq_false h10]; rfl
    clear h
    go_enter Tryd.func33, Tryd.ntmps33
    go_wp2
    go_ret
    exact ⟨ret_bool HE.out, HB.out⟩
set_option maxHeartbeats 1000000 in
theorem rnumber_any (k r n : Int) (w : World) :
    Calls Tryd.prog 34 #[.agg #[.int .i64 k, .int .i64 r, .int .i64 n]] w fun e w' => e = .returned (.bool (nbB k)) ∧ Below w.heap.size w w' := by
  have hb : Below w.heap.size w (w.alloc (.cells #[.int .i64 k, .int .i64 r, .int .i64 n] 36)) := (Below.refl _ _).alloc (Nat.le_refl _) _
  have HB := Lib.hid hb
  clear hb
  by_cases h : k = 5 ∨ k = 6 ∨ k = 7 ∨ k = 10
  · have HE : Hid (true = nbB k) := by unfold nbB Hid; rcases h with rfl | rfl | rfl | rfl <;> rfl
    rcases h with rfl | rfl | rfl | rfl
    all_goals
      go_enter Tryd.func34, Tryd.ntmps34
      go_wp2
      go_ret
      exact ⟨ret_bool HE.out, HB.out⟩
  · have h5 : ¬ k = 5 := by omega
    have h6 : ¬ k = 6 := by omega
    have h7 : ¬ k = 7 := by omega
    have h10 : ¬ k = 10 := by omega
    have HE : Hid ((k == 5 || k == 6 || k == 7 || k == 10) = nbB k) := rfl
    clear h
    go_enter Tryd.func34, Tryd.ntmps34
    go_wp2
    go_ret
    exact ⟨ret_bool HE.out, HB.out⟩
end Go.Proofs.YthpaamekpfhkjaaDoor
