/-
  Walks over the document's own answers (package breadboardref06): Valid.
-/
import Derived.Test.YtbmgfkbgfgknbaaDoorOpG
namespace Go.Proofs.YtbmgfkbgfgknbaaDoor
open Go.RowKit
set_option linter.unusedVariables false

theorem neB_4 (r : Int) : neB (atS (rnK 4) r) = neB (nmS 4 r) := by
  by_cases h : 0 ≤ r ∧ r < 9
  · obtain ⟨j, rfl⟩ : ∃ j : Nat, r = j := ⟨r.toNat, by omega⟩
    have hd : ∀ i : Fin 9, neB (atS (rnK 4) ((i.val : Nat) : Int)) = neB (nmS 4 ((i.val : Nat) : Int)) := by decide +kernel
    exact hd ⟨j, by omega⟩
  · unfold nmS
    rw [atS_out _ r (by show r < 0 ∨ (9 : Int) ≤ r; omega), atS_out _ r (by show r < 0 ∨ (9 : Int) ≤ r; omega)]
theorem vld_1 (r n : Int) : vldB 1 r n = (neB (atS (rnK 1) r) && (n == 0)) := by
  have e : vldB 1 r n = (neB (nmS 1 r) && (decide (0 ≤ n) && decide (n ≤ 0))) := rfl
  rw [e]
  congr 1
  rw [Bool.eq_iff_iff]
  simp only [Bool.and_eq_true, decide_eq_true_eq, beq_iff_eq]
  omega
set_option maxRecDepth 100000 in
set_option maxHeartbeats 1000000 in
theorem rvalid_1 (r n : Int) (w : World) :
    Calls Tryd.prog 10 #[.agg #[.int .i64 1, .int .i64 r, .int .i64 n]] w fun e w' => e = .returned (.bool (vldB 1 r n)) ∧ Below w.heap.size w w' := by
  have HR := Lib.hid (rname_any 1 r)
  rw [vld_1]
  obtain ⟨s, hs⟩ : ∃ s, atS (rnK 1) r = s := ⟨_, rfl⟩
  rw [hs] at HR ⊢
  clear hs
  cases hb : s.toList.isEmpty
  all_goals
    have hn : neB s = !s.toList.isEmpty := rfl
    rw [hb] at hn
    rw [hn]
    clear hn
    go_enter Tryd.func10, Tryd.ntmps10
    go_wp2_with fail
    refine (HR.out _).mono ?_
    rintro e w1 ⟨rfl, h1⟩
    have N : Hid (Below w.heap.size w w1) := ((Below.refl _ _).alloc (Nat.le_refl _) _).trans (h1.mono (by simp))
    obtain ⟨hc, -⟩ := bcell h1
    clear h1
    go_wp2
    go_ret
    exact ⟨rfl, N.out⟩
theorem vld_2 (r n : Int) : vldB 2 r n = (neB (atS (rnK 2) r) && (n == 0)) := by
  have e : vldB 2 r n = (neB (nmS 2 r) && (decide (0 ≤ n) && decide (n ≤ 0))) := rfl
  rw [e]
  congr 1
  rw [Bool.eq_iff_iff]
  simp only [Bool.and_eq_true, decide_eq_true_eq, beq_iff_eq]
  omega
set_option maxRecDepth 100000 in
set_option maxHeartbeats 1000000 in
theorem rvalid_2 (r n : Int) (w : World) :
    Calls Tryd.prog 10 #[.agg #[.int .i64 2, .int .i64 r, .int .i64 n]] w fun e w' => e = .returned (.bool (vldB 2 r n)) ∧ Below w.heap.size w w' := by
  have HR := Lib.hid (rname_any 2 r)
  rw [vld_2]
  obtain ⟨s, hs⟩ : ∃ s, atS (rnK 2) r = s := ⟨_, rfl⟩
  rw [hs] at HR ⊢
  clear hs
  cases hb : s.toList.isEmpty
  all_goals
    have hn : neB s = !s.toList.isEmpty := rfl
    rw [hb] at hn
    rw [hn]
    clear hn
    go_enter Tryd.func10, Tryd.ntmps10
    go_wp2_with fail
    refine (HR.out _).mono ?_
    rintro e w1 ⟨rfl, h1⟩
    have N : Hid (Below w.heap.size w w1) := ((Below.refl _ _).alloc (Nat.le_refl _) _).trans (h1.mono (by simp))
    obtain ⟨hc, -⟩ := bcell h1
    clear h1
    go_wp2
    go_ret
    exact ⟨rfl, N.out⟩
theorem vld_3 (r n : Int) : vldB 3 r n = (neB (atS (rnK 3) r) && (n == 0)) := by
  have e : vldB 3 r n = (neB (nmS 3 r) && (decide (0 ≤ n) && decide (n ≤ 0))) := rfl
  rw [e]
  congr 1
  rw [Bool.eq_iff_iff]
  simp only [Bool.and_eq_true, decide_eq_true_eq, beq_iff_eq]
  omega
set_option maxRecDepth 100000 in
set_option maxHeartbeats 1000000 in
theorem rvalid_3 (r n : Int) (w : World) :
    Calls Tryd.prog 10 #[.agg #[.int .i64 3, .int .i64 r, .int .i64 n]] w fun e w' => e = .returned (.bool (vldB 3 r n)) ∧ Below w.heap.size w w' := by
  have HR := Lib.hid (rname_any 3 r)
  rw [vld_3]
  obtain ⟨s, hs⟩ : ∃ s, atS (rnK 3) r = s := ⟨_, rfl⟩
  rw [hs] at HR ⊢
  clear hs
  cases hb : s.toList.isEmpty
  all_goals
    have hn : neB s = !s.toList.isEmpty := rfl
    rw [hb] at hn
    rw [hn]
    clear hn
    go_enter Tryd.func10, Tryd.ntmps10
    go_wp2_with fail
    refine (HR.out _).mono ?_
    rintro e w1 ⟨rfl, h1⟩
    have N : Hid (Below w.heap.size w w1) := ((Below.refl _ _).alloc (Nat.le_refl _) _).trans (h1.mono (by simp))
    obtain ⟨hc, -⟩ := bcell h1
    clear h1
    go_wp2
    go_ret
    exact ⟨rfl, N.out⟩
theorem vld_4 (r n : Int) : vldB 4 r n = (neB (atS (rnK 4) r) && (n == 0)) := by
  have e : vldB 4 r n = (neB (nmS 4 r) && (decide (0 ≤ n) && decide (n ≤ 0))) := rfl
  rw [e, neB_4]
  congr 1
  rw [Bool.eq_iff_iff]
  simp only [Bool.and_eq_true, decide_eq_true_eq, beq_iff_eq]
  omega
set_option maxRecDepth 100000 in
set_option maxHeartbeats 1000000 in
theorem rvalid_4 (r n : Int) (w : World) :
    Calls Tryd.prog 10 #[.agg #[.int .i64 4, .int .i64 r, .int .i64 n]] w fun e w' => e = .returned (.bool (vldB 4 r n)) ∧ Below w.heap.size w w' := by
  have HR := Lib.hid (rname_any 4 r)
  rw [vld_4]
  obtain ⟨s, hs⟩ : ∃ s, atS (rnK 4) r = s := ⟨_, rfl⟩
  rw [hs] at HR ⊢
  clear hs
  cases hb : s.toList.isEmpty
  all_goals
    have hn : neB s = !s.toList.isEmpty := rfl
    rw [hb] at hn
    rw [hn]
    clear hn
    go_enter Tryd.func10, Tryd.ntmps10
    go_wp2_with fail
    refine (HR.out _).mono ?_
    rintro e w1 ⟨rfl, h1⟩
    have N : Hid (Below w.heap.size w w1) := ((Below.refl _ _).alloc (Nat.le_refl _) _).trans (h1.mono (by simp))
    obtain ⟨hc, -⟩ := bcell h1
    clear h1
    go_wp2
    go_ret
    exact ⟨rfl, N.out⟩
theorem vld_8 (r n : Int) : vldB 8 r n = (neB (atS (rnK 8) r) && (n == 0)) := by
  have e : vldB 8 r n = (neB (nmS 8 r) && (decide (0 ≤ n) && decide (n ≤ 0))) := rfl
  rw [e]
  congr 1
  rw [Bool.eq_iff_iff]
  simp only [Bool.and_eq_true, decide_eq_true_eq, beq_iff_eq]
  omega
set_option maxRecDepth 100000 in
set_option maxHeartbeats 1000000 in
theorem rvalid_8 (r n : Int) (w : World) :
    Calls Tryd.prog 10 #[.agg #[.int .i64 8, .int .i64 r, .int .i64 n]] w fun e w' => e = .returned (.bool (vldB 8 r n)) ∧ Below w.heap.size w w' := by
  have HR := Lib.hid (rname_any 8 r)
  rw [vld_8]
  obtain ⟨s, hs⟩ : ∃ s, atS (rnK 8) r = s := ⟨_, rfl⟩
  rw [hs] at HR ⊢
  clear hs
  cases hb : s.toList.isEmpty
  all_goals
    have hn : neB s = !s.toList.isEmpty := rfl
    rw [hb] at hn
    rw [hn]
    clear hn
    go_enter Tryd.func10, Tryd.ntmps10
    go_wp2_with fail
    refine (HR.out _).mono ?_
    rintro e w1 ⟨rfl, h1⟩
    have N : Hid (Below w.heap.size w w1) := ((Below.refl _ _).alloc (Nat.le_refl _) _).trans (h1.mono (by simp))
    obtain ⟨hc, -⟩ := bcell h1
    clear h1
    go_wp2
    go_ret
    exact ⟨rfl, N.out⟩
theorem vld_9 (r n : Int) : vldB 9 r n = (neB (atS (rnK 9) r) && (n == 0)) := by
  have e : vldB 9 r n = (neB (nmS 9 r) && (decide (0 ≤ n) && decide (n ≤ 0))) := rfl
  rw [e]
  congr 1
  rw [Bool.eq_iff_iff]
  simp only [Bool.and_eq_true, decide_eq_true_eq, beq_iff_eq]
  omega
set_option maxRecDepth 100000 in
set_option maxHeartbeats 1000000 in
theorem rvalid_9 (r n : Int) (w : World) :
    Calls Tryd.prog 10 #[.agg #[.int .i64 9, .int .i64 r, .int .i64 n]] w fun e w' => e = .returned (.bool (vldB 9 r n)) ∧ Below w.heap.size w w' := by
  have HR := Lib.hid (rname_any 9 r)
  rw [vld_9]
  obtain ⟨s, hs⟩ : ∃ s, atS (rnK 9) r = s := ⟨_, rfl⟩
  rw [hs] at HR ⊢
  clear hs
  cases hb : s.toList.isEmpty
  all_goals
    have hn : neB s = !s.toList.isEmpty := rfl
    rw [hb] at hn
    rw [hn]
    clear hn
    go_enter Tryd.func10, Tryd.ntmps10
    go_wp2_with fail
    refine (HR.out _).mono ?_
    rintro e w1 ⟨rfl, h1⟩
    have N : Hid (Below w.heap.size w w1) := ((Below.refl _ _).alloc (Nat.le_refl _) _).trans (h1.mono (by simp))
    obtain ⟨hc, -⟩ := bcell h1
    clear h1
    go_wp2
    go_ret
    exact ⟨rfl, N.out⟩
theorem vld_5 (r n : Int) : vldB 5 r n = (neB (atS (rnK 5) r) && (decide (-128 ≤ n) && decide (n ≤ 127))) := rfl
set_option maxRecDepth 100000 in
set_option maxHeartbeats 1000000 in
theorem rvalid_5 (r n : Int) (w : World) :
    Calls Tryd.prog 10 #[.agg #[.int .i64 5, .int .i64 r, .int .i64 n]] w fun e w' => e = .returned (.bool (vldB 5 r n)) ∧ Below w.heap.size w w' := by
  have HR := Lib.hid (rname_any 5 r)
  rw [vld_5]
  obtain ⟨s, hs⟩ : ∃ s, atS (rnK 5) r = s := ⟨_, rfl⟩
  rw [hs] at HR ⊢
  clear hs
  cases hb : s.toList.isEmpty
  · have hn : neB s = !s.toList.isEmpty := rfl
    rw [hb] at hn
    rw [hn]
    clear hn
    by_cases h0 : -128 ≤ n
    · rw [decide_eq_true h0]
      go_enter Tryd.func10, Tryd.ntmps10
      go_wp2_with fail
      refine (HR.out _).mono ?_
      rintro e w1 ⟨rfl, h1⟩
      have N : Hid (Below w.heap.size w w1) := ((Below.refl _ _).alloc (Nat.le_refl _) _).trans (h1.mono (by simp))
      obtain ⟨hc, -⟩ := bcell h1
      clear h1
      go_wp2
      go_ret
      exact ⟨rfl, N.out⟩
    · rw [decide_eq_false h0]
      have h0' : n < -128 := by omega
      go_enter Tryd.func10, Tryd.ntmps10
      go_wp2_with fail
      refine (HR.out _).mono ?_
      rintro e w1 ⟨rfl, h1⟩
      have N : Hid (Below w.heap.size w w1) := ((Below.refl _ _).alloc (Nat.le_refl _) _).trans (h1.mono (by simp))
      obtain ⟨hc, -⟩ := bcell h1
      clear h1
      go_wp2
      go_ret
      exact ⟨rfl, N.out⟩
  · have hn : neB s = !s.toList.isEmpty := rfl
    rw [hb] at hn
    rw [hn]
    clear hn
    go_enter Tryd.func10, Tryd.ntmps10
    go_wp2_with fail
    refine (HR.out _).mono ?_
    rintro e w1 ⟨rfl, h1⟩
    have N : Hid (Below w.heap.size w w1) := ((Below.refl _ _).alloc (Nat.le_refl _) _).trans (h1.mono (by simp))
    obtain ⟨hc, -⟩ := bcell h1
    clear h1
    go_wp2
    go_ret
    exact ⟨rfl, N.out⟩
theorem vld_6 (r n : Int) : vldB 6 r n = ((r == 0) && (decide (-32768 ≤ n) && decide (n ≤ 65535))) := rfl
set_option maxRecDepth 100000 in
set_option maxHeartbeats 1000000 in
theorem rvalid_6 (r n : Int) (w : World) :
    Calls Tryd.prog 10 #[.agg #[.int .i64 6, .int .i64 r, .int .i64 n]] w fun e w' => e = .returned (.bool (vldB 6 r n)) ∧ Below w.heap.size w w' := by
  rw [vld_6]
  by_cases hr : r = 0
  · subst hr
    by_cases h0 : -32768 ≤ n
    · rw [decide_eq_true h0]
      go_enter Tryd.func10, Tryd.ntmps10
      go_wp2
      go_ret
      exact ⟨rfl, (Below.refl _ _).alloc (Nat.le_refl _) _⟩
    · rw [decide_eq_false h0]
      have h0' : n < -32768 := by omega
      go_enter Tryd.func10, Tryd.ntmps10
      go_wp2
      go_ret
      exact ⟨rfl, (Below.refl _ _).alloc (Nat.le_refl _) _⟩
  · have hr' : (r == 0) = false := beq_eq_false_iff_ne.2 hr
    rw [hr']
    clear hr
    go_enter Tryd.func10, Tryd.ntmps10
    go_wp2
    go_ret
    exact ⟨rfl, (Below.refl _ _).alloc (Nat.le_refl _) _⟩
theorem vld_7 (r n : Int) : vldB 7 r n = ((r == 0) && (decide (0 ≤ n) && decide (n ≤ 65535))) := rfl
set_option maxRecDepth 100000 in
set_option maxHeartbeats 1000000 in
theorem rvalid_7 (r n : Int) (w : World) :
    Calls Tryd.prog 10 #[.agg #[.int .i64 7, .int .i64 r, .int .i64 n]] w fun e w' => e = .returned (.bool (vldB 7 r n)) ∧ Below w.heap.size w w' := by
  rw [vld_7]
  by_cases hr : r = 0
  · subst hr
    by_cases h0 : 0 ≤ n
    · rw [decide_eq_true h0]
      go_enter Tryd.func10, Tryd.ntmps10
      go_wp2
      go_ret
      exact ⟨rfl, (Below.refl _ _).alloc (Nat.le_refl _) _⟩
    · rw [decide_eq_false h0]
      have h0' : n < 0 := by omega
      go_enter Tryd.func10, Tryd.ntmps10
      go_wp2
      go_ret
      exact ⟨rfl, (Below.refl _ _).alloc (Nat.le_refl _) _⟩
  · have hr' : (r == 0) = false := beq_eq_false_iff_ne.2 hr
    rw [hr']
    clear hr
    go_enter Tryd.func10, Tryd.ntmps10
    go_wp2
    go_ret
    exact ⟨rfl, (Below.refl _ _).alloc (Nat.le_refl _) _⟩
theorem vld_10 (r n : Int) : vldB 10 r n = ((r == 0) && (decide (-128 ≤ n) && decide (n ≤ 127))) := rfl
set_option maxRecDepth 100000 in
set_option maxHeartbeats 1000000 in
theorem rvalid_10 (r n : Int) (w : World) :
    Calls Tryd.prog 10 #[.agg #[.int .i64 10, .int .i64 r, .int .i64 n]] w fun e w' => e = .returned (.bool (vldB 10 r n)) ∧ Below w.heap.size w w' := by
  rw [vld_10]
  by_cases hr : r = 0
  · subst hr
    by_cases h0 : -128 ≤ n
    · rw [decide_eq_true h0]
      go_enter Tryd.func10, Tryd.ntmps10
      go_wp2
      go_ret
      exact ⟨rfl, (Below.refl _ _).alloc (Nat.le_refl _) _⟩
    · rw [decide_eq_false h0]
      have h0' : n < -128 := by omega
      go_enter Tryd.func10, Tryd.ntmps10
      go_wp2
      go_ret
      exact ⟨rfl, (Below.refl _ _).alloc (Nat.le_refl _) _⟩
  · have hr' : (r == 0) = false := beq_eq_false_iff_ne.2 hr
    rw [hr']
    clear hr
    go_enter Tryd.func10, Tryd.ntmps10
    go_wp2
    go_ret
    exact ⟨rfl, (Below.refl _ _).alloc (Nat.le_refl _) _⟩
theorem vld_no (k r n : Int) (h : k < 1 ∨ 10 < k) : vldB k r n = false := by
  unfold vldB
  by_cases h1 : 1 ≤ k
  · rw [decide_eq_false (show ¬ k ≤ 10 by omega)]; simp
  · rw [decide_eq_false h1]; simp
set_option maxRecDepth 100000 in
set_option maxHeartbeats 1000000 in
theorem rvalid_no (k r n : Int) (h : k < 1 ∨ 10 < k) (w : World) :
    Calls Tryd.prog 10 #[.agg #[.int .i64 k, .int .i64 r, .int .i64 n]] w fun e w' => e = .returned (.bool (vldB k r n)) ∧ Below w.heap.size w w' := by
  rw [vld_no k r n h]
  have h1 : (k == 1) = false := beq_eq_false_iff_ne.2 (by omega)
  have h2 : (k == 2) = false := beq_eq_false_iff_ne.2 (by omega)
  have h3 : (k == 3) = false := beq_eq_false_iff_ne.2 (by omega)
  have h4 : (k == 4) = false := beq_eq_false_iff_ne.2 (by omega)
  have h5 : (k == 5) = false := beq_eq_false_iff_ne.2 (by omega)
  have h6 : (k == 6) = false := beq_eq_false_iff_ne.2 (by omega)
  have h7 : (k == 7) = false := beq_eq_false_iff_ne.2 (by omega)
  have h8 : (k == 8) = false := beq_eq_false_iff_ne.2 (by omega)
  have h9 : (k == 9) = false := beq_eq_false_iff_ne.2 (by omega)
  have h10 : (k == 10) = false := beq_eq_false_iff_ne.2 (by omega)
  clear h
  go_enter Tryd.func10, Tryd.ntmps10
  go_wp2
  go_ret
  exact ⟨rfl, (Below.refl _ _).alloc (Nat.le_refl _) _⟩
theorem rvalid_any (k r n : Int) (w : World) :
    Calls Tryd.prog 10 #[.agg #[.int .i64 k, .int .i64 r, .int .i64 n]] w fun e w' => e = .returned (.bool (vldB k r n)) ∧ Below w.heap.size w w' := by
  by_cases h : 1 ≤ k ∧ k ≤ 10
  · have hc : k = 1 ∨ k = 2 ∨ k = 3 ∨ k = 4 ∨ k = 5 ∨ k = 6 ∨ k = 7 ∨ k = 8 ∨ k = 9 ∨ k = 10 := by omega
    rcases hc with rfl | rfl | rfl | rfl | rfl | rfl | rfl | rfl | rfl | rfl
    · exact rvalid_1 r n w
    · exact rvalid_2 r n w
    · exact rvalid_3 r n w
    · exact rvalid_4 r n w
    · exact rvalid_5 r n w
    · exact rvalid_6 r n w
    · exact rvalid_7 r n w
    · exact rvalid_8 r n w
    · exact rvalid_9 r n w
    · exact rvalid_10 r n w
  · exact rvalid_no k r n (by omega) w
end Go.Proofs.YtbmgfkbgfgknbaaDoor
