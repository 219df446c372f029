/-
  Walks over operand.Index and the document's own Index.
-/
import Derived.Test.YtbcbhdhhinopaaaDoorOpI
namespace Go.Proofs.YtbcbhdhhinopaaaDoor
open Go.RowKit
set_option linter.unusedVariables false

def inP (a h l k r n : Int) : Prop := (k = 3 ∧ r = a ∧ n = 0) ∨ (k = 4 ∧ r = a ∧ n = 0) ∨ (k = 5 ∧ r = a) ∨ (k = 2 ∧ r = h ∧ n = 0) ∨ (k = 2 ∧ r = l ∧ n = 0)
instance (a h l k r n : Int) : Decidable (inP a h l k r n) := by unfold inP; infer_instance
def inB (a h l k r n : Int) : Bool := decide (inP a h l k r n)
set_option maxRecDepth 100000 in
set_option maxHeartbeats 1000000 in
theorem isIn_any (a h l k r n : Int) (w : World) :
    Calls Tryd.prog 40 #[.agg #[.int .i64 a, .int .i64 h, .int .i64 l], .agg #[.int .i64 k, .int .i64 r, .int .i64 n]] w fun e w' => e = .returned (.bool (inB a h l k r n)) ∧ Below w.heap.size w w' := by
  go_enter Tryd.func40, Tryd.ntmps40
  go_wp2
  all_goals
    go_ret
    exact ⟨ret_bool (by unfold inB; first | exact (decide_eq_true (by unfold inP; omega)).symm | exact (decide_eq_false (by unfold inP; omega)).symm), ((Below.refl _ _).alloc (Nat.le_refl _) _).alloc (by simp) _⟩
/-- The index register of an operand, or 0. -/
def idxI (k r n : Int) : Int := if vldB k r n then (if inB 5 0 1 k r n then 5 else if inB 6 2 3 k r n then 6 else 0) else 0
theorem idx_no (k r n : Int) (h : vldB k r n = false) : idxI k r n = 0 := by unfold idxI; rw [h]; rfl
theorem idx_a (k r n : Int) (h : vldB k r n = true) (h1 : inB 5 0 1 k r n = true) : idxI k r n = 5 := by unfold idxI; rw [h, h1]; rfl
theorem idx_b (k r n : Int) (h : vldB k r n = true) (h1 : inB 5 0 1 k r n = false) (h2 : inB 6 2 3 k r n = true) : idxI k r n = 6 := by unfold idxI; rw [h, h1, h2]; rfl
theorem idx_c (k r n : Int) (h : vldB k r n = true) (h1 : inB 5 0 1 k r n = false) (h2 : inB 6 2 3 k r n = false) : idxI k r n = 0 := by unfold idxI; rw [h, h1, h2]; rfl
/-- A box that holds an operand. -/
def Box (w : World) (b : Nat) (k r n : Int) : Prop := w.cell? ⟨b, 0, none⟩ = some (.int .i64 k) ∧ w.cell? ⟨b, 1, none⟩ = some (.int .i64 r) ∧ w.cell? ⟨b, 2, none⟩ = some (.int .i64 n)
theorem Box.below {w w' : World} {b : Nat} {k r n : Int} (h : Box w b k r n) (hb : Below w.heap.size w w') : Box w' b k r n :=
  ⟨(hb.cell (World.block_lt_of_cell? w _ h.1)).trans h.1, (hb.cell (World.block_lt_of_cell? w _ h.2.1)).trans h.2.1, (hb.cell (World.block_lt_of_cell? w _ h.2.2)).trans h.2.2⟩
theorem Box.new (w : World) (k r n : Int) (t : TypeId) : Box (w.alloc (.cells #[.int .i64 k, .int .i64 r, .int .i64 n] t)) w.heap.size k r n := ⟨by simp [go_sem], by simp [go_sem], by simp [go_sem]⟩
theorem Box.lt {w : World} {b : Nat} {k r n : Int} (h : Box w b k r n) : b < w.heap.size := World.block_lt_of_cell? w _ h.1
set_option maxRecDepth 100000 in
set_option maxHeartbeats 1000000 in
theorem index_no (k r n : Int) (h : vldB k r n = false) (w : World) :
    Calls Tryd.prog 25 #[.agg #[.int .i64 k, .int .i64 r, .int .i64 n]] w fun e w' => e = .returned (.int .i64 (idxI k r n)) ∧ Below w.heap.size w w' := by
  have HV := Lib.hid (valid_any k r n)
  rw [h] at HV
  rw [idx_no k r n h]
  clear h
  go_enter Tryd.func25, Tryd.ntmps25
  go_wp2_with fail
  refine (HV.out _).mono ?_
  rintro e w1 ⟨rfl, h1⟩
  have N : Hid (Below w.heap.size w w1) := ((Below.refl _ _).alloc (Nat.le_refl _) _).trans (h1.mono (by simp))
  clear h1
  go_wp2
  go_ret
  exact ⟨rfl, N.out⟩
set_option maxRecDepth 100000 in
set_option maxHeartbeats 2000000 in
theorem index_yes (k r n : Int) (h : vldB k r n = true) (w : World) :
    Calls Tryd.prog 25 #[.agg #[.int .i64 k, .int .i64 r, .int .i64 n]] w fun e w' => e = .returned (.int .i64 (idxI k r n)) ∧ Below w.heap.size w w' := by
  have HV := Lib.hid (valid_any k r n)
  have HA := Lib.hid (idx_a k r n h)
  have HB := Lib.hid (idx_b k r n h)
  have HC := Lib.hid (idx_c k r n h)
  rw [h] at HV
  clear h
  go_enter Tryd.func25, Tryd.ntmps25
  go_wp2_with fail
  refine (HV.out _).mono ?_
  rintro e w1 ⟨rfl, h1⟩
  have N : Hid (Below w.heap.size w w1) := ((Below.refl _ _).alloc (Nat.le_refl _) _).trans (h1.mono (by simp))
  have B : Hid (Box w1 w.heap.size k r n) := (Box.new w k r n _).below h1
  clear h1
  go_wp2
  go_loopw [11] (fun i wr => ∃ j : Int, (j = 0 ∨ j = 1 ∨ j = 2) ∧ i = .int .i64 j ∧ Below w.heap.size w wr ∧ Box wr w.heap.size k r n ∧ (0 < j → inB 5 0 1 k r n = false) ∧ (1 < j → inB 6 2 3 k r n = false)) (fun i _ => 2 - (intOf i).toNat)
  case atStart => exact ⟨0, .inl rfl, rfl, N.out, B.out, fun h => by omega, fun h => by omega⟩
  case round =>
    obtain ⟨j, hj, rfl, hN, hB, hi1, hi2⟩ := hrel
    have NR := Lib.hid hN
    have BR := Lib.hid hB
    obtain ⟨b0, b1, b2⟩ := hB
    have I1 := Lib.hid hi1
    have I2 := Lib.hid hi2
    have zl := BR.out.lt
    clear hN hi1 hi2
    have hx0 : ∀ w, (Instr.index 62 (.agg #[.int .i64 5, .int .i64 0, .int .i64 1, .int .i64 6, .int .i64 2, .int .i64 3]) (.int .i64 0)).run Tryd.prog w = .ok (.agg #[.int .i64 5, .int .i64 0, .int .i64 1]) w := fun _ => by kernel_rfl
    have hx1 : ∀ w, (Instr.index 62 (.agg #[.int .i64 5, .int .i64 0, .int .i64 1, .int .i64 6, .int .i64 2, .int .i64 3]) (.int .i64 1)).run Tryd.prog w = .ok (.agg #[.int .i64 6, .int .i64 2, .int .i64 3]) w := fun _ => by kernel_rfl
    rcases hj with rfl | rfl | rfl
    · have M : ∀ o, Below w.heap.size w (wr.alloc o) := fun o => NR.out.alloc NR.out.size _
      have MB : ∀ o, Box (wr.alloc o) w.heap.size k r n := fun o => BR.out.below ((Below.refl _ _).alloc (Nat.le_refl _) _)
      have HM := Lib.hid M
      have HMB := Lib.hid MB
      clear M MB
      go_wp2_with fail
      refine (isIn_any 5 0 1 k r n _).mono ?_
      rintro e w2 ⟨rfl, h2⟩
      have N2 : Hid (Below w.heap.size w w2) := (HM.out _).trans (h2.mono (by simp; have := NR.out.size; omega))
      have B2 : Hid (Box w2 w.heap.size k r n) := (HMB.out _).below h2
      obtain ⟨hc, -⟩ := bcell h2
      clear h2
      cases hq : inB 5 0 1 k r n
      · go_wp2
        go_roundw
        case rel => exact ⟨1, .inr (.inl rfl), rfl, N2.out, B2.out, fun _ => hq, fun h => by omega⟩
        case measure => simp [intOf]
      · have T := Lib.hid (HA.out hq)
        clear hq
        go_wp2
        go_ret
        exact ⟨ret_int T.out.symm, N2.out⟩
    · have M : ∀ o, Below w.heap.size w (wr.alloc o) := fun o => NR.out.alloc NR.out.size _
      have MB : ∀ o, Box (wr.alloc o) w.heap.size k r n := fun o => BR.out.below ((Below.refl _ _).alloc (Nat.le_refl _) _)
      have HM := Lib.hid M
      have HMB := Lib.hid MB
      clear M MB
      go_wp2_with fail
      refine (isIn_any 6 2 3 k r n _).mono ?_
      rintro e w2 ⟨rfl, h2⟩
      have N2 : Hid (Below w.heap.size w w2) := (HM.out _).trans (h2.mono (by simp; have := NR.out.size; omega))
      have B2 : Hid (Box w2 w.heap.size k r n) := (HMB.out _).below h2
      obtain ⟨hc, -⟩ := bcell h2
      clear h2
      cases hq : inB 6 2 3 k r n
      · have HQ := Lib.hid hq
        clear hq
        go_wp2
        go_roundw
        case rel => exact ⟨2, .inr (.inr rfl), rfl, N2.out, B2.out, fun _ => I1.out (by omega), fun _ => HQ.out⟩
        case measure => simp [intOf]
      · have T := Lib.hid (HB.out (I1.out (by omega)) hq)
        clear hq
        go_wp2
        go_ret
        exact ⟨ret_int T.out.symm, N2.out⟩
    · have T := Lib.hid (HC.out (I1.out (by omega)) (I2.out (by omega)))
      go_wp2
      go_ret
      exact ⟨ret_int T.out.symm, NR.out⟩
theorem index_any (k r n : Int) (w : World) :
    Calls Tryd.prog 25 #[.agg #[.int .i64 k, .int .i64 r, .int .i64 n]] w fun e w' => e = .returned (.int .i64 (idxI k r n)) ∧ Below w.heap.size w w' := by
  cases h : vldB k r n
  · exact index_no k r n h w
  · exact index_yes k r n h w

theorem vld_num (k r n : Int) (h : vldB k r n = true) (hk : k = 2 ∨ k = 3 ∨ k = 4) : n = 0 := by
  rcases hk with rfl | rfl | rfl
  · rw [vld_2, Bool.and_eq_true] at h; simpa using h.2
  · rw [vld_3, Bool.and_eq_true] at h; simpa using h.2
  · rw [vld_4, Bool.and_eq_true] at h; simpa using h.2
theorem vld_half (r n : Int) (h : vldB 2 r n = true) : r = 0 ∨ r = 1 ∨ r = 2 ∨ r = 3 := by
  rw [vld_2, Bool.and_eq_true] at h
  by_cases hr : 0 ≤ r ∧ r < 4
  · omega
  · have h1 := h.1
    rw [atS_out _ r (by show r < 0 ∨ (4 : Int) ≤ r; omega), neB_nil] at h1
    cases h1
theorem inB_true {a h l k r n : Int} (hp : inP a h l k r n) : inB a h l k r n = true := decide_eq_true hp
theorem inB_false {a h l k r n : Int} (hp : ¬ inP a h l k r n) : inB a h l k r n = false := decide_eq_false hp
set_option maxRecDepth 100000 in
set_option maxHeartbeats 2000000 in
theorem rindex_any (k r n : Int) (w : World) :
    Calls Tryd.prog 26 #[.agg #[.int .i64 k, .int .i64 r, .int .i64 n]] w fun e w' => e = .returned (.int .i64 (idxI k r n)) ∧ Below w.heap.size w w' := by
  have HV := Lib.hid (rvalid_any k r n)
  cases h : vldB k r n
  · rw [h] at HV
    rw [idx_no k r n h]
    clear h
    go_enter Tryd.func26, Tryd.ntmps26
    go_wp2_with fail
    refine (HV.out _).mono ?_
    rintro e w1 ⟨rfl, h1⟩
    have N : Hid (Below w.heap.size w w1) := ((Below.refl _ _).alloc (Nat.le_refl _) _).trans (h1.mono (by simp))
    clear h1
    go_wp2
    go_ret
    exact ⟨rfl, N.out⟩
  · have HA := Lib.hid (idx_a k r n h)
    have HB := Lib.hid (idx_b k r n h)
    have HC := Lib.hid (idx_c k r n h)
    have HN := Lib.hid (vld_num k r n h)
    have HH : Hid (k = 2 → r = 0 ∨ r = 1 ∨ r = 2 ∨ r = 3) := fun hk => by subst hk; exact vld_half r n h
    rw [h] at HV
    clear h
    have ent : k = 2 ∨ (k ≠ 2 ∧ (k = 3 ∨ k = 4 ∨ k = 5)) ∨ (k ≠ 2 ∧ k ≠ 3 ∧ k ≠ 4 ∧ k ≠ 5) := by omega
    rcases ent with rfl | ⟨hk2, hk⟩ | ⟨hk2, hk3, hk4, hk5⟩
    · have hn := HN.out (by omega)
      have hr := HH.out rfl
      have T : Hid (5 + r / 2 = idxI 2 r n) := by
        rcases hr with rfl | rfl | rfl | rfl
        · exact (HA.out (inB_true (by unfold inP; omega))).symm
        · exact (HA.out (inB_true (by unfold inP; omega))).symm
        · exact (HB.out (inB_false (by unfold inP; omega)) (inB_true (by unfold inP; omega))).symm
        · exact (HB.out (inB_false (by unfold inP; omega)) (inB_true (by unfold inP; omega))).symm
      have r0 : 0 ≤ r := by omega
      have r1 : r ≤ 3 := by omega
      clear hn hr
      go_enter Tryd.func26, Tryd.ntmps26
      go_wp2_with fail
      refine (HV.out _).mono ?_
      rintro e w1 ⟨rfl, h1⟩
      have N : Hid (Below w.heap.size w w1) := ((Below.refl _ _).alloc (Nat.le_refl _) _).trans (h1.mono (by simp))
      obtain ⟨hc, -⟩ := bcell h1
      clear h1
      go_wp2
      go_ret
      exact ⟨ret_int T.out, N.out⟩
    · have T5 : Hid (r = 5 → 5 = idxI k r n) := fun hr => (HA.out (inB_true (by have := HN.out; unfold inP; omega))).symm
      have T6 : Hid (r = 6 → 6 = idxI k r n) := fun hr => (HB.out (inB_false (by unfold inP; omega)) (inB_true (by have := HN.out; unfold inP; omega))).symm
      have T0 : Hid (r ≠ 5 → r ≠ 6 → 0 = idxI k r n) := fun h5 h6 => (HC.out (inB_false (by unfold inP; omega)) (inB_false (by unfold inP; omega))).symm
      clear hk2
      by_cases h5 : r = 5
      · have T := Lib.hid (T5.out h5)
        subst h5
        rcases hk with rfl | rfl | rfl
        all_goals
          go_enter Tryd.func26, Tryd.ntmps26
          go_wp2_with fail
          refine (HV.out _).mono ?_
          rintro e w1 ⟨rfl, h1⟩
          have N : Hid (Below w.heap.size w w1) := ((Below.refl _ _).alloc (Nat.le_refl _) _).trans (h1.mono (by simp))
          obtain ⟨hc, -⟩ := bcell h1
          clear h1
          go_wp2
          go_ret
          exact ⟨ret_int T.out, N.out⟩
      · by_cases h6 : r = 6
        · have T := Lib.hid (T6.out h6)
          subst h6
          rcases hk with rfl | rfl | rfl
          all_goals
            go_enter Tryd.func26, Tryd.ntmps26
            go_wp2_with fail
            refine (HV.out _).mono ?_
            rintro e w1 ⟨rfl, h1⟩
            have N : Hid (Below w.heap.size w w1) := ((Below.refl _ _).alloc (Nat.le_refl _) _).trans (h1.mono (by simp))
            obtain ⟨hc, -⟩ := bcell h1
            clear h1
            go_wp2
            go_ret
            exact ⟨ret_int T.out, N.out⟩
        · have T := Lib.hid (T0.out h5 h6)
          have h5' : (r == 5) = false := beq_eq_false_iff_ne.2 h5
          have h6' : (r == 6) = false := beq_eq_false_iff_ne.2 h6
          clear h5 h6
          rcases hk with rfl | rfl | rfl
          all_goals
            go_enter Tryd.func26, Tryd.ntmps26
            go_wp2_with fail
            refine (HV.out _).mono ?_
            rintro e w1 ⟨rfl, h1⟩
            have N : Hid (Below w.heap.size w w1) := ((Below.refl _ _).alloc (Nat.le_refl _) _).trans (h1.mono (by simp))
            obtain ⟨hc, -⟩ := bcell h1
            clear h1
            go_wp2
            go_ret
            exact ⟨ret_int T.out, N.out⟩
    · have T : Hid (0 = idxI k r n) := (HC.out (inB_false (by unfold inP; omega)) (inB_false (by unfold inP; omega))).symm
      have g2 : (k == 2) = false := beq_eq_false_iff_ne.2 hk2
      have g3 : (k == 3) = false := beq_eq_false_iff_ne.2 hk3
      have g4 : (k == 4) = false := beq_eq_false_iff_ne.2 hk4
      have g5 : (k == 5) = false := beq_eq_false_iff_ne.2 hk5
      clear hk2 hk3 hk4 hk5
      go_enter Tryd.func26, Tryd.ntmps26
      go_wp2_with fail
      refine (HV.out _).mono ?_
      rintro e w1 ⟨rfl, h1⟩
      have N : Hid (Below w.heap.size w w1) := ((Below.refl _ _).alloc (Nat.le_refl _) _).trans (h1.mono (by simp))
      obtain ⟨hc, -⟩ := bcell h1
      clear h1
      go_wp2
      go_ret
      exact ⟨ret_int T.out, N.out⟩
theorem idx_in (k r n : Int) : idxI k r n = 0 ∨ idxI k r n = 5 ∨ idxI k r n = 6 := by
  unfold idxI
  split
  · split
    · exact .inr (.inl rfl)
    · split
      · exact .inr (.inr rfl)
      · exact .inl rfl
  · exact .inl rfl
end Go.Proofs.YtbcbhdhhinopaaaDoor
