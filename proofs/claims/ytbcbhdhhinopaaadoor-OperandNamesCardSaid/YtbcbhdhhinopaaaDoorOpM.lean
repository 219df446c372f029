/-
  The walks over slices.Equal at operands and over the law's examples.
-/
import Derived.Test.YtbcbhdhhinopaaaDoorOpL
import Derived.Test.YtbcbhdhhinopaaaDoorOpI
namespace Go.Proofs.YtbcbhdhhinopaaaDoor
open Go.RowKit
set_option linter.unusedVariables false

theorem tr_ne {a b : Tr} (h : a ≠ b) : ¬ a.1 = b.1 ∨ (a.1 = b.1 ∧ ¬ a.2.1 = b.2.1) ∨ (a.1 = b.1 ∧ a.2.1 = b.2.1 ∧ ¬ a.2.2 = b.2.2) := by
  obtain ⟨a1, a2, a3⟩ := a
  obtain ⟨b1, b2, b3⟩ := b
  by_cases h1 : a1 = b1
  · by_cases h2 : a2 = b2
    · refine .inr (.inr ⟨h1, h2, fun h3 => h (by simp only at h3; rw [h1, h2, h3])⟩)
    · exact .inr (.inl ⟨h1, h2⟩)
  · exact .inl h1
set_option maxRecDepth 100000 in
set_option maxHeartbeats 2000000 in
theorem equalO_any (A1 A2 : Option Addr) (c1 c2 : Nat) (L1 L2 : List Tr) (h1 : L1.length ≤ maxLen) (h2 : L2.length ≤ maxLen) (w : World) (H1 : OpsP w A1 L1) (H2 : OpsP w A2 L2) :
    Calls Tryd.prog 14 #[.slice A1 L1.length c1, .slice A2 L2.length c2] w fun e w' => e = .returned (.bool (decide (L1 = L2))) ∧ Below w.heap.size w w' := by
  unfold maxLen at h1 h2
  by_cases hl : L1.length = L2.length
  · have X1 := Lib.hid H1
    have X2 := Lib.hid H2
    have HL := Lib.hid hl
    obtain ⟨n, hn⟩ : ∃ n, L1.length = n := ⟨_, rfl⟩
    have HN := Lib.hid hn
    rw [hn] at h1
    rw [← hl, hn]
    clear H1 H2 hl h2 hn
    go_enter Tryd.func14, Tryd.ntmps14
    go_wp2
    go_loopw [13] (fun i wr => ∃ j : Nat, j ≤ n ∧ i = .int .i64 j ∧ Hid (∀ k, k < j → ∀ (a : k < L1.length) (b : k < L2.length), L1[k] = L2[k]) ∧ Hid (Below w.heap.size w wr)) (fun i _ => n - (intOf i).toNat)
    case atStart => exact ⟨0, Nat.zero_le _, rfl, fun k h => by omega, Below.refl _ _⟩
    case round =>
      obtain ⟨j, hj, rfl, R, B⟩ := hrel
      by_cases hlt : j < n
      · have hj1 : j < L1.length := by have := HN.out; omega
        have hj2 : j < L2.length := by have := HL.out; omega
        obtain ⟨b1, o1, hA1, -, p0, p1, p2⟩ := (X1.out.below B.out).at_ hj1
        obtain ⟨b2, o2, hA2, -, q0, q1, q2⟩ := (X2.out.below B.out).at_ hj2
        subst hA1
        subst hA2
        by_cases he : L1[j] = L2[j]
        · have R2 : Hid (∀ k, k < j + 1 → ∀ (a : k < L1.length) (b : k < L2.length), L1[k] = L2[k]) := fun k hk a b => by
            by_cases e : k = j
            · subst e; exact he
            · exact R.out k (by omega) a b
          rw [he] at p0 p1 p2
          obtain ⟨⟨x0, x1, x2⟩, hx⟩ : ∃ x, L2[j] = x := ⟨_, rfl⟩
          rw [hx] at p0 p1 p2 q0 q1 q2
          simp only at p0 p1 p2 q0 q1 q2
          clear he hx hj1 hj2 R
          go_wp2
          go_quiet (fail)
          have B2 := fun q => Lib.hid (B.out.trans (below_drewN wr w.heap.size q))
          go_wp2
          go_roundw
          case rel => exact ⟨j + 1, by omega, by go_num, R2.out, (B2 _).out⟩
          case measure => simp [intOf]; omega
        · have T : Hid (false = decide (L1 = L2)) := (decide_eq_false (fun e => he (by simp only [e]))).symm
          have hne := tr_ne he
          obtain ⟨⟨x0, x1, x2⟩, hx⟩ : ∃ x, L1[j] = x := ⟨_, rfl⟩
          obtain ⟨⟨y0, y1, y2⟩, hy⟩ : ∃ y, L2[j] = y := ⟨_, rfl⟩
          rw [hx] at p0 p1 p2 hne
          rw [hy] at q0 q1 q2 hne
          simp only at p0 p1 p2 q0 q1 q2 hne
          have B2 := fun q => Lib.hid (B.out.trans (below_drewN wr w.heap.size q))
          clear he hx hy hj1 hj2 R
          rcases hne with hne | ⟨rfl, hne⟩ | ⟨rfl, rfl, hne⟩
          all_goals
            go_wp2
            go_quiet (fail)
            go_wp2
            go_ret
            exact ⟨ret_bool T.out, (B2 _).out⟩
      · have T : Hid (true = decide (L1 = L2)) := by
          refine (decide_eq_true (List.ext_getElem HL.out fun k a b => ?_)).symm
          exact R.out k (by have := HN.out; omega) a b
        clear R
        go_wp2
        go_ret
        exact ⟨ret_bool T.out, B.out⟩
  · have T : Hid (false = decide (L1 = L2)) := (decide_eq_false (fun e => hl (by rw [e]))).symm
    have hl' : ((L1.length : Int) == (L2.length : Int)) = false := beq_eq_false_iff_ne.2 (by omega)
    have hl2 : ¬ ((L1.length : Int) = (L2.length : Int)) := by omega
    clear H1 H2
    go_enter Tryd.func14, Tryd.ntmps14
    go_wp2
    go_ret
    exact ⟨ret_bool T.out, Below.refl _ _⟩
theorem text_exA : (txtS 5 5 (-3)).data = #[40, 73, 88, 45, 51, 41] := by decide +kernel
theorem text_exB : (txtS 10 0 (-2)).data = #[36, 43, 48] := by decide +kernel
theorem named_ex : namedL ⟨#[99]⟩ = [(1, 1, 0), (8, 3, 0)] := by decide +kernel
theorem ops_two (w : World) (n : Nat) (hn : w.heap.size = n) (t : TypeId) : OpsP (w.alloc (.cells #[.int .i64 1, .int .i64 1, .int .i64 0, .int .i64 8, .int .i64 3, .int .i64 0] t)) (some ⟨n, 0, none⟩) [(1, 1, 0), (8, 3, 0)] := by
  subst hn
  refine .inr ⟨_, _, rfl, fun j hj => ?_⟩
  have : j = 0 ∨ j = 1 := by simp at hj; omega
  rcases this with rfl | rfl
  · exact ⟨by simp [go_sem], by simp [go_sem], by simp [go_sem]⟩
  · exact ⟨by simp [go_sem], by simp [go_sem], by simp [go_sem]⟩
set_option maxRecDepth 100000 in
set_option maxHeartbeats 2000000 in
theorem alive_any (w : World) : Calls Tryd.prog 8 #[] w fun e w' => e = .returned (.bool true) ∧ Below w.heap.size w w' := by
  have eA : txtS 5 5 (-3) = ⟨#[40, 73, 88, 45, 51, 41]⟩ := ByteArray.ext text_exA
  have eB : txtS 10 0 (-2) = ⟨#[36, 43, 48]⟩ := ByteArray.ext text_exB
  have TA := Lib.hid (otext_any 5 5 (-3))
  have TB := Lib.hid (otext_any 10 0 (-2))
  have TC := Lib.hid (named_any ⟨#[99]⟩ (by decide))
  rw [eA] at TA
  rw [eB] at TB
  rw [named_ex] at TC
  clear eA eB
  go_enter Tryd.func8, Tryd.ntmps8
  go_wp2_with fail
  refine (TA.out _).mono ?_
  rintro e w1 ⟨rfl, h1⟩
  have B1 := Lib.hid h1
  clear h1
  go_wp2_with fail
  refine (TB.out _).mono ?_
  rintro e w2 ⟨rfl, h2⟩
  have B2 := Lib.hid (B1.out.trans (h2.mono B1.out.size))
  clear h2 B1
  go_wp2_with fail
  refine (TC.out _).mono ?_
  rintro e w3 ⟨A, cap, rfl, hO, h3⟩
  have B3 := Lib.hid (B2.out.trans (h3.mono B2.out.size))
  have O3 := Lib.hid hO
  clear h3 B2 hO
  have hal : Below w3.heap.size w3 (w3.alloc (.cells #[.int .i64 1, .int .i64 1, .int .i64 0, .int .i64 8, .int .i64 3, .int .i64 0] 23)) := (Below.refl _ _).alloc (Nat.le_refl _) _
  have EQ := Lib.hid (equalO_any A (some ⟨w3.heap.size, 0, none⟩) cap 2 [(1, 1, 0), (8, 3, 0)] [(1, 1, 0), (8, 3, 0)] (by decide) (by decide) _ (O3.out.below hal) (ops_two w3 _ rfl 23))
  have B4 := Lib.hid (B3.out.trans (hal.mono B3.out.size))
  clear hal
  go_wp2_with fail
  refine EQ.out.mono ?_
  rintro e w4 ⟨rfl, h4⟩
  have B5 := Lib.hid (B4.out.trans (h4.mono B4.out.size))
  clear h4 EQ
  go_wp2
  go_ret
  exact ⟨rfl, B5.out⟩
end Go.Proofs.YtbcbhdhhinopaaaDoor
