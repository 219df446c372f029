/-
  The reference's Same at any two instructions.
-/
import Derived.Test.YtbbpkoaeedkncaaGreatDoorGBF
set_option linter.all false
set_option maxRecDepth 100000
set_option maxHeartbeats 4000000
namespace Go.Proofs.YtbbpkoaeedkncaaGreatDoor
open Go.RowKit Go.Shelf
theorem same_start (w : World) (s1 s2 : ByteArray) (v1 v2 : Value) : ∃ w0, (w.alloc (.cells #[.string s1, v1] 24)).alloc (.cells #[.string s2, v2] 24) = w0 ∧
    w0.heap[w.heap.size]? = some (.cells #[.string s1, v1] 24 (0, 0)) ∧ w0.heap[w.heap.size + 1]? = some (.cells #[.string s2, v2] 24 (0, 0)) ∧ Below w.heap.size w w0 := by
  refine ⟨_, rfl, (Below.heap_alloc _ _ _ (by simp)).trans (World.alloc_heap_new w _), ?_, ((Below.refl _ w).alloc (Nat.le_refl _) _).alloc (by simp) _⟩
  have h := World.alloc_heap_new (w.alloc (.cells #[.string s1, v1] 24)) (.cells #[.string s2, v2] 24)
  rw [World.size_alloc] at h
  exact h
theorem sB_inj {a b : Str} (h : sB a = sB b) : a = b := by
  have h2 : (sB a).data.toList = (sB b).data.toList := by rw [h]
  simpa [sB] using h2
theorem sB_ne (a b : Str) (h : a ≠ b) : ((sB a).toList == (sB b).toList) = false := strB_ne fun e => h (sB_inj e)
theorem rsame_any (m1 m2 : Str) (A1 A2 : Option Addr) (c1 c2 : Nat) (L1 L2 : List Tr) (h1 : L1.length ≤ 1000) (h2 : L2.length ≤ 1000) (w : World) (H1 : OpsP w A1 L1) (H2 : OpsP w A2 L2) :
    Calls Tryz.prog 17 #[.agg #[.string (sB m1), .slice A1 L1.length c1], .agg #[.string (sB m2), .slice A2 L2.length c2]] w fun e w' => e = .returned (.bool (decide (m1 = m2) && decide (L1 = L2))) ∧ Below w.heap.size w w' := by
  obtain ⟨r, hr⟩ : ∃ r, (decide (m1 = m2) && decide (L1 = L2)) = r := ⟨_, rfl⟩
  have HR := Lib.hid hr
  rw [hr]
  clear hr
  by_cases hm : m1 = m2
  · subst hm
    by_cases hl : L1.length = L2.length
    · obtain ⟨w0, hw0, C1, C2, B0⟩ := same_start w (sB m1) (sB m1) (.slice A1 L1.length c1) (.slice A2 L2.length c2)
      obtain ⟨n, hn⟩ : ∃ n, L1.length = n := ⟨_, rfl⟩
      have HN := Lib.hid hn
      have HL := Lib.hid hl
      rw [← hl, hn] at C2 hw0
      rw [hn] at C1 h1
      rw [← hl, hn]
      have X1 := Lib.hid (H1.below B0)
      have X2 := Lib.hid (H2.below B0)
      have k0 := Lib.cell_of_heap C1 0
      have k1 := Lib.cell_of_heap C1 1
      have j0 := Lib.cell_of_heap C2 0
      have j1 := Lib.cell_of_heap C2 1
      have B0 := Lib.hid B0
      have hq := strB_eq (sB m1)
      clear H1 H2 C1 C2 hn hl h2
      go_enter Tryz.func17, Tryz.ntmps17
      go_wp2
      clear hw0
      go_loopw [5] (fun i wr => ∃ j q : Nat, j ≤ n ∧ i = .int .i64 j ∧ wr = w0.drewN q ∧ Hid (∀ k, k < j → ∀ (a : k < L1.length) (b : k < L2.length), L1[k] = L2[k])) (fun i _ => n - (intOf i).toNat)
      case atStart => exact ⟨0, 0, Nat.zero_le _, rfl, rfl, fun k h => by omega⟩
      case round =>
        obtain ⟨j, q, hj, rfl, rfl, R⟩ := hrel
        by_cases hlt : j < n
        · have hj1 : j < L1.length := by have := HN.out; omega
          have hj2 : j < L2.length := by have := HL.out; omega
          obtain ⟨b1, o1, hA1, -, p0, p1, p2⟩ := X1.out.at_ hj1
          obtain ⟨b2, o2, hA2, -, q0, q1, q2⟩ := X2.out.at_ hj2
          subst hA1
          subst hA2
          by_cases he : L1[j] = L2[j]
          · have R2 : Hid (∀ k, k < j + 1 → ∀ (a : k < L1.length) (b : k < L2.length), L1[k] = L2[k]) := fun k hk a b => by
              by_cases e : k = j
              · subst e; exact he
              · exact R.out k (by omega) a b
            rw [he] at p0 p1 p2
            obtain ⟨⟨x0, x1, x2⟩, hx⟩ : ∃ x, L2[j] = x := ⟨_, rfl⟩
            rw [hx] at p0 p1 p2 q0 q1 q2
            simp only at p0 p1 p2 q0 q1 q2
            clear he hx hj1 hj2 R
            go_wp2
            go_quiet (fail)
            go_wp2
            go_roundw
            case rel => exact ⟨j + 1, q + nq, by omega, by go_num, rfl, R2.out⟩
            case measure => simp [intOf]; omega
          · have T : Hid (false = r) := by show false = r; rw [← HR.out, decide_eq_false (fun e => he (by simp only [e]) : ¬ L1 = L2), Bool.and_false]
            have hne := tr_ne he
            obtain ⟨⟨x0, x1, x2⟩, hx⟩ : ∃ x, L1[j] = x := ⟨_, rfl⟩
            obtain ⟨⟨y0, y1, y2⟩, hy⟩ : ∃ y, L2[j] = y := ⟨_, rfl⟩
            rw [hx] at p0 p1 p2 hne
            rw [hy] at q0 q1 q2 hne
            simp only at p0 p1 p2 q0 q1 q2 hne
            clear he hx hy hj1 hj2 R
            rcases hne with hne | ⟨rfl, hne⟩ | ⟨rfl, rfl, hne⟩
            all_goals
              go_wp2
              go_quiet (fail)
              go_wp2
              go_ret
              exact ⟨ret_bool T.out, B0.out.trans ((below_drewN w0 _ q).trans (below_drewN _ _ nq))⟩
        · have T : Hid (true = r) := by
            have e : L1 = L2 := List.ext_getElem HL.out fun k a b => R.out k (by have := HN.out; omega) a b
            show true = r
            rw [← HR.out, decide_eq_true e]
            rfl
          go_wp2
          go_ret
          exact ⟨ret_bool T.out, B0.out.trans (below_drewN w0 w.heap.size q)⟩
    · have T : Hid (false = r) := by show false = r; rw [← HR.out, decide_eq_false (fun e => hl (by rw [e]) : ¬ L1 = L2), Bool.and_false]
      have hq := strB_eq (sB m1)
      have hne : ((L1.length : Int) == (L2.length : Int)) = false := beq_eq_false_iff_ne.2 fun e => hl (by omega)
      have hne2 : ((L1.length : Int) != (L2.length : Int)) = true := by unfold bne; rw [hne]; rfl
      clear H1 H2
      go_enter Tryz.func17, Tryz.ntmps17
      go_wp2
      go_ret
      exact ⟨ret_bool T.out, ((Below.refl _ w).alloc (Nat.le_refl _) _).alloc (by simp) _⟩
  · have T : Hid (false = r) := by show false = r; rw [← HR.out, decide_eq_false hm, Bool.false_and]
    have hq := sB_ne m1 m2 hm
    clear H1 H2
    go_enter Tryz.func17, Tryz.ntmps17
    go_wp2
    go_ret
    exact ⟨ret_bool T.out, ((Below.refl _ w).alloc (Nat.le_refl _) _).alloc (by simp) _⟩
end Go.Proofs.YtbbpkoaeedkncaaGreatDoor
