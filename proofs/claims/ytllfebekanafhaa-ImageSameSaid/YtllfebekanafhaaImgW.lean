/-
  A pair of lists of runs that came in, opened; the walk over breadboardref02.Same.
-/
import Derived.Test.YtllfebekanafhaaImgV
namespace Go.Proofs.Ytllfebekanafhaa
open Go.ChangeShapes Go.WideShapes Go.RowKit
set_option linter.unusedVariables false

theorem okWide_arr2 {w : World} {r : Reach} {base : Nat} {v : Value} (h : Value.okWide Try.prog w r base 49 v) : ∃ c0 c1, v = .agg #[c0, c1] := by
  simp only [Value.okWide, Try.underlying49] at h
  obtain ⟨cs, h1, h2, _⟩ := h
  have c49 : Try.prog.cellsOf 49 = 2 := by kernel_rfl
  rw [c49] at h2
  match cs, h2 with
  | ⟨[c0, c1]⟩, _ => exact ⟨c0, c1, h1⟩
section
variable {H : Type} {enc : TypeId × Value → H} {w : World} {spare : Nat → Bool} {fuel : Nat}
theorem open_runs2 {c0 c1 : Value} {x : DataW H × List MemPlace} (h : DataW.trod enc Try.prog w 0 spare true fuel 49 [c0, c1] = some x) :
    (∃ A len cap rs, c0 = .slice A len cap ∧ len = rs.length ∧ len ≤ maxLen ∧ RunsP (fun _ => True) (fun _ => True) w A rs ∧ ∀ r ∈ rs, r.data.length ≤ maxLen) ∧
    (∃ A len cap rs, c1 = .slice A len cap ∧ len = rs.length ∧ len ≤ maxLen ∧ RunsP (fun _ => True) (fun _ => True) w A rs ∧ ∀ r ∈ rs, r.data.length ≤ maxLen) := by
  obtain ⟨xs, m, _, _, _, hx, hi⟩ := DataW.trod_array Try.underlying49 h
  have c22 : Try.prog.cellsOf 22 = 1 := by kernel_rfl
  match xs, hx with
  | [y0, y1], _ =>
    have h0 := hi 0 (by omega)
    have h1 := hi 1 (by omega)
    rw [c22] at h0 h1
    have h0' : DataW.trod enc Try.prog w 0 spare true m 22 [c0] = some y0 := h0
    have h1' : DataW.trod enc Try.prog w 0 spare true m 22 [c1] = some y1 := h1
    exact ⟨open_runs h0', open_runs h1'⟩
end

theorem beq_byte2 (a b : UInt8) : ((a.toNat : Int) == (b.toNat : Int)) = decide (a = b) := beq_byte a b
set_option maxHeartbeats 4000000 in
theorem rsame_any (P Q : Nat → Prop) (A1 A2 : Option Addr) (c1 c2 : Nat) (V W : List Cel) (hV : SortedW V) (hW : SortedW W) (w : World) (h1 : CellsP P w A1 V) (h2 : CellsP Q w A2 W) :
    Calls Try.prog 23 #[.slice A1 V.length c1, .slice A2 W.length c2] w (SomeDraws w (decide (V = W))) := by
  have l1 := sorted_length hV
  have l2 := sorted_length hW
  have Z1 := Lib.hid h1
  have Z2 := Lib.hid h2
  clear h1 h2 hV hW
  by_cases hl : V.length = W.length
  · obtain ⟨n, hn⟩ : ∃ n, V.length = n := ⟨_, rfl⟩
    have hn2 : W.length = n := by omega
    have L1 := Lib.hid hn
    have L2 := Lib.hid hn2
    rw [hn] at l1 ⊢
    rw [hn2]
    clear hn hn2 hl l2
    go_enter Try.func23, Try.ntmps23
    go_wp2
    go_loopw [5] (fun i wr => ∃ k q : Nat, k ≤ n ∧ i = .int .i64 k ∧ wr = w.drewN q ∧ Hid (V.take k = W.take k)) (fun i _ => n - (intOf i).toNat)
    case atStart => exact ⟨0, 0, Nat.zero_le _, rfl, rfl, rfl⟩
    case round =>
      obtain ⟨k, q, hk, rfl, rfl, E⟩ := hrel
      by_cases hlt : k < n
      · have k1 : k < V.length := by have := L1.out; omega
        have k2 : k < W.length := by have := L2.out; omega
        obtain ⟨b1, o1, hA1, p1, p2⟩ := Z1.out.at_ k1
        obtain ⟨b2, o2, hA2, q1, q2⟩ := Z2.out.at_ k2
        subst hA1 hA2
        have hlt' : (k : Int) < (n : Int) := by omega
        by_cases he : V[k] = W[k]
        · have N : Hid (V.take (k + 1) = W.take (k + 1)) := by
            show _ = _
            rw [List.take_succ_eq_append_getElem k1, List.take_succ_eq_append_getElem k2, E.out, he]
          rw [← he] at q1 q2
          obtain ⟨x, hx⟩ : ∃ x : Int, (V[k].1 : Int) = x := ⟨_, rfl⟩
          obtain ⟨y, hy⟩ : ∃ y : Int, (V[k].2.toNat : Int) = y := ⟨_, rfl⟩
          rw [hx] at p1 q1
          rw [hy] at p2 q2
          clear hx hy he k1 k2
          go_wp2_with fail
          go_quiet (fail)
          go_wp2
          go_roundw
          case rel => exact ⟨k + 1, _, by omega, by go_num, rfl, N⟩
          case measure => simp [intOf]; omega
        · have N : Hid (decide (V = W) = false) := decide_eq_false fun h => he (by subst h; rfl)
          obtain ⟨x, hx⟩ : ∃ x : Int, (V[k].1 : Int) = x := ⟨_, rfl⟩
          obtain ⟨y, hy⟩ : ∃ y : Int, (V[k].2.toNat : Int) = y := ⟨_, rfl⟩
          obtain ⟨x', hx'⟩ : ∃ x : Int, (W[k].1 : Int) = x := ⟨_, rfl⟩
          obtain ⟨y', hy'⟩ : ∃ y : Int, (W[k].2.toNat : Int) = y := ⟨_, rfl⟩
          have hor : x ≠ x' ∨ y ≠ y' := by
            by_cases e1 : x = x'
            · right
              intro e2
              apply he
              refine Prod.ext (by omega) (UInt8.toNat_inj.1 (by omega))
            · exact .inl e1
          rw [hx] at p1
          rw [hy] at p2
          rw [hx'] at q1
          rw [hy'] at q2
          clear hx hy hx' hy' he k1 k2
          by_cases e1 : x = x'
          · subst e1
            have e2 : (y == y') = false := beq_eq_false_iff_ne.2 (hor.resolve_left (fun h => h rfl))
            clear hor
            go_wp2_with fail
            go_quiet (fail)
            go_wp2
            go_ret
            exact ⟨ret_bool N.out.symm, _, by simp only [World.drewN_drewN]; rfl⟩
          · have e2 : (x == x') = false := beq_eq_false_iff_ne.2 e1
            clear hor
            go_wp2_with fail
            go_quiet (fail)
            go_wp2
            go_ret
            exact ⟨ret_bool N.out.symm, _, by simp only [World.drewN_drewN]; rfl⟩
      · have N : Hid (decide (V = W) = true) := by
          have e := E.out
          rw [show k = n by omega, List.take_of_length_le (by have := L1.out; omega), List.take_of_length_le (by have := L2.out; omega)] at e
          exact decide_eq_true e
        have hlt' : decide ((k : Int) < (n : Int)) = false := decide_eq_false (by omega)
        go_wp2
        go_ret
        exact ⟨ret_bool N.out.symm, _, rfl⟩
  · have hl' : ((V.length : Int) == (W.length : Int)) = false := beq_eq_false_iff_ne.2 (by omega)
    have hl2 : ((V.length : Int) != (W.length : Int)) = true := by unfold bne; rw [hl']; rfl
    have N : Hid (decide (V = W) = false) := decide_eq_false (fun e => hl (by rw [e]))
    clear hl
    go_enter Try.func23, Try.ntmps23
    go_wp2
    go_ret
    exact ⟨ret_bool N.out.symm, 0, by rfl⟩
end Go.Proofs.Ytllfebekanafhaa
