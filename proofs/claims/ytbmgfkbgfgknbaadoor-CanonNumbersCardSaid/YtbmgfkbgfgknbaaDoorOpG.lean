/-
  Walks over the document's own answers (package breadboardref06): regs, name, Valid.
-/
import Derived.Test.YtbmgfkbgfgknbaaDoorOpF
namespace Go.Proofs.YtbmgfkbgfgknbaaDoor
open Go.RowKit
set_option linter.unusedVariables false

def rnL : Nat → List ByteArray
  | 4 => [⟨#[40, 66, 67, 41]⟩, ⟨#[40, 68, 69, 41]⟩, ⟨#[40, 72, 76, 41]⟩, ⟨#[40, 83, 80, 41]⟩, ⟨#[]⟩, ⟨#[40, 73, 88, 41]⟩, ⟨#[40, 73, 89, 41]⟩, ⟨#[]⟩, ⟨#[40, 67, 41]⟩]
  | k => nmL k
/-- What regs returns. -/
def RetRegs (L : List ByteArray) (w : World) (e : Ending) (w' : World) : Prop :=
  (L = [] ∧ e = .returned (.slice none 0 0) ∧ w = w') ∨ (e = .returned (.slice (some ⟨w.heap.size, 0, none⟩) L.length L.length) ∧ w.alloc (.cells (L.map Value.string).toArray 9) = w')
set_option maxHeartbeats 1000000 in
theorem regs_1 (w : World) : Calls Tryd.prog 26 #[.int .i64 1] w (RetRegs (rnL 1) w) := by
  go_enter Tryd.func26, Tryd.ntmps26
  go_wp2
  go_ret
  exact .inr ⟨rfl, rfl⟩
set_option maxHeartbeats 1000000 in
theorem regs_2 (w : World) : Calls Tryd.prog 26 #[.int .i64 2] w (RetRegs (rnL 2) w) := by
  go_enter Tryd.func26, Tryd.ntmps26
  go_wp2
  go_ret
  exact .inr ⟨rfl, rfl⟩
set_option maxHeartbeats 1000000 in
theorem regs_3 (w : World) : Calls Tryd.prog 26 #[.int .i64 3] w (RetRegs (rnL 3) w) := by
  go_enter Tryd.func26, Tryd.ntmps26
  go_wp2
  go_ret
  exact .inr ⟨rfl, rfl⟩
set_option maxHeartbeats 1000000 in
theorem regs_4 (w : World) : Calls Tryd.prog 26 #[.int .i64 4] w (RetRegs (rnL 4) w) := by
  go_enter Tryd.func26, Tryd.ntmps26
  go_wp2
  go_ret
  exact .inr ⟨rfl, rfl⟩
set_option maxHeartbeats 1000000 in
theorem regs_5 (w : World) : Calls Tryd.prog 26 #[.int .i64 5] w (RetRegs (rnL 5) w) := by
  go_enter Tryd.func26, Tryd.ntmps26
  go_wp2
  go_ret
  exact .inr ⟨rfl, rfl⟩
set_option maxHeartbeats 1000000 in
theorem regs_8 (w : World) : Calls Tryd.prog 26 #[.int .i64 8] w (RetRegs (rnL 8) w) := by
  go_enter Tryd.func26, Tryd.ntmps26
  go_wp2
  go_ret
  exact .inr ⟨rfl, rfl⟩
set_option maxHeartbeats 1000000 in
theorem regs_9 (w : World) : Calls Tryd.prog 26 #[.int .i64 9] w (RetRegs (rnL 9) w) := by
  go_enter Tryd.func26, Tryd.ntmps26
  go_wp2
  go_ret
  exact .inr ⟨rfl, rfl⟩
set_option maxHeartbeats 1000000 in
theorem regs_no (k : Int) (h : k ≠ 1 ∧ k ≠ 2 ∧ k ≠ 3 ∧ k ≠ 4 ∧ k ≠ 5 ∧ k ≠ 8 ∧ k ≠ 9) (w : World) : Calls Tryd.prog 26 #[.int .i64 k] w (RetRegs [] w) := by
  have h1 : (k == 1) = false := beq_eq_false_iff_ne.2 (by omega)
  have h2 : (k == 2) = false := beq_eq_false_iff_ne.2 (by omega)
  have h3 : (k == 3) = false := beq_eq_false_iff_ne.2 (by omega)
  have h4 : (k == 4) = false := beq_eq_false_iff_ne.2 (by omega)
  have h5 : (k == 5) = false := beq_eq_false_iff_ne.2 (by omega)
  have h8 : (k == 8) = false := beq_eq_false_iff_ne.2 (by omega)
  have h9 : (k == 9) = false := beq_eq_false_iff_ne.2 (by omega)
  clear h
  go_enter Tryd.func26, Tryd.ntmps26
  go_wp2
  go_ret
  exact .inl ⟨rfl, rfl, rfl⟩
/-- The lists of the kinds that have names; none for others. -/
def rnK (k : Int) : List ByteArray := if 0 ≤ k then rnL k.toNat else []
theorem rnK_no (k : Int) (h : k ≠ 1 ∧ k ≠ 2 ∧ k ≠ 3 ∧ k ≠ 4 ∧ k ≠ 5 ∧ k ≠ 8 ∧ k ≠ 9) : rnK k = [] := by
  unfold rnK
  split
  · rename_i h0
    obtain ⟨m, rfl⟩ : ∃ m : Nat, k = m := ⟨k.toNat, by omega⟩
    rw [Int.toNat_natCast]
    unfold rnL nmL
    split
    · omega
    · split <;> first | omega | rfl
  · rfl
theorem regs_any (k : Int) (w : World) : Calls Tryd.prog 26 #[.int .i64 k] w (RetRegs (rnK k) w) := by
  by_cases h : k ≠ 1 ∧ k ≠ 2 ∧ k ≠ 3 ∧ k ≠ 4 ∧ k ≠ 5 ∧ k ≠ 8 ∧ k ≠ 9
  · rw [rnK_no k h]; exact regs_no k h w
  · have hc : k = 1 ∨ k = 2 ∨ k = 3 ∨ k = 4 ∨ k = 5 ∨ k = 8 ∨ k = 9 := by omega
    rcases hc with rfl | rfl | rfl | rfl | rfl | rfl | rfl
    · exact regs_1 w
    · exact regs_2 w
    · exact regs_3 w
    · exact regs_4 w
    · exact regs_5 w
    · exact regs_8 w
    · exact regs_9 w
theorem rnK_len (k : Int) : (rnK k).length ≤ 9 := by
  by_cases h : k ≠ 1 ∧ k ≠ 2 ∧ k ≠ 3 ∧ k ≠ 4 ∧ k ≠ 5 ∧ k ≠ 8 ∧ k ≠ 9
  · rw [rnK_no k h]; decide
  · have hc : k = 1 ∨ k = 2 ∨ k = 3 ∨ k = 4 ∨ k = 5 ∨ k = 8 ∨ k = 9 := by omega
    rcases hc with rfl | rfl | rfl | rfl | rfl | rfl | rfl <;> decide
set_option maxHeartbeats 1000000 in
theorem rname_any (k r : Int) (w : World) :
    Calls Tryd.prog 19 #[.int .i64 k, .int .i64 r] w fun e w' => e = .returned (.string (atS (rnK k) r)) ∧ Below w.heap.size w w' := by
  have HR := Lib.hid (regs_any k)
  have hlen := rnK_len k
  obtain ⟨L, hL⟩ : ∃ L, rnK k = L := ⟨_, rfl⟩
  rw [hL] at HR hlen ⊢
  clear hL
  by_cases h0 : r < 0
  · have T := Lib.hid (atS_out L r (.inl h0))
    go_enter Tryd.func19, Tryd.ntmps19
    go_wp2_with fail
    refine (HR.out _).mono ?_
    rintro e w1 (⟨hL, rfl, rfl⟩ | ⟨rfl, rfl⟩)
    · clear hL
      go_wp2
      go_ret
      exact ⟨ret_str T.out.symm, Below.refl _ _⟩
    · go_wp2
      go_ret
      exact ⟨ret_str T.out.symm, (Below.refl _ _).alloc (Nat.le_refl _) _⟩
  · by_cases h1 : (L.length : Int) ≤ r
    · have T := Lib.hid (atS_out L r (.inr h1))
      go_enter Tryd.func19, Tryd.ntmps19
      go_wp2_with fail
      refine (HR.out _).mono ?_
      rintro e w1 (⟨hL, rfl, rfl⟩ | ⟨rfl, rfl⟩)
      · clear hL
        have h2 : (0 : Int) ≤ r := by omega
        go_wp2
        go_ret
        exact ⟨ret_str T.out.symm, Below.refl _ _⟩
      · go_wp2
        go_ret
        exact ⟨ret_str T.out.symm, (Below.refl _ _).alloc (Nat.le_refl _) _⟩
    · obtain ⟨j, rfl⟩ : ∃ j : Nat, r = j := ⟨r.toNat, by omega⟩
      have hj : j < L.length := by omega
      have T := Lib.hid (atS_in L j hj)
      have hc := fun (w : World) => strs_new w L 9 j hj
      obtain ⟨s, hs⟩ : ∃ s, L[j] = s := ⟨_, rfl⟩
      rw [hs] at T
      simp only [hs] at hc
      obtain ⟨n, hn⟩ : ∃ n, L.length = n := ⟨_, rfl⟩
      have HN := Lib.hid hn
      rw [hn] at hj hlen
      clear h0 h1 hs
      go_enter Tryd.func19, Tryd.ntmps19
      go_wp2_with fail
      refine (HR.out _).mono ?_
      rintro e w1 (⟨hL, rfl, rfl⟩ | ⟨rfl, rfl⟩)
      · exfalso; rw [hL] at hn; simp at hn; omega
      · rw [hn]
        clear hn
        go_wp2
        go_ret
        exact ⟨ret_str T.out.symm, (Below.refl _ _).alloc (Nat.le_refl _) _⟩
end Go.Proofs.YtbmgfkbgfgknbaaDoor
