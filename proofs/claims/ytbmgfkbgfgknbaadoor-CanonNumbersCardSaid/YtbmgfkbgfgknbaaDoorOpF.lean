/-
  What operand.find returns, for every operand; the walks over operand.Valid and operand.Text.
-/
import Derived.Test.YtbmgfkbgfgknbaaDoorOpD
import Derived.Test.YtbmgfkbgfgknbaaDoorOpE
namespace Go.Proofs.YtbmgfkbgfgknbaaDoor
open Go.RowKit
set_option linter.unusedVariables false

def loK : Nat → Int
  | 5 => -128
  | 6 => -32768
  | 10 => -128
  | _ => 0
def hiK : Nat → Int
  | 5 => 127
  | 6 => 65535
  | 7 => 65535
  | 10 => 127
  | _ => 0
def regB (k : Nat) (r : Int) : Bool := match k with
  | 6 => r == 0
  | 7 => r == 0
  | 10 => r == 0
  | k => neB (nmS k r)
/-- Is the operand valid? -/
def vldB (k r n : Int) : Bool := decide (1 ≤ k) && decide (k ≤ 10) && regB k.toNat r && (decide (loK k.toNat ≤ n) && decide (n ≤ hiK k.toNat))
/-- The form of an operand. -/
def txtS (k r n : Int) : ByteArray := if vldB k r n then formS k.toNat (nmS k.toNat r) n else ⟨#[]⟩

theorem nmL_le : ∀ k : Fin 11, ∀ s ∈ nmL k.val, s.size ≤ 3 := by decide +kernel
theorem nmS_le' (k : Fin 11) (r : Int) : (nmS k.val r).size ≤ 50 := by
  rcases atS_mem (nmL k.val) r with h | h
  · unfold nmS; rw [h]; decide
  · have := nmL_le k _ h; unfold nmS; omega
theorem nmS_le (k : Fin 11) (r : Int) : (nmS k.val r).size ≤ 50 := nmS_le' k r
/-- What find says of a valid operand. -/
def FindYes (k r n : Int) : Prop :=
  ∃ (fn ff : FuncId) (lo hi : Int) (s : ByteArray),
    (∀ w, Calls Tryd.prog 25 #[.agg #[.int .i64 k, .int .i64 r, .int .i64 n]] w fun e w' =>
      e = .returned (.tuple #[.agg #[.func (.func fn) #[] #[], .int .i64 lo, .int .i64 hi, .func (.func ff) #[] #[]], .string s, .bool true]) ∧ Below w.heap.size w w') ∧
    (∀ args w, (callFunc ff args).run Tryd.prog w = .ok (.enter ff args) w) ∧
    ∀ w, Calls Tryd.prog ff #[.string s, .int .i64 n] w fun e w' => e = .returned (.string (txtS k r n)) ∧ Below w.heap.size w w'
def FindNo (k r n : Int) : Prop :=
  ∀ w, Calls Tryd.prog 25 #[.agg #[.int .i64 k, .int .i64 r, .int .i64 n]] w fun e w' =>
      e = .returned (.tuple #[.agg #[.nilFunc, .int .i64 0, .int .i64 0, .nilFunc], .string ⟨#[]⟩, .bool false]) ∧ Below w.heap.size w w'
theorem find_of (k : Nat) (fn ff : FuncId) (r n : Int) (h0 : 1 ≤ k) (h1 : k ≤ 10) (s : ByteArray)
    (hi1 : ∀ w, (Instr.index 65 (.agg kindsA) (.int .i64 (k : Int))).run Tryd.prog w = .ok (.agg #[.func (.func fn) #[] #[], .int .i64 (loK k), .int .i64 (hiK k), .func (.func ff) #[] #[]]) w)
    (he : ∀ args w, (callFunc fn args).run Tryd.prog w = .ok (.enter fn args) w)
    (hn : ∀ w, Calls Tryd.prog fn #[.int .i64 r] w fun e w' => e = .returned (.tuple #[.string s, .bool (regB k r)]) ∧ Below w.heap.size w w')
    (hf : ∀ args w, (callFunc ff args).run Tryd.prog w = .ok (.enter ff args) w)
    (hg : loK k ≤ n → n ≤ hiK k → ∀ w, Calls Tryd.prog ff #[.string s, .int .i64 n] w fun e w' => e = .returned (.string (formS k (nmS k r) n)) ∧ Below w.heap.size w w') :
    (vldB k r n = true → FindYes k r n) ∧ (vldB k r n = false → FindNo k r n) := by
  have hk : ((k : Int)).toNat = k := by omega
  have e1 : decide ((1 : Int) ≤ (k : Int)) = true := decide_eq_true (by omega)
  have e2 : decide ((k : Int) ≤ 10) = true := decide_eq_true (by omega)
  have hv : vldB k r n = (regB k r && (decide (loK k ≤ n) && decide (n ≤ hiK k))) := by
    unfold vldB; rw [hk, e1, e2]; simp
  rw [hv]
  constructor
  · intro h
    simp only [Bool.and_eq_true, decide_eq_true_eq] at h
    obtain ⟨a, b, c⟩ := h
    rw [a] at hn
    refine ⟨fn, ff, loK k, hiK k, s, fun w => find_kind k fn ff _ _ r n s h0 h1 hi1 he hn b c w, hf, fun w => ?_⟩
    have ht : txtS k r n = formS k (nmS k r) n := by
      unfold txtS; rw [if_pos (by rw [hv, a, decide_eq_true b, decide_eq_true c]; rfl), hk]
    rw [ht]
    exact hg b c w
  · intro h w
    by_cases a : regB k r = true
    · rw [a] at h hn
      have : n < loK k ∨ hiK k < n := by
        simp only [Bool.true_and, Bool.and_eq_false_iff, decide_eq_false_iff_not] at h
        omega
      exact find_wide k fn ff _ _ r n s h0 h1 hi1 he hn this w
    · have a' : regB k r = false := by simpa using a
      rw [a'] at hn
      exact find_nameless k fn ff _ _ r n s h0 h1 hi1 he hn w
theorem below_of_same {P : Program} {f : FuncId} {args : Array Value} {v : Value} {w : World} (h : Calls P f args w fun e w' => e = .returned v ∧ w = w') : Calls P f args w fun e w' => e = .returned v ∧ Below w.heap.size w w' :=
  h.mono fun e w' ⟨h1, h2⟩ => ⟨h1, by rw [← h2]; exact Below.refl _ _⟩
theorem find_1 (r n : Int) : (vldB 1 r n = true → FindYes 1 r n) ∧ (vldB 1 r n = false → FindNo 1 r n) :=
  find_of 1 36 37 r n (by omega) (by omega) (nmS 1 r) (fun _ => by kernel_rfl) (fun _ _ => by kernel_rfl) (fun w => name8_any r w) (fun _ _ => by kernel_rfl) (fun _ _ w => plain_any _ n w)
theorem find_2 (r n : Int) : (vldB 2 r n = true → FindYes 2 r n) ∧ (vldB 2 r n = false → FindNo 2 r n) :=
  find_of 2 38 37 r n (by omega) (by omega) (nmS 2 r) (fun _ => by kernel_rfl) (fun _ _ => by kernel_rfl) (fun w => nameHalf_any r w) (fun _ _ => by kernel_rfl) (fun _ _ w => plain_any _ n w)
theorem find_3 (r n : Int) : (vldB 3 r n = true → FindYes 3 r n) ∧ (vldB 3 r n = false → FindNo 3 r n) :=
  find_of 3 39 37 r n (by omega) (by omega) (nmS 3 r) (fun _ => by kernel_rfl) (fun _ _ => by kernel_rfl) (fun w => name16_any r w) (fun _ _ => by kernel_rfl) (fun _ _ w => plain_any _ n w)
theorem find_4 (r n : Int) : (vldB 4 r n = true → FindYes 4 r n) ∧ (vldB 4 r n = false → FindNo 4 r n) :=
  find_of 4 40 41 r n (by omega) (by omega) (nmS 4 r) (fun _ => by kernel_rfl) (fun _ _ => by kernel_rfl) (fun w => namePointer_any r w) (fun _ _ => by kernel_rfl) (fun _ _ w => pointer_any _ n (nmS_le 4 r) w)
theorem find_5 (r n : Int) : (vldB 5 r n = true → FindYes 5 r n) ∧ (vldB 5 r n = false → FindNo 5 r n) :=
  find_of 5 42 43 r n (by omega) (by omega) (nmS 5 r) (fun _ => by kernel_rfl) (fun _ _ => by kernel_rfl) (fun w => nameIndex_any r w) (fun _ _ => by kernel_rfl) (fun a b w => indexed_any _ n (nmS_le 5 r) (by simp only [loK] at a; omega) (by simp only [hiK] at b; omega) w)
theorem find_6 (r n : Int) : (vldB 6 r n = true → FindYes 6 r n) ∧ (vldB 6 r n = false → FindNo 6 r n) :=
  find_of 6 44 45 r n (by omega) (by omega) ⟨#[]⟩ (fun _ => by kernel_rfl) (fun _ _ => by kernel_rfl) (fun w => below_of_same (noName_any r w)) (fun _ _ => by kernel_rfl) (fun a b w => immediate_any _ n (by simp only [loK] at a; omega) (by simp only [hiK] at b; omega) w)
theorem find_7 (r n : Int) : (vldB 7 r n = true → FindYes 7 r n) ∧ (vldB 7 r n = false → FindNo 7 r n) :=
  find_of 7 44 46 r n (by omega) (by omega) ⟨#[]⟩ (fun _ => by kernel_rfl) (fun _ _ => by kernel_rfl) (fun w => below_of_same (noName_any r w)) (fun _ _ => by kernel_rfl) (fun a b w => memory_any _ n w)
theorem find_8 (r n : Int) : (vldB 8 r n = true → FindYes 8 r n) ∧ (vldB 8 r n = false → FindNo 8 r n) :=
  find_of 8 47 37 r n (by omega) (by omega) (nmS 8 r) (fun _ => by kernel_rfl) (fun _ _ => by kernel_rfl) (fun w => nameCondition_any r w) (fun _ _ => by kernel_rfl) (fun _ _ w => plain_any _ n w)
theorem find_9 (r n : Int) : (vldB 9 r n = true → FindYes 9 r n) ∧ (vldB 9 r n = false → FindNo 9 r n) :=
  find_of 9 48 37 r n (by omega) (by omega) (nmS 9 r) (fun _ => by kernel_rfl) (fun _ _ => by kernel_rfl) (fun w => nameControl_any r w) (fun _ _ => by kernel_rfl) (fun _ _ w => plain_any _ n w)
theorem find_10 (r n : Int) : (vldB 10 r n = true → FindYes 10 r n) ∧ (vldB 10 r n = false → FindNo 10 r n) :=
  find_of 10 44 49 r n (by omega) (by omega) ⟨#[]⟩ (fun _ => by kernel_rfl) (fun _ _ => by kernel_rfl) (fun w => below_of_same (noName_any r w)) (fun _ _ => by kernel_rfl) (fun a b w => relative_any _ n (by simp only [loK] at a; omega) (by simp only [hiK] at b; omega) w)
theorem find_any (k r n : Int) : (vldB k r n = true → FindYes k r n) ∧ (vldB k r n = false → FindNo k r n) := by
  by_cases h : 1 ≤ k ∧ k ≤ 10
  · have hc : k = 1 ∨ k = 2 ∨ k = 3 ∨ k = 4 ∨ k = 5 ∨ k = 6 ∨ k = 7 ∨ k = 8 ∨ k = 9 ∨ k = 10 := by omega
    rcases hc with rfl | rfl | rfl | rfl | rfl | rfl | rfl | rfl | rfl | rfl
    · exact find_1 r n
    · exact find_2 r n
    · exact find_3 r n
    · exact find_4 r n
    · exact find_5 r n
    · exact find_6 r n
    · exact find_7 r n
    · exact find_8 r n
    · exact find_9 r n
    · exact find_10 r n
  · have hv : vldB k r n = false := by
      unfold vldB
      by_cases h1 : 1 ≤ k
      · rw [decide_eq_false (show ¬ k ≤ 10 by omega)]; simp
      · rw [decide_eq_false h1]; simp
    rw [hv]
    exact ⟨(fun h => Bool.noConfusion h), fun _ w => find_out k r n (by omega) w⟩

set_option maxHeartbeats 1000000 in
theorem valid_any (k r n : Int) (w : World) :
    Calls Tryd.prog 17 #[.agg #[.int .i64 k, .int .i64 r, .int .i64 n]] w fun e w' => e = .returned (.bool (vldB k r n)) ∧ Below w.heap.size w w' := by
  obtain ⟨hy, hn⟩ := find_any k r n
  cases hv : vldB k r n
  · have H := Lib.hid (hn hv)
    clear hy hn hv
    go_enter Tryd.func17, Tryd.ntmps17
    go_wp2_with fail
    refine (H.out _).mono ?_
    rintro e w1 ⟨rfl, hb⟩
    have N : Hid (Below w.heap.size w w1) := ((Below.refl _ _).alloc (Nat.le_refl _) _).trans (hb.mono (by simp))
    have hz := N.out.size
    clear hb
    go_wp2
    go_ret
    exact ⟨rfl, N.out.alloc hz _⟩
  · obtain ⟨fn, ff, lo, hi, s, h1, -, -⟩ := hy hv
    have H := Lib.hid h1
    clear hy hn hv h1
    go_enter Tryd.func17, Tryd.ntmps17
    go_wp2_with fail
    refine (H.out _).mono ?_
    rintro e w1 ⟨rfl, hb⟩
    have N : Hid (Below w.heap.size w w1) := ((Below.refl _ _).alloc (Nat.le_refl _) _).trans (hb.mono (by simp))
    have hz := N.out.size
    clear hb
    go_wp2
    go_ret
    exact ⟨rfl, N.out.alloc hz _⟩
theorem txt_no (k r n : Int) (h : vldB k r n = false) : txtS k r n = ⟨#[]⟩ := by unfold txtS; rw [h]; rfl
end Go.Proofs.YtbmgfkbgfgknbaaDoor
