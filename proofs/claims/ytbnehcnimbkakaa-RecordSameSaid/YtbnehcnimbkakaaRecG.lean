/-
  The walks over bytes.Equal, record.Same and breadboardref03.Same: for every two records, whether they have the same type, address and data; nothing that was there is changed.
-/
import Derived.Test.YtbnehcnimbkakaaRecB
import Derived.Laws.BytesArg
namespace Go.Proofs.Ytbnehcnimbkakaa
open Go.RowKit
set_option linter.unusedVariables false

/-- The string of bytes. -/
def strOf (xs : List UInt8) : ByteArray := ⟨xs.toArray⟩
theorem conv_bytes {P : Nat → Prop} {w : World} {A : Option Addr} {xs : List UInt8} (h : BytesP P w A xs) (cap : Nat) :
    (convert 22 9 (.slice A xs.length cap)).run Try.prog w = .ok (.string (strOf xs)) w := by
  cases A with
  | none =>
    obtain rfl : xs = [] := by
      rcases h with h | ⟨b, off, h, _⟩
      · exact h
      · cases h
    rw [run_convert_bytes_nil (P := Try.prog) w 22 5 Try.underlying22 Try.underlying5 _ _ 9 Try.underlying9]
    rfl
  | some a =>
    refine run_convert_bytes_back w 22 9 5 a cap xs Try.underlying22 Try.underlying5 Try.underlying9 (fun j hj => ?_)
    rcases h with rfl | ⟨b, off, e, _, hc⟩
    · simp at hj
    · cases e
      have h1 := hc j hj
      unfold Addr.add
      split
      · rename_i h0; subst h0; simpa using h1
      · exact h1
theorem strOf_eq (xs ys : List UInt8) : ((strOf xs).toList == (strOf ys).toList) = decide (xs = ys) := by
  rw [ByteArray.toList_eq, ByteArray.toList_eq]
  unfold strOf
  simp only
  by_cases h : xs = ys
  · rw [h]; simp
  · rw [decide_eq_false h]; simpa using h
set_option maxHeartbeats 400000 in
theorem bequal_any (P Q : Nat → Prop) (A1 A2 : Option Addr) (c1 c2 : Nat) (xs ys : List UInt8) (w : World) (h1 : BytesP P w A1 xs) (h2 : BytesP Q w A2 ys) :
    Calls Try.prog 38 #[.slice A1 xs.length c1, .slice A2 ys.length c2] w fun e w' => e = .returned (.bool (decide (xs = ys))) ∧ w = w' := by
  have g1 := conv_bytes h1 c1
  have g2 := conv_bytes h2 c2
  have E := Lib.hid (strOf_eq xs ys)
  clear h1 h2
  go_enter Try.func38, Try.ntmps38
  go_wp2
  go_ret
  exact ⟨ret_bool E.out, rfl⟩

/-- Have two records the same type, address and data? -/
def sameR (T1 a1 : Int) (D1 : List UInt8) (T2 a2 : Int) (D2 : List UInt8) : Bool := decide (T1 = T2) && (decide (a1 = a2) && decide (D1 = D2))
theorem sameR_no1 {T1 a1 : Int} {D1 : List UInt8} {T2 a2 : Int} {D2 : List UInt8} (h : ¬ T1 = T2) : sameR T1 a1 D1 T2 a2 D2 = false := by unfold sameR; simp [h]
theorem sameR_no2 {T1 a1 : Int} {D1 : List UInt8} {T2 a2 : Int} {D2 : List UInt8} (h : ¬ a1 = a2) : sameR T1 a1 D1 T2 a2 D2 = false := by unfold sameR; simp [h]
theorem sameR_yes {T1 a1 : Int} {D1 : List UInt8} {D2 : List UInt8} : sameR T1 a1 D1 T1 a1 D2 = decide (D1 = D2) := by unfold sameR; simp
theorem ibeq_ne {a b : Int} (h : ¬ a = b) : (a == b) = false := by simpa using h

set_option maxHeartbeats 1000000 in
theorem same_any (P Q : Nat → Prop) (T1 a1 : Int) (A1 : Option Addr) (c1 : Nat) (D1 : List UInt8) (T2 a2 : Int) (A2 : Option Addr) (c2 : Nat) (D2 : List UInt8) (w : World) (h1 : BytesP P w A1 D1) (h2 : BytesP Q w A2 D2) :
    Calls Try.prog 15 #[.agg #[.int .i64 T1, .int .i64 a1, .slice A1 D1.length c1], .agg #[.int .i64 T2, .int .i64 a2, .slice A2 D2.length c2]] w fun e w' =>
      e = .returned (.bool (sameR T1 a1 D1 T2 a2 D2)) ∧ Below w.heap.size w w' := by
  have X1 := Lib.hid h1
  have X2 := Lib.hid h2
  clear h1 h2
  by_cases hT : T1 = T2
  · subst hT
    by_cases ha : a1 = a2
    · subst ha
      have N := Lib.hid (sameR_yes (T1 := T1) (a1 := a1) (D1 := D1) (D2 := D2))
      have hb : ∀ o1 o2, Below w.heap.size w ((w.alloc o1).alloc o2) := fun o1 o2 => ((Below.refl _ _).alloc (Nat.le_refl _) _).alloc (by simp) _
      have HB := Lib.hid hb
      clear hb
      have hc := fun o1 o2 => bequal_any P Q A1 A2 c1 c2 D1 D2 ((w.alloc o1).alloc o2) (X1.out.below (HB.out o1 o2)) (X2.out.below (HB.out o1 o2))
      go_enter Try.func15, Try.ntmps15
      go_wp2_with fail
      refine (hc _ _).mono ?_
      rintro e w1 ⟨rfl, rfl⟩
      clear hc
      go_wp2
      go_ret
      exact ⟨ret_bool N.out.symm, HB.out _ _⟩
    · have N := Lib.hid (sameR_no2 (T1 := T1) (D1 := D1) (T2 := T1) (D2 := D2) ha)
      have ha' := ibeq_ne ha
      clear ha
      go_enter Try.func15, Try.ntmps15
      go_wp2
      go_ret
      exact ⟨ret_bool N.out.symm, ((Below.refl _ _).alloc (Nat.le_refl _) _).alloc (by simp) _⟩
  · have N := Lib.hid (sameR_no1 (a1 := a1) (D1 := D1) (a2 := a2) (D2 := D2) hT)
    have hT' := ibeq_ne hT
    clear hT
    go_enter Try.func15, Try.ntmps15
    go_wp2
    go_ret
    exact ⟨ret_bool N.out.symm, ((Below.refl _ _).alloc (Nat.le_refl _) _).alloc (by simp) _⟩

set_option maxHeartbeats 1000000 in
theorem rsame_any (P Q : Nat → Prop) (T1 a1 : Int) (A1 : Option Addr) (c1 : Nat) (D1 : List UInt8) (T2 a2 : Int) (A2 : Option Addr) (c2 : Nat) (D2 : List UInt8) (w : World) (h1 : BytesP P w A1 D1) (h2 : BytesP Q w A2 D2) :
    Calls Try.prog 14 #[.agg #[.int .i64 T1, .int .i64 a1, .slice A1 D1.length c1], .agg #[.int .i64 T2, .int .i64 a2, .slice A2 D2.length c2]] w fun e w' =>
      e = .returned (.bool (sameR T1 a1 D1 T2 a2 D2)) ∧ Below w.heap.size w w' := by
  have X1 := Lib.hid h1
  have X2 := Lib.hid h2
  clear h1 h2
  by_cases hT : T1 = T2
  · subst hT
    by_cases ha : a1 = a2
    · subst ha
      have N := Lib.hid (sameR_yes (T1 := T1) (a1 := a1) (D1 := D1) (D2 := D2))
      have hb : ∀ o1 o2, Below w.heap.size w ((w.alloc o1).alloc o2) := fun o1 o2 => ((Below.refl _ _).alloc (Nat.le_refl _) _).alloc (by simp) _
      have HB := Lib.hid hb
      clear hb
      have g1 := fun o1 o2 => conv_bytes (X1.out.below (HB.out o1 o2)) c1
      have g2 := fun o1 o2 => conv_bytes (X2.out.below (HB.out o1 o2)) c2
      have E := Lib.hid (strOf_eq D1 D2)
      go_enter Try.func14, Try.ntmps14
      go_wp2
      go_ret
      exact ⟨ret_bool (by rw [N.out]; exact E.out), HB.out _ _⟩
    · have N := Lib.hid (sameR_no2 (T1 := T1) (D1 := D1) (T2 := T1) (D2 := D2) ha)
      have ha' := ibeq_ne ha
      clear ha
      go_enter Try.func14, Try.ntmps14
      go_wp2
      go_ret
      exact ⟨ret_bool N.out.symm, ((Below.refl _ _).alloc (Nat.le_refl _) _).alloc (by simp) _⟩
  · have N := Lib.hid (sameR_no1 (a1 := a1) (D1 := D1) (a2 := a2) (D2 := D2) hT)
    have hT' := ibeq_ne hT
    clear hT
    go_enter Try.func14, Try.ntmps14
    go_wp2
    go_ret
    exact ⟨ret_bool N.out.symm, ((Below.refl _ _).alloc (Nat.le_refl _) _).alloc (by simp) _⟩
end Go.Proofs.Ytbnehcnimbkakaa
