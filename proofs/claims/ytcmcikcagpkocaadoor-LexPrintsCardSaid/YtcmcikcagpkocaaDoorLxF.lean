/-
  The walks over the sizes of words and numbers, of the program and of the reference.
-/
import Derived.Test.YtcmcikcagpkocaaDoorLxE
import Derived.Test.YtcmcikcagpkocaaDoorNumC
namespace Go.Proofs.YtcmcikcagpkocaaDoor
open Go.RowKit
set_option linter.unusedVariables false

theorem tw_at (p : UInt8 → Bool) (l : List UInt8) : ∀ k, k ≤ (l.takeWhile p).length → (h : k < l.length) → (p l[k] = true → k + 1 ≤ (l.takeWhile p).length) ∧ (p l[k] = false → (l.takeWhile p).length = k) := by
  induction l with
  | nil => intro k _ h; simp at h
  | cons a l ih =>
    intro k hk h
    rw [List.takeWhile_cons] at hk ⊢
    cases k with
    | zero =>
      constructor
      · intro e
        have e' : p a = true := e
        rw [if_pos e']; simp
      · intro e
        have e' : p a = false := e
        rw [if_neg (by rw [e']; simp)]; rfl
    | succ k =>
      by_cases ha : p a = true
      · rw [if_pos ha] at hk ⊢
        simp only [List.length_cons] at hk h ⊢
        have := ih k (by omega) (by omega)
        exact ⟨fun e => by have := this.1 e; omega, fun e => by have := this.2 e; omega⟩
      · rw [if_neg ha] at hk
        simp at hk
theorem at_list (s : ByteArray) (k : Nat) (h : k < s.size) (h' : k < s.data.toList.length) : s.data.toList[k]'h' = s[k] := by
  rw [Array.getElem_toList]
  rfl
theorem drop_at (s : ByteArray) (a k : Nat) (h : a + k < s.size) (h' : k < (s.data.toList.drop a).length) : (s.data.toList.drop a)[k]'h' = s[a + k] := by
  rw [List.getElem_drop]
  exact at_list s (a + k) h _
theorem ext_drop (s : ByteArray) (a : Nat) : (s.extract a s.size).data.toList = s.data.toList.drop a := by
  rw [Lib.extract_data]
  exact List.take_of_length_le (by simp)
theorem ext_take (s : ByteArray) (b : Nat) : (s.extract 0 b).data.toList = s.data.toList.take b := by
  rw [Lib.extract_data]
  simp
theorem ext_mid (s : ByteArray) (a b : Nat) : (s.extract a b).data.toList = (s.data.toList.drop a).take (b - a) := by
  rw [Lib.extract_data]
/-- Letters and digits go on up to the end. -/
theorem part_step (s : ByteArray) (a k : Nat) (h : a + k < s.size) (hk : k ≤ partN (s.data.toList.drop a)) :
    (wrdU s[a + k] = true → k + 1 ≤ partN (s.data.toList.drop a)) ∧ (wrdU s[a + k] = false → partN (s.data.toList.drop a) = k) := by
  have hl : s.data.toList.length = s.size := by simp
  have := tw_at wrdU (s.data.toList.drop a) k hk (by rw [List.length_drop]; omega)
  rw [drop_at s a k h] at this
  exact this
theorem part_end (s : ByteArray) (a k : Nat) (h : ¬ a + k < s.size) (hk : k ≤ partN (s.data.toList.drop a)) (ha : a ≤ s.size) : partN (s.data.toList.drop a) = k := by
  have hl : s.data.toList.length = s.size := by simp
  have := part_le (s.data.toList.drop a)
  rw [List.length_drop] at this
  omega
set_option maxHeartbeats 1000000 in
theorem partSize_any (s : ByteArray) (hs : s.size ≤ maxLen) (w : World) :
    Calls Tryd.prog 59 #[.string s] w fun e w' => e = .returned (.int .i64 (partN s.data.toList : Nat)) ∧ w = w' := by
  unfold maxLen at hs
  obtain ⟨m, hm⟩ : ∃ m, partN s.data.toList = m := ⟨_, rfl⟩
  have S := fun k (h : k < s.size) (hk : k ≤ m) => by have := part_step s 0 k (by omega) (by rw [List.drop_zero, hm]; exact hk); simp only [List.drop_zero, Nat.zero_add, hm] at this; exact this
  have EN := fun k (h : ¬ k < s.size) (hk : k ≤ m) => by have := part_end s 0 k (by omega) (by rw [List.drop_zero, hm]; exact hk) (Nat.zero_le _); simp only [List.drop_zero, hm] at this; exact this
  have S1 := Lib.hid S
  have E1 := Lib.hid EN
  rw [hm]
  clear hm S EN
  go_enter Tryd.func59, Tryd.ntmps59
  go_wp2
  go_loop [3] (fun v => ∃ k : Nat, v = .int .i64 k ∧ k ≤ s.size ∧ Hid (k ≤ m)) (fun v => s.size - (intOf v).toNat)
  case atStart => exact ⟨0, rfl, Nat.zero_le _, Nat.zero_le _⟩
  case round =>
    obtain ⟨k, rfl, hk, K⟩ := hrel
    by_cases h : k < s.size
    · have X1 := isLetter_any s[k] w
      have X2 := isDigit_any s[k] w
      have Y := S1.out k h K.out
      unfold wrdU at Y
      cases e1 : letU s[k]
      · rw [e1] at X1 Y
        cases e2 : dgtU s[k]
        · rw [e2] at X2 Y
          have N : Hid (m = k) := Y.2 rfl
          clear Y e1 e2
          go_wp2_with fail
          refine X1.mono ?_
          rintro e w' ⟨rfl, rfl⟩
          go_wp2_with fail
          refine X2.mono ?_
          rintro e w' ⟨rfl, rfl⟩
          go_wp2
          go_ret
          exact ⟨ret_int (by rw [N.out]), rfl⟩
        · rw [e2] at X2 Y
          have N : Hid (k + 1 ≤ m) := Y.1 rfl
          clear Y e1 e2
          go_wp2_with fail
          refine X1.mono ?_
          rintro e w' ⟨rfl, rfl⟩
          go_wp2_with fail
          refine X2.mono ?_
          rintro e w' ⟨rfl, rfl⟩
          go_wp2
          go_round
          case rel => exact ⟨k + 1, by go_num, h, N⟩
          case measure => simp [intOf]; omega
      · rw [e1] at X1 Y
        have N : Hid (k + 1 ≤ m) := Y.1 rfl
        clear Y e1 X2
        go_wp2_with fail
        refine X1.mono ?_
        rintro e w' ⟨rfl, rfl⟩
        go_wp2
        go_round
        case rel => exact ⟨k + 1, by go_num, h, N⟩
        case measure => simp [intOf]; omega
    · have N : Hid (m = k) := E1.out k h K.out
      go_wp2
      go_ret
      exact ⟨ret_int (by rw [N.out]), rfl⟩
end Go.Proofs.YtcmcikcagpkocaaDoor
