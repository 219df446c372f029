/-
  The walk over num.Text.
-/
import Derived.Test.YtcmcikcagpkocaaDoorNumG
namespace Go.Proofs.YtcmcikcagpkocaaDoor
open Go.RowKit
set_option linter.unusedVariables false

/-- The digits of n without zeros in front. -/
def digS (n : Int) : ByteArray := trimL 48 (hexS n 4)
theorem hexU_48 : ∀ x : Fin 16, (hexU (x.val : Int) = 48 ↔ x.val = 0) := by decide +kernel
theorem hexU_zero (x : Int) (h0 : 0 ≤ x) (h1 : x < 16) : hexU x = 48 ↔ x = 0 := by
  have h := hexU_48 ⟨x.toNat, by omega⟩
  have e : ((x.toNat : Nat) : Int) = x := by omega
  simp only [e] at h
  rw [h]
  omega
theorem hexS4 (n : Int) : (hexS n 4).data.toList = [hexU (digI n 3), hexU (digI n 2), hexU (digI n 1), hexU (digI n 0)] := by
  unfold hexS; simp [List.range_succ]
theorem digS_cases (n : Int) (h0 : 10 ≤ n) (h1 : n ≤ 65535) :
    (4096 ≤ n ∧ (digS n).data.toList = [hexU (digI n 3), hexU (digI n 2), hexU (digI n 1), hexU (digI n 0)] ∧ 1 ≤ digI n 3) ∨
    (n < 4096 ∧ 256 ≤ n ∧ (digS n).data.toList = [hexU (digI n 2), hexU (digI n 1), hexU (digI n 0)] ∧ 1 ≤ digI n 2) ∨
    (n < 256 ∧ 16 ≤ n ∧ (digS n).data.toList = [hexU (digI n 1), hexU (digI n 0)] ∧ 1 ≤ digI n 1) ∨
    (n < 16 ∧ (digS n).data.toList = [hexU (digI n 0)] ∧ 1 ≤ digI n 0) := by
  have z3 := hexU_zero (digI n 3) (digI_bd n 3).1 (digI_bd n 3).2
  have z2 := hexU_zero (digI n 2) (digI_bd n 2).1 (digI_bd n 2).2
  have z1 := hexU_zero (digI n 1) (digI_bd n 1).1 (digI_bd n 1).2
  have z0 := hexU_zero (digI n 0) (digI_bd n 0).1 (digI_bd n 0).2
  have d3 : digI n 3 = n / 4096 % 16 := by unfold digI; simp
  have d2 : digI n 2 = n / 256 % 16 := by unfold digI; simp
  have d1 : digI n 1 = n / 16 % 16 := by unfold digI; simp
  have d0 : digI n 0 = n % 16 := by unfold digI; simp
  have hl : (digS n).data.toList = List.dropWhile (· == 48) [hexU (digI n 3), hexU (digI n 2), hexU (digI n 1), hexU (digI n 0)] := by
    unfold digS trimL; rw [hexS4]
  rw [hl]
  simp only [List.dropWhile_cons, beq_iff_eq, z3, z2, z1, z0]
  by_cases c3 : 4096 ≤ n
  · left
    rw [if_neg (by omega)]
    exact ⟨c3, rfl, by omega⟩
  · right
    rw [if_pos (by omega)]
    by_cases c2 : 256 ≤ n
    · left
      rw [if_neg (by omega)]
      exact ⟨by omega, c2, rfl, by omega⟩
    · right
      rw [if_pos (by omega)]
      by_cases c1 : 16 ≤ n
      · left
        rw [if_neg (by omega)]
        exact ⟨by omega, c1, rfl, by omega⟩
      · right
        rw [if_pos (by omega), if_neg (by omega)]
        exact ⟨by omega, rfl, by omega⟩
theorem digS_pos (n : Int) (h0 : 10 ≤ n) (h1 : n ≤ 65535) : 0 < (digS n).size := by
  have hl : (digS n).data.toList.length = (digS n).size := by simp
  rcases digS_cases n h0 h1 with ⟨_, h, _⟩ | ⟨_, _, h, _⟩ | ⟨_, _, h, _⟩ | ⟨_, h, _⟩ <;> rw [h] at hl <;> simp at hl <;> omega

theorem trimL_le (c : UInt8) (s : ByteArray) : (trimL c s).size ≤ s.size := by
  show (List.dropWhile (· == c) s.data.toList).toArray.size ≤ s.data.size
  have h := (List.dropWhile_sublist (p := (· == c)) (l := s.data.toList)).length_le
  simpa using h
theorem digS_le (n : Int) : (digS n).size ≤ 4 := by
  have h := trimL_le 48 (hexS n 4)
  rw [hexS_size] at h
  exact h
theorem hexS4_max (n : Int) : (hexS n 4).size ≤ maxLen := by rw [hexS_size]; simp [maxLen]
theorem hex4_any (n : Int) (w : World) :
    Calls Tryd.prog 80 #[.int .i64 n, .int .i64 4] w fun e w' => e = .returned (.string (hexS n 4)) ∧ Below w.heap.size w w' := hex_any n 4 (by omega) w
theorem trimDig_any (n : Int) (w : World) :
    Calls Tryd.prog 71 #[.string (hexS n 4), .string ⟨#[48]⟩] w fun e w' => e = .returned (.string (digS n)) ∧ w = w' := trimLeft0_any _ (hexS4_max n) w
/-- The text of a number. -/
def textS (n : Int) : ByteArray :=
  if n < 0 ∨ 65535 < n then ⟨#[]⟩
  else if n < 10 then ⟨#[hexU n]⟩
  else if decB (((digS n).data.toList.getD 0 0).toNat : Int) then ⟨((digS n).data.toList ++ [72]).toArray⟩ else ⟨(48 :: (digS n).data.toList ++ [72]).toArray⟩
theorem fits16_yes (n : Int) (h0 : 0 ≤ n) (h1 : n ≤ 65535) : fitsB 0 65535 [n] = true := by simp [fitsB]; omega
theorem fits16_no (n : Int) (h : n < 0 ∨ 65535 < n) : fitsB 0 65535 [n] = false := by simp [fitsB]; omega
theorem text_small (n : Int) (h0 : 0 ≤ n) (h2 : n < 10) : hexTab.extract n.toNat (n + 1).toNat = textS n := by
  have t : ∀ i : Fin 10, hexTab.extract i.val (i.val + 1) = ⟨#[hexU (i.val : Int)]⟩ := by decide +kernel
  have h := t ⟨n.toNat, by omega⟩
  have e : ((n.toNat : Nat) : Int) = n := by omega
  have e2 : (n + 1).toNat = n.toNat + 1 := by omega
  simp only [e] at h
  unfold textS
  rw [if_neg (by omega), if_pos h2, e2]
  exact h
theorem getD0 (t : ByteArray) (h : 0 < t.size) : t.data.toList.getD 0 0 = t[0] := by
  rw [List.getD_eq_getElem?_getD, List.getElem?_eq_getElem (by simpa using h)]; rfl
theorem append_data (a b : ByteArray) : (a ++ b).data.toList = a.data.toList ++ b.data.toList := by simp
theorem text_dec (n : Int) (h0 : 10 ≤ n) (h1 : n ≤ 65535) (hp : 0 < (digS n).size) (h3 : decB ((digS n)[0].toNat : Int) = true) : digS n ++ ⟨#[72]⟩ = textS n := by
  apply bytes_ext
  unfold textS
  rw [if_neg (by omega), if_neg (by omega), getD0 _ hp, h3, append_data]
  simp
theorem text_let (n : Int) (h0 : 10 ≤ n) (h1 : n ≤ 65535) (hp : 0 < (digS n).size) (h3 : decB ((digS n)[0].toNat : Int) = false) : (⟨#[48]⟩ ++ digS n) ++ ⟨#[72]⟩ = textS n := by
  apply bytes_ext
  unfold textS
  rw [if_neg (by omega), if_neg (by omega), getD0 _ hp, h3, append_data, append_data]
  simp

set_option maxHeartbeats 400000 in
theorem text_any (n : Int) (w : World) :
    Calls Tryd.prog 56 #[.int .i64 n] w fun e w' => e = .returned (.string (textS n)) ∧ Below w.heap.size w w' := by
  by_cases h0 : n < 0 ∨ 65535 < n
  · have hF := fits16_no n h0
    have T := Lib.hid (show (⟨#[]⟩ : ByteArray) = textS n by unfold textS; rw [if_pos h0])
    clear h0
    go_enter Tryd.func56, Tryd.ntmps56
    go_wp2_with (go_at_call 79; refine (fits_any 0 65535 _ _ [n] (by simp [maxLen]) _ (ints_one _ _ _)).mono ?_; rintro e w' ⟨rfl, rfl⟩)
    go_ret
    exact ⟨ret_str T.out, (Below.refl _ _).alloc (Nat.le_refl _) _⟩
  · have h1 : n ≤ 65535 := by omega
    have h0' : 0 ≤ n := by omega
    have hF := fits16_yes n h0' h1
    clear h0
    by_cases h2 : n < 10
    · have T := Lib.hid (text_small n h0' h2)
      go_enter Tryd.func56, Tryd.ntmps56
      go_wp2_with (go_at_call 79; refine (fits_any 0 65535 _ _ [n] (by simp [maxLen]) _ (ints_one _ _ _)).mono ?_; rintro e w' ⟨rfl, rfl⟩)
      go_ret
      exact ⟨ret_str T.out, (Below.refl _ _).alloc (Nat.le_refl _) _⟩
    · have hp := digS_pos n (by omega) h1
      have hq := digS_le n
      have c0 : (0 : Int) ≤ ((digS n)[0].toNat : Int) := by omega
      have c1 : ((digS n)[0].toNat : Int) ≤ 255 := by have := (digS n)[0].toNat_lt; omega
      by_cases h3 : decB ((digS n)[0].toNat : Int) = true
      · have T := Lib.hid (text_dec n (by omega) h1 hp h3)
        go_enter Tryd.func56, Tryd.ntmps56
        go_wp2_with (first | (go_at_call 79; refine (fits_any 0 65535 _ _ [n] (by simp [maxLen]) _ (ints_one _ _ _)).mono ?_; rintro e w' ⟨rfl, rfl⟩) | (go_at_call 80; refine (hex4_any n _).mono ?_; rintro e w1 ⟨rfl, hb1⟩) | (go_at_call 71; refine (trimDig_any n _).mono ?_; rintro e w' ⟨rfl, rfl⟩) | (go_at_call 81; refine (isDecimal_any _ c0 c1 _).mono ?_; rintro e w' ⟨rfl, rfl⟩))
        go_ret
        exact ⟨ret_str T.out, ((Below.refl _ _).alloc (Nat.le_refl _) _).trans (hb1.mono (by simp))⟩
      · have h3' : decB ((digS n)[0].toNat : Int) = false := by simpa using h3
        clear h3
        have T := Lib.hid (text_let n (by omega) h1 hp h3')
        go_enter Tryd.func56, Tryd.ntmps56
        go_wp2_with (first | (go_at_call 79; refine (fits_any 0 65535 _ _ [n] (by simp [maxLen]) _ (ints_one _ _ _)).mono ?_; rintro e w' ⟨rfl, rfl⟩) | (go_at_call 80; refine (hex4_any n _).mono ?_; rintro e w1 ⟨rfl, hb1⟩) | (go_at_call 71; refine (trimDig_any n _).mono ?_; rintro e w' ⟨rfl, rfl⟩) | (go_at_call 81; refine (isDecimal_any _ c0 c1 _).mono ?_; rintro e w' ⟨rfl, rfl⟩))
        go_ret
        exact ⟨ret_str T.out, ((Below.refl _ _).alloc (Nat.le_refl _) _).trans (hb1.mono (by simp))⟩
end Go.Proofs.YtcmcikcagpkocaaDoor
