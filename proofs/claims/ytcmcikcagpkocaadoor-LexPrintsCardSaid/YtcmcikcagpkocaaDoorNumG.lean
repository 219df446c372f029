/-
  Walks over strings.TrimLeft (at the cutset "0") and num.Text.
-/
import Derived.Test.YtcmcikcagpkocaaDoorNumF
namespace Go.Proofs.YtcmcikcagpkocaaDoor
open Go.RowKit
set_option linter.unusedVariables false

theorem extract_le (s : ByteArray) (a b : Nat) : (s.extract a b).size ≤ s.size := by simp; omega
theorem bytes_ext {a b : ByteArray} (h : a.data.toList = b.data.toList) : a = b := by
  apply ByteArray.ext
  exact Array.toList_inj.1 h
def strLen : Value → Nat
  | .string s => s.size
  | _ => 0
/-- The string without the bytes c in front. -/
def trimL (c : UInt8) (s : ByteArray) : ByteArray := ⟨(s.data.toList.dropWhile (· == c)).toArray⟩
theorem list_cons (t : ByteArray) (h : 0 < t.size) : t.data.toList = t[0] :: (t.extract 1 t.size).data.toList := by
  rw [Lib.extract_data]
  have hl : 0 < t.data.toList.length := by simpa using h
  have h1 := List.drop_eq_getElem_cons hl
  rw [List.drop_zero] at h1
  rw [List.take_of_length_le (by simp), ← show t.data.toList[0] = t[0] from rfl]
  exact h1
theorem trimL_same (c : UInt8) (t : ByteArray) (h : 0 < t.size) (e : t[0] = c) : trimL c (t.extract 1 t.size) = trimL c t := by
  apply bytes_ext
  unfold trimL
  simp only [list_cons t h, List.dropWhile_cons, e, beq_self_eq_true, if_true]
theorem trimL_stop (c : UInt8) (t : ByteArray) (h : 0 < t.size) (e : ¬ t[0] = c) : trimL c t = t := by
  apply bytes_ext
  unfold trimL
  show List.dropWhile (· == c) t.data.toList = _
  rw [list_cons t h, List.dropWhile_cons]
  simp [e]
theorem trimL_nil (c : UInt8) (t : ByteArray) (h : ¬ 0 < t.size) : trimL c t = t := by
  apply bytes_ext
  have h3 : t.data.toList.length = t.size := by simp
  have h1 : t.data.toList = [] := List.eq_nil_of_length_eq_zero (by omega)
  unfold trimL
  simp [h1]

set_option maxHeartbeats 400000 in
theorem trimLeftByte_any (s : ByteArray) (c : UInt8) (hs : s.size ≤ maxLen) (w : World) :
    Calls Tryd.prog 94 #[.string s, .int .u8 (c.toNat : Int)] w fun e w' => e = .returned (.string (trimL c s)) ∧ w = w' := by
  unfold maxLen at hs
  go_enter Tryd.func94, Tryd.ntmps94
  go_wp2
  go_loop [0] (fun v => ∃ t : ByteArray, v = .string t ∧ t.size ≤ 2 ^ 63 - 1 ∧ Hid (trimL c t = trimL c s)) (fun v => strLen v)
  case atStart => exact ⟨s, rfl, hs, rfl⟩
  case round =>
    obtain ⟨t, rfl, ht, T⟩ := hrel
    by_cases h : 0 < t.size
    · have hne : ((t.size : Int) == 0) = false := by rw [beq_eq_false_iff_ne]; omega
      by_cases e : t[0] = c
      · have e1 : ((t[0].toNat : Int) == (c.toNat : Int)) = true := by rw [e]; simp
        have N : Hid (trimL c (t.extract 1 t.size) = trimL c s) := (trimL_same c t h e).trans T.out
        clear e
        go_wp2
        go_round
        case rel => exact ⟨_, rfl, Nat.le_trans (extract_le t 1 t.size) ht, N⟩
        case measure => simp [strLen]; omega
      · have e1 : ((t[0].toNat : Int) == (c.toNat : Int)) = false := by
          rw [beq_eq_false_iff_ne]
          intro h2
          exact e (UInt8.toNat_inj.1 (by omega))
        have N : Hid (t = trimL c s) := (trimL_stop c t h e).symm.trans T.out
        clear e
        go_wp2
        go_ret
        exact ⟨ret_str N.out, rfl⟩
    · have N : Hid (t = trimL c s) := (trimL_nil c t h).symm.trans T.out
      go_wp2
      go_ret
      exact ⟨ret_str N.out, rfl⟩

set_option maxHeartbeats 400000 in
set_option maxRecDepth 100000 in
theorem trimLeft0_any (s : ByteArray) (hs : s.size ≤ maxLen) (w : World) :
    Calls Tryd.prog 71 #[.string s, .string ⟨#[48]⟩] w fun e w' => e = .returned (.string (trimL 48 s)) ∧ w = w' := by
  have hs0 := hs
  unfold maxLen at hs
  by_cases h : s.toList.isEmpty = true
  · have h1 : ¬ 0 < s.size := by
      rw [ByteArray.toList_eq] at h
      have h2 : s.data.toList = [] := by simpa using h
      have h3 : s.data.toList.length = s.size := by simp
      rw [h2] at h3
      simp at h3
      omega
    have N := Lib.hid (trimL_nil 48 s h1).symm
    go_enter Tryd.func71, Tryd.ntmps71
    go_wp2
    go_ret
    exact ⟨ret_str N.out, rfl⟩
  · have h' : s.toList.isEmpty = false := by simpa using h
    clear h
    go_enter Tryd.func71, Tryd.ntmps71
    go_wp2_with (go_at_call 94; refine (trimLeftByte_any _ 48 hs0 _).mono ?_; rintro e w' ⟨rfl, rfl⟩)
    go_ret
    exact ⟨rfl, rfl⟩
end Go.Proofs.YtcmcikcagpkocaaDoor
