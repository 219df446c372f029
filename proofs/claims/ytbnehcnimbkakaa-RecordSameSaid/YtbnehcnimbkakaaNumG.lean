/-
  Walks over strings.TrimLeft (at the cutset "0") and num.Text.
-/
import Derived.Test.YtbnehcnimbkakaaNumF
namespace Go.Proofs.Ytbnehcnimbkakaa
open Go.RowKit
set_option linter.unusedVariables false

theorem extract_le (s : ByteArray) (a b : Nat) : (s.extract a b).size ≤ s.size := by simp; omega
theorem bytes_ext {a b : ByteArray} (h : a.data.toList = b.data.toList) : a = b := by
  apply ByteArray.ext
  exact Array.toList_inj.1 h
def strLen : Value → Nat
  | .string s => s.size
  | _ => 0
/-- The string without the bytes c in front. -/
def trimL (c : UInt8) (s : ByteArray) : ByteArray := ⟨(s.data.toList.dropWhile (· == c)).toArray⟩
theorem list_cons (t : ByteArray) (h : 0 < t.size) : t.data.toList = t[0] :: (t.extract 1 t.size).data.toList := by
  rw [Lib.extract_data]
  have hl : 0 < t.data.toList.length := by simpa using h
  have h1 := List.drop_eq_getElem_cons hl
  rw [List.drop_zero] at h1
  rw [List.take_of_length_le (by simp), ← show t.data.toList[0] = t[0] from rfl]
  exact h1
theorem trimL_same (c : UInt8) (t : ByteArray) (h : 0 < t.size) (e : t[0] = c) : trimL c (t.extract 1 t.size) = trimL c t := by
  apply bytes_ext
  unfold trimL
  simp only [list_cons t h, List.dropWhile_cons, e, beq_self_eq_true, if_true]
theorem trimL_stop (c : UInt8) (t : ByteArray) (h : 0 < t.size) (e : ¬ t[0] = c) : trimL c t = t := by
  apply bytes_ext
  unfold trimL
  show List.dropWhile (· == c) t.data.toList = _
  rw [list_cons t h, List.dropWhile_cons]
  simp [e]
theorem trimL_nil (c : UInt8) (t : ByteArray) (h : ¬ 0 < t.size) : trimL c t = t := by
  apply bytes_ext
  have h3 : t.data.toList.length = t.size := by simp
  have h1 : t.data.toList = [] := List.eq_nil_of_length_eq_zero (by omega)
  unfold trimL
  simp [h1]

end Go.Proofs.Ytbnehcnimbkakaa
