/-
  Opening operands that came in; a valid operand's form is not empty.
-/
import Derived.Test.YtbcbhdhhinopaaaDoorOpM
import Derived.Test.YtbcbhdhhinopaaaDoorOpJ
import Derived.Lib.SmallJoins
import Derived.Deep.Slices
import Derived.Deep.Fields
import Derived.ChangeSame
import Derived.OpenShut
namespace Go.Proofs.YtbcbhdhhinopaaaDoor
open Go.RowKit Go.ChangeShapes Go.WideShapes Go.Deep
set_option linter.unusedVariables false

section
variable {H : Type} {enc : TypeId × Value → H} {w : World} {spare : Nat → Bool} {fuel : Nat}
set_option maxRecDepth 100000 in
theorem open_opd {b0 : Nat} {v : Value} {d : DataW H} {p : List MemPlace} (hv : Value.okWide Tryd.prog w .any b0 23 v) (h : DataW.Trod enc Tryd.prog w 0 spare true 23 v d p) :
    ∃ k r n : Int, v = .agg #[.int .i64 k, .int .i64 r, .int .i64 n] := by
  obtain ⟨c0, c1, c2, y0, y1, y2, n, rfl, -, -, h0, h1, h2⟩ := Joins.open_agg3 Tryd.underlying23 (by kernel_rfl) (by kernel_rfl) hv h
  obtain ⟨t, e0, _, _⟩ := DataW.trod_int Tryd.underlying3 h0
  obtain ⟨a, e1, _, _⟩ := DataW.trod_int Tryd.underlying3 h1
  obtain ⟨b, e2, _, _⟩ := DataW.trod_int Tryd.underlying3 h2
  have e0' : c0 = .int .i64 t := by simpa using e0
  have e1' : c1 = .int .i64 a := by simpa using e1
  have e2' : c2 = .int .i64 b := by simpa using e2
  subst e0' e1' e2'
  exact ⟨t, a, b, rfl⟩
end
theorem neB_pos {s : ByteArray} (h : 0 < s.size) : neB s = true := by
  unfold neB
  cases hb : s.toList.isEmpty
  · rfl
  · rw [ByteArray.toList_eq] at hb
    have h1 : s.data.toList.length = s.size := by simp
    rw [List.isEmpty_iff.1 hb] at h1
    simp at h1
    omega
theorem textS_pos (n : Int) (h0 : 0 ≤ n) (h1 : n ≤ 65535) : 0 < (textS n).size := by
  unfold textS
  rw [if_neg (by omega)]
  split
  · show 0 < (#[_] : Array UInt8).size; simp
  · split
    · show 0 < ((digS n).data.toList ++ [72]).toArray.size; rw [List.size_toArray, List.length_append]; simp
    · show 0 < (48 :: (digS n).data.toList ++ [72]).toArray.size; rw [List.size_toArray, List.length_append]; simp
theorem offS_pos (n : Int) : 0 < (offS n).size := by
  unfold offS
  split
  · rw [ByteArray.size_append]; show 0 < 1 + _; omega
  · rw [ByteArray.size_append]; show 0 < 1 + _; omega
theorem brS_pos (s : ByteArray) : 0 < (brS s).size := by
  unfold brS
  rw [ByteArray.size_append, ByteArray.size_append]
  show 0 < 1 + _ + _
  omega
theorem txt_ne (k r n : Int) : neB (txtS k r n) = vldB k r n := by
  cases hv : vldB k r n
  · rw [txt_no k r n hv, neB_nil]
  · have hk := vld_kind k r n hv
    rw [txt_yes k r n hv]
    rcases hk with rfl | rfl | rfl | rfl | rfl | rfl | rfl | rfl | rfl | rfl
    · rw [vld_1, Bool.and_eq_true] at hv; exact hv.1
    · rw [vld_2, Bool.and_eq_true] at hv; exact hv.1
    · rw [vld_3, Bool.and_eq_true] at hv; exact hv.1
    · exact neB_pos (brS_pos _)
    · exact neB_pos (brS_pos _)
    · rw [vld_6, Bool.and_eq_true, Bool.and_eq_true, decide_eq_true_eq, decide_eq_true_eq] at hv
      show neB (if n < 0 then offS n else textS n) = true
      split
      · exact neB_pos (offS_pos _)
      · exact neB_pos (textS_pos _ (by omega) (by omega))
    · exact neB_pos (brS_pos _)
    · rw [vld_8, Bool.and_eq_true] at hv; exact hv.1
    · rw [vld_9, Bool.and_eq_true] at hv; exact hv.1
    · refine neB_pos ?_
      show 0 < (⟨#[36]⟩ ++ offS (n + 2)).size
      rw [ByteArray.size_append]
      show 0 < 1 + _
      omega
end Go.Proofs.YtbcbhdhhinopaaaDoor
