/-
  Walks over the functions that write the forms of operands.
-/
import Derived.Test.YtbmgfkbgfgknbaaDoorOpB
namespace Go.Proofs.YtbmgfkbgfgknbaaDoor
open Go.RowKit
set_option linter.unusedVariables false

/-- A number with its sign. -/
def offS (n : Int) : ByteArray := if n < 0 then ⟨#[45]⟩ ++ textS (-n) else ⟨#[43]⟩ ++ textS n
def brS (s : ByteArray) : ByteArray := ⟨#[40]⟩ ++ s ++ ⟨#[41]⟩
/-- The form of an operand of kind k with the name s. -/
def formS (k : Nat) (s : ByteArray) (n : Int) : ByteArray := match k with
  | 4 => brS s
  | 5 => brS (s ++ offS n)
  | 6 => if n < 0 then offS n else textS n
  | 7 => brS (textS n)
  | 10 => ⟨#[36]⟩ ++ offS (n + 2)
  | _ => s

theorem textS_le (n : Int) : (textS n).size ≤ 6 := by
  have h := digS_le n
  have h1 : (digS n).data.toList.length = (digS n).size := by simp
  unfold textS
  split
  · show (#[] : Array UInt8).size ≤ 6; simp
  · split
    · show (#[_] : Array UInt8).size ≤ 6; simp
    · split
      · show ((digS n).data.toList ++ [72]).toArray.size ≤ 6; rw [List.size_toArray, List.length_append, h1]; simp; omega
      · show (48 :: (digS n).data.toList ++ [72]).toArray.size ≤ 6; rw [List.size_toArray, List.length_append, List.length_cons, h1]; simp; omega
theorem offS_le (n : Int) : (offS n).size ≤ 7 := by
  unfold offS
  split
  · have := textS_le (-n); rw [ByteArray.size_append]; show 1 + _ ≤ 7; omega
  · have := textS_le n; rw [ByteArray.size_append]; show 1 + _ ≤ 7; omega
set_option maxHeartbeats 1000000 in
theorem brackets_any (s : ByteArray) (hs : s.size ≤ 100) (w : World) :
    Calls Tryd.prog 52 #[.string s] w fun e w' => e = .returned (.string (brS s)) ∧ w = w' := by
  go_enter Tryd.func52, Tryd.ntmps52
  go_wp2
  go_ret
  exact ⟨rfl, rfl⟩
set_option maxHeartbeats 1000000 in
theorem offset_any (n : Int) (h0 : -100000 ≤ n) (h1 : n ≤ 100000) (w : World) :
    Calls Tryd.prog 53 #[.int .i64 n] w fun e w' => e = .returned (.string (offS n)) ∧ Below w.heap.size w w' := by
  by_cases h : n < 0
  · have T := Lib.hid (show ⟨#[45]⟩ ++ textS (-n) = offS n by unfold offS; rw [if_pos h])
    go_enter Tryd.func53, Tryd.ntmps53
    go_wp2_with fail
    refine (text_any _ _).mono ?_
    rintro e w' ⟨rfl, hb⟩
    have N := Lib.hid hb
    have zt := textS_le n
    have zn := textS_le (-n)
    clear hb
    go_wp2
    go_ret
    exact ⟨ret_str T.out, N.out⟩
  · have T := Lib.hid (show ⟨#[43]⟩ ++ textS n = offS n by unfold offS; rw [if_neg h])
    go_enter Tryd.func53, Tryd.ntmps53
    go_wp2_with fail
    refine (text_any _ _).mono ?_
    rintro e w' ⟨rfl, hb⟩
    have N := Lib.hid hb
    have zt := textS_le n
    have zn := textS_le (-n)
    clear hb
    go_wp2
    go_ret
    exact ⟨ret_str T.out, N.out⟩
set_option maxHeartbeats 1000000 in
theorem plain_any (s : ByteArray) (n : Int) (w : World) :
    Calls Tryd.prog 37 #[.string s, .int .i64 n] w fun e w' => e = .returned (.string s) ∧ Below w.heap.size w w' := by
  go_enter Tryd.func37, Tryd.ntmps37
  go_wp2
  go_ret
  exact ⟨rfl, Below.refl _ _⟩
set_option maxHeartbeats 1000000 in
theorem pointer_any (s : ByteArray) (n : Int) (hs : s.size ≤ 50) (w : World) :
    Calls Tryd.prog 41 #[.string s, .int .i64 n] w fun e w' => e = .returned (.string (brS s)) ∧ Below w.heap.size w w' := by
  go_enter Tryd.func41, Tryd.ntmps41
  go_wp2_with fail
  refine (brackets_any _ (by first | (rw [ByteArray.size_append]; omega) | omega) _).mono ?_
  rintro e w' ⟨rfl, rfl⟩
  go_wp2
  go_ret
  exact ⟨rfl, Below.refl _ _⟩
set_option maxHeartbeats 1000000 in
theorem indexed_any (s : ByteArray) (n : Int) (hs : s.size ≤ 50) (h0 : -100000 ≤ n) (h1 : n ≤ 100000) (w : World) :
    Calls Tryd.prog 43 #[.string s, .int .i64 n] w fun e w' => e = .returned (.string (brS (s ++ offS n))) ∧ Below w.heap.size w w' := by
  go_enter Tryd.func43, Tryd.ntmps43
  go_wp2_with fail
  refine (offset_any _ h0 h1 _).mono ?_
  rintro e w' ⟨rfl, hb⟩
  have N := Lib.hid hb
  have zt := textS_le n
  have zo := offS_le n
  have zp := offS_le (n + 2)
  clear hb
  go_wp2_with fail
  refine (brackets_any _ (by first | (rw [ByteArray.size_append]; omega) | omega) _).mono ?_
  rintro e w' ⟨rfl, rfl⟩
  go_wp2
  go_ret
  exact ⟨rfl, N.out⟩
set_option maxHeartbeats 1000000 in
theorem immediate_any (s : ByteArray) (n : Int) (h0 : -100000 ≤ n) (h1 : n ≤ 100000) (w : World) :
    Calls Tryd.prog 45 #[.string s, .int .i64 n] w fun e w' => e = .returned (.string (formS 6 s n)) ∧ Below w.heap.size w w' := by
  by_cases h : n < 0
  · have T := Lib.hid (show offS n = formS 6 s n by show _ = if n < 0 then offS n else textS n; rw [if_pos h])
    go_enter Tryd.func45, Tryd.ntmps45
    go_wp2_with fail
    refine (offset_any _ h0 h1 _).mono ?_
    rintro e w' ⟨rfl, hb⟩
    have N := Lib.hid hb
    have zt := textS_le n
    have zn := textS_le (-n)
    clear hb
    go_wp2
    go_ret
    exact ⟨ret_str T.out, N.out⟩
  · have T := Lib.hid (show textS n = formS 6 s n by show _ = if n < 0 then offS n else textS n; rw [if_neg h])
    go_enter Tryd.func45, Tryd.ntmps45
    go_wp2_with fail
    refine (text_any _ _).mono ?_
    rintro e w' ⟨rfl, hb⟩
    have N := Lib.hid hb
    have zt := textS_le n
    have zn := textS_le (-n)
    clear hb
    go_wp2
    go_ret
    exact ⟨ret_str T.out, N.out⟩
set_option maxHeartbeats 1000000 in
theorem memory_any (s : ByteArray) (n : Int) (w : World) :
    Calls Tryd.prog 46 #[.string s, .int .i64 n] w fun e w' => e = .returned (.string (brS (textS n))) ∧ Below w.heap.size w w' := by
  go_enter Tryd.func46, Tryd.ntmps46
  go_wp2_with fail
  refine (text_any _ _).mono ?_
  rintro e w' ⟨rfl, hb⟩
  have N := Lib.hid hb
  have zt := textS_le n
  have zo := offS_le n
  have zp := offS_le (n + 2)
  clear hb
  go_wp2_with fail
  refine (brackets_any _ (by first | (rw [ByteArray.size_append]; omega) | omega) _).mono ?_
  rintro e w' ⟨rfl, rfl⟩
  go_wp2
  go_ret
  exact ⟨rfl, N.out⟩
set_option maxHeartbeats 1000000 in
theorem relative_any (s : ByteArray) (n : Int) (h0 : -1000 ≤ n) (h1 : n ≤ 1000) (w : World) :
    Calls Tryd.prog 49 #[.string s, .int .i64 n] w fun e w' => e = .returned (.string (⟨#[36]⟩ ++ offS (n + 2))) ∧ Below w.heap.size w w' := by
  go_enter Tryd.func49, Tryd.ntmps49
  go_wp2_with fail
  refine (offset_any (n + 2) (by omega) (by omega) _).mono ?_
  rintro e w' ⟨rfl, hb⟩
  have N := Lib.hid hb
  have zt := textS_le n
  have zo := offS_le n
  have zp := offS_le (n + 2)
  clear hb
  go_wp2
  go_ret
  exact ⟨rfl, N.out⟩
end Go.Proofs.YtbmgfkbgfgknbaaDoor
