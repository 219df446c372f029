/-
  The walks over strings.TrimSuffix at a suffix that is there, strings.TrimRight and strings.Contains at a carriage return.
-/
import Derived.Test.YtmeegpdjhcilkaaDoorRdY
import Derived.Test.YtmeegpdjhcilkaaDoorRdS
namespace Go.Proofs.YtmeegpdjhcilkaaDoor
open Go.RowKit
set_option linter.unusedVariables false

theorem ix_neg (l : List UInt8) (c : UInt8) : -1 ≤ Lib.indexByte l c ∧ (Lib.indexByte l c < 0 → ∀ d ∈ l, d ≠ c) := by
  induction l with
  | nil => exact ⟨by show (-1 : Int) ≤ -1; omega, fun _ d hd => by cases hd⟩
  | cons a x ih =>
    obtain ⟨h1, h2⟩ := ih
    have e : Lib.indexByte (a :: x) c = if a == c then (0 : Int) else if Lib.indexByte x c == -1 then -1 else Lib.indexByte x c + 1 := rfl
    rw [e]
    by_cases ha : a = c
    · rw [if_pos (beq_iff_eq.2 ha)]
      exact ⟨by omega, fun h => by omega⟩
    · rw [if_neg (by simpa using ha)]
      by_cases hx : Lib.indexByte x c = -1
      · rw [if_pos (beq_iff_eq.2 hx)]
        refine ⟨by omega, fun _ d hd => ?_⟩
        rcases List.mem_cons.1 hd with rfl | hd
        · exact ha
        · exact h2 (by omega) d hd
      · rw [if_neg (by simpa using hx)]
        exact ⟨by omega, fun h => by omega⟩
set_option maxRecDepth 100000 in
set_option maxHeartbeats 2000000 in
theorem slIndex13_any (s : ByteArray) (w : World) :
    Calls Tryd.prog 81 #[.string s, .string ⟨#[13]⟩] w fun e w' => e = .returned (.int .i64 (Lib.indexByte s.data.toList 13)) ∧ w = w' := by
  have hsz : (⟨#[13]⟩ : ByteArray).size = 1 := rfl
  obtain ⟨q, hq⟩ : ∃ q, (([13] : List UInt8) == s.toList) = q := ⟨_, rfl⟩
  cases q
  · go_enter Tryd.func81, Tryd.ntmps81
    go_wp2_with fail
    refine (slIndexByte_any s 13 _).mono ?_
    rintro e w' ⟨rfl, rfl⟩
    go_wp2
    go_ret
    exact ⟨rfl, rfl⟩
  · have E : Hid (Lib.indexByte s.data.toList 13 = 0) := by
      show _ = _
      have h := eq_of_beq hq
      rw [ByteArray.toList_eq] at h
      rw [← h]
      rfl
    go_enter Tryd.func81, Tryd.ntmps81
    go_wp2
    go_ret
    rw [E.out]
    exact ⟨rfl, rfl⟩
theorem index13_any (s : ByteArray) (w : World) :
    Calls Tryd.prog 45 #[.string s, .string ⟨#[13]⟩] w fun e w' => e = .returned (.int .i64 (Lib.indexByte s.data.toList 13)) ∧ w = w' := by
  go_enter Tryd.func45, Tryd.ntmps45
  go_wp2_with fail
  refine (slIndex13_any s _).mono ?_
  rintro e w' ⟨rfl, rfl⟩
  go_wp2
  go_ret
  exact ⟨rfl, rfl⟩
def RetHas (x : List UInt8) (w : World) (e : Ending) (w' : World) : Prop := ∃ b, e = .returned (.bool b) ∧ (b = false → ∀ c ∈ x, c ≠ 13) ∧ w = w'
theorem contains13_any (x : List UInt8) (w : World) :
    Calls Tryd.prog 21 #[.string (strOf x), .string ⟨#[13]⟩] w (RetHas x w) := by
  have h := index13_any (strOf x) w
  obtain ⟨h1, h2⟩ := ix_neg x 13
  rw [strOf_list] at h
  obtain ⟨i, hi⟩ : ∃ i, Lib.indexByte x 13 = i := ⟨_, rfl⟩
  rw [hi] at h h1 h2
  have H2 : Hid (i < 0 → ∀ c ∈ x, c ≠ 13) := h2
  clear h1 h2 hi
  go_enter Tryd.func21, Tryd.ntmps21
  go_wp2_with fail
  refine h.mono ?_
  rintro e w' ⟨rfl, rfl⟩
  go_wp2
  go_ret
  exact ⟨_, rfl, fun hb => H2.out (by have := of_decide_eq_false hb; omega), rfl⟩
set_option maxHeartbeats 1000000 in
theorem slTrimEnd_any (y p : List UInt8) (hx : (y ++ p).length ≤ maxLen) (w : World) :
    Calls Tryd.prog 46 #[.string (strOf (y ++ p)), .string (strOf p)] w fun e w' => e = .returned (.string (strOf y)) ∧ w = w' := by
  have hs : (strOf (y ++ p)).size = y.length + p.length := by rw [strOf_size, List.length_append]
  have hp : (strOf p).size = p.length := strOf_size p
  rw [List.length_append] at hx
  have hsf := hasSuffix_any (strOf (y ++ p)) (strOf p) (by rw [hs]; exact hx) (by rw [hp]; omega) w
  have ht : sufB (strOf (y ++ p)) (strOf p) = true := by
    unfold sufB
    rw [ByteArray.toList_eq, ByteArray.toList_eq, Lib.extract_data, strOf_list, strOf_list, hs, hp]
    simp
  have hex : (strOf (y ++ p)).extract 0 ((strOf (y ++ p)).size - (strOf p).size) = strOf y := by
    apply bytes_ext
    rw [Lib.extract_data, strOf_list, strOf_list, hs, hp]
    simp
  rw [ht] at hsf
  obtain ⟨s, hs'⟩ : ∃ s, strOf (y ++ p) = s := ⟨_, rfl⟩
  obtain ⟨q, hq⟩ : ∃ q, strOf p = q := ⟨_, rfl⟩
  rw [hs', hq] at hsf hex ⊢
  rw [hs'] at hs
  rw [hq] at hp
  have hle : q.size ≤ s.size := by omega
  have hsb : s.size ≤ 9223372036854775807 := by unfold maxLen at hx; omega
  have E := Lib.hid hex
  clear ht hs' hq hs hp hex hx
  go_enter Tryd.func46, Tryd.ntmps46
  go_wp2_with fail
  refine hsf.mono ?_
  rintro e w' ⟨rfl, rfl⟩
  go_wp2
  go_ret
  exact ⟨ret_str E.out, rfl⟩
theorem trimEnd_any (y p : List UInt8) (hx : (y ++ p).length ≤ maxLen) (w : World) :
    Calls Tryd.prog 17 #[.string (strOf (y ++ p)), .string (strOf p)] w fun e w' => e = .returned (.string (strOf y)) ∧ w = w' := by
  have h := slTrimEnd_any y p hx w
  obtain ⟨s, hs'⟩ : ∃ s, strOf (y ++ p) = s := ⟨_, rfl⟩
  obtain ⟨q, hq⟩ : ∃ q, strOf p = q := ⟨_, rfl⟩
  obtain ⟨r, hr⟩ : ∃ r, strOf y = r := ⟨_, rfl⟩
  rw [hs', hq, hr] at h
  rw [hs', hq, hr]
  clear hs' hq hr hx
  go_enter Tryd.func17, Tryd.ntmps17
  go_wp2_with fail
  refine h.mono ?_
  rintro e w' ⟨rfl, rfl⟩
  go_wp2
  go_ret
  exact ⟨rfl, rfl⟩
end Go.Proofs.YtmeegpdjhcilkaaDoor
