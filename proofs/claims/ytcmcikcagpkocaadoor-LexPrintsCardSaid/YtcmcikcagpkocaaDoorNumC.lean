/-
  Walks over strings.CutPrefix, strings.CutSuffix and the functions that num.forms lists: for every word, what each cuts and whether the word has the form; the world is left as it was.
-/
import Derived.Test.YtcmcikcagpkocaaDoorNumB
namespace Go.Proofs.YtcmcikcagpkocaaDoor
open Go.RowKit
set_option linter.unusedVariables false

theorem ret_bool {a b : Bool} (h : a = b) : Ending.returned (.bool a) = .returned (.bool b) := by rw [h]
theorem ret_str {a b : ByteArray} (h : a = b) : Ending.returned (.string a) = .returned (.string b) := by rw [h]
theorem ret_sb {a b : ByteArray} {p q : Bool} (h : a = b) (h' : p = q) : Ending.returned (.tuple #[.string a, .bool p]) = .returned (.tuple #[.string b, .bool q]) := by rw [h, h']
/-- Does s begin with p? -/
def preB (s p : ByteArray) : Bool := decide (p.size ≤ s.size) && ((s.extract 0 p.size).toList == p.toList)
/-- Does s end with p? -/
def sufB (s p : ByteArray) : Bool := decide (p.size ≤ s.size) && ((s.extract (s.size - p.size) s.size).toList == p.toList)
def cutPre (s p : ByteArray) : ByteArray := if preB s p then s.extract p.size s.size else s
def cutSuf (s p : ByteArray) : ByteArray := if sufB s p then s.extract 0 (s.size - p.size) else s
theorem preB_le {s p : ByteArray} (h : preB s p = true) : p.size ≤ s.size := by unfold preB at h; simp at h; exact h.1
theorem sufB_le {s p : ByteArray} (h : sufB s p = true) : p.size ≤ s.size := by unfold sufB at h; simp at h; exact h.1

set_option maxHeartbeats 400000 in
theorem hasPrefix_any (s p : ByteArray) (hs : s.size ≤ maxLen) (hp : p.size ≤ maxLen) (w : World) :
    Calls Tryd.prog 67 #[.string s, .string p] w fun e w' => e = .returned (.bool (preB s p)) ∧ w = w' := by
  unfold maxLen at hs hp
  by_cases h : p.size ≤ s.size
  · go_enter Tryd.func67, Tryd.ntmps67
    go_wp2
    go_ret
    exact ⟨ret_bool (by unfold preB; rw [decide_eq_true h, Bool.true_and]), rfl⟩
  · go_enter Tryd.func67, Tryd.ntmps67
    go_wp2
    go_ret
    exact ⟨ret_bool (by unfold preB; rw [decide_eq_false h, Bool.false_and]), rfl⟩

set_option maxHeartbeats 400000 in
theorem hasSuffix_any (s p : ByteArray) (hs : s.size ≤ maxLen) (hp : p.size ≤ maxLen) (w : World) :
    Calls Tryd.prog 118 #[.string s, .string p] w fun e w' => e = .returned (.bool (sufB s p)) ∧ w = w' := by
  unfold maxLen at hs hp
  by_cases h : p.size ≤ s.size
  · go_enter Tryd.func118, Tryd.ntmps118
    go_wp2
    go_ret
    exact ⟨ret_bool (by unfold sufB; rw [decide_eq_true h, Bool.true_and]), rfl⟩
  · go_enter Tryd.func118, Tryd.ntmps118
    go_wp2
    go_ret
    exact ⟨ret_bool (by unfold sufB; rw [decide_eq_false h, Bool.false_and]), rfl⟩

set_option maxHeartbeats 400000 in
theorem slCutPrefix_any (s p : ByteArray) (hs : s.size ≤ maxLen) (hp : p.size ≤ maxLen) (w : World) :
    Calls Tryd.prog 115 #[.string s, .string p] w fun e w' => e = .returned (.tuple #[.string (cutPre s p), .bool (preB s p)]) ∧ w = w' := by
  have hs0 := hs
  have hp0 := hp
  unfold maxLen at hs hp
  by_cases h : preB s p = true
  · have hl := preB_le h
    have E := Lib.hid (show cutPre s p = s.extract p.size s.size by unfold cutPre; rw [if_pos h])
    go_enter Tryd.func115, Tryd.ntmps115
    go_wp2_with (go_at_call 67; refine (hasPrefix_any _ _ hs0 hp0 _).mono ?_; rintro e w' ⟨rfl, rfl⟩)
    go_ret2
    exact ⟨ret_sb E.out.symm h.symm, rfl⟩
  · have h' : preB s p = false := by simpa using h
    have E := Lib.hid (show cutPre s p = s by unfold cutPre; rw [h']; rfl)
    clear h
    go_enter Tryd.func115, Tryd.ntmps115
    go_wp2_with (go_at_call 67; refine (hasPrefix_any _ _ hs0 hp0 _).mono ?_; rintro e w' ⟨rfl, rfl⟩)
    go_ret2
    exact ⟨ret_sb E.out.symm h'.symm, rfl⟩

set_option maxHeartbeats 400000 in
theorem slCutSuffix_any (s p : ByteArray) (hs : s.size ≤ maxLen) (hp : p.size ≤ maxLen) (w : World) :
    Calls Tryd.prog 116 #[.string s, .string p] w fun e w' => e = .returned (.tuple #[.string (cutSuf s p), .bool (sufB s p)]) ∧ w = w' := by
  have hs0 := hs
  have hp0 := hp
  unfold maxLen at hs hp
  by_cases h : sufB s p = true
  · have hl := sufB_le h
    have E := Lib.hid (show cutSuf s p = s.extract 0 (s.size - p.size) by unfold cutSuf; rw [if_pos h])
    go_enter Tryd.func116, Tryd.ntmps116
    go_wp2_with (go_at_call 118; refine (hasSuffix_any _ _ hs0 hp0 _).mono ?_; rintro e w' ⟨rfl, rfl⟩)
    go_ret2
    exact ⟨ret_sb E.out.symm h.symm, rfl⟩
  · have h' : sufB s p = false := by simpa using h
    have E := Lib.hid (show cutSuf s p = s by unfold cutSuf; rw [h']; rfl)
    clear h
    go_enter Tryd.func116, Tryd.ntmps116
    go_wp2_with (go_at_call 118; refine (hasSuffix_any _ _ hs0 hp0 _).mono ?_; rintro e w' ⟨rfl, rfl⟩)
    go_ret2
    exact ⟨ret_sb E.out.symm h'.symm, rfl⟩

set_option maxHeartbeats 400000 in
theorem cutPrefix_any (s p : ByteArray) (hs : s.size ≤ maxLen) (hp : p.size ≤ maxLen) (w : World) :
    Calls Tryd.prog 106 #[.string s, .string p] w fun e w' => e = .returned (.tuple #[.string (cutPre s p), .bool (preB s p)]) ∧ w = w' := by
  go_enter Tryd.func106, Tryd.ntmps106
  go_wp2_with (go_at_call 115; refine (slCutPrefix_any _ _ hs hp _).mono ?_; rintro e w' ⟨rfl, rfl⟩)
  go_ret2
  exact ⟨rfl, rfl⟩

set_option maxHeartbeats 400000 in
theorem cutSuffix_any (s p : ByteArray) (hs : s.size ≤ maxLen) (hp : p.size ≤ maxLen) (w : World) :
    Calls Tryd.prog 110 #[.string s, .string p] w fun e w' => e = .returned (.tuple #[.string (cutSuf s p), .bool (sufB s p)]) ∧ w = w' := by
  go_enter Tryd.func110, Tryd.ntmps110
  go_wp2_with (go_at_call 116; refine (slCutSuffix_any _ _ hs hp _).mono ?_; rintro e w' ⟨rfl, rfl⟩)
  go_ret2
  exact ⟨rfl, rfl⟩

/-- What the form number k cuts out of a word, and whether the word has the form. -/
def cutW (k : Nat) (u : ByteArray) : ByteArray := match k with
  | 0 => u
  | 1 => cutPre u ⟨#[48, 88]⟩
  | 2 => cutPre u ⟨#[36]⟩
  | 3 => cutSuf u ⟨#[72]⟩
  | 4 => cutSuf u ⟨#[66]⟩
  | _ => cutPre u ⟨#[37]⟩
/-- The H's form: the digits begin with a decimal digit. -/
def hexB (u : ByteArray) : Bool := sufB u ⟨#[72]⟩ && !(cutSuf u ⟨#[72]⟩).toList.isEmpty && decB (((cutSuf u ⟨#[72]⟩).data.toList.getD 0 0).toNat : Int)
def hasW (k : Nat) (u : ByteArray) : Bool := match k with
  | 0 => true
  | 1 => preB u ⟨#[48, 88]⟩
  | 2 => preB u ⟨#[36]⟩
  | 3 => hexB u
  | 4 => sufB u ⟨#[66]⟩
  | _ => preB u ⟨#[37]⟩

set_option maxHeartbeats 400000 in
theorem form0_any (u : ByteArray) (hu : u.size ≤ maxLen) (w : World) :
    Calls Tryd.prog 104 #[.string u] w fun e w' => e = .returned (.tuple #[.string (cutW 0 u), .bool (hasW 0 u)]) ∧ w = w' := by
  go_enter Tryd.func104, Tryd.ntmps104
  go_wp2
  go_ret2
  exact ⟨rfl, rfl⟩
set_option maxHeartbeats 400000 in
theorem form1_any (u : ByteArray) (hu : u.size ≤ maxLen) (w : World) :
    Calls Tryd.prog 105 #[.string u] w fun e w' => e = .returned (.tuple #[.string (cutW 1 u), .bool (hasW 1 u)]) ∧ w = w' := by
  go_enter Tryd.func105, Tryd.ntmps105
  go_wp2_with (go_at_call 106; refine (cutPrefix_any _ _ hu (by decide) _).mono ?_; rintro e w' ⟨rfl, rfl⟩)
  go_ret2
  exact ⟨rfl, rfl⟩
set_option maxHeartbeats 400000 in
theorem form2_any (u : ByteArray) (hu : u.size ≤ maxLen) (w : World) :
    Calls Tryd.prog 107 #[.string u] w fun e w' => e = .returned (.tuple #[.string (cutW 2 u), .bool (hasW 2 u)]) ∧ w = w' := by
  go_enter Tryd.func107, Tryd.ntmps107
  go_wp2_with (go_at_call 106; refine (cutPrefix_any _ _ hu (by decide) _).mono ?_; rintro e w' ⟨rfl, rfl⟩)
  go_ret2
  exact ⟨rfl, rfl⟩
set_option maxHeartbeats 400000 in
theorem form4_any (u : ByteArray) (hu : u.size ≤ maxLen) (w : World) :
    Calls Tryd.prog 109 #[.string u] w fun e w' => e = .returned (.tuple #[.string (cutW 4 u), .bool (hasW 4 u)]) ∧ w = w' := by
  go_enter Tryd.func109, Tryd.ntmps109
  go_wp2_with (go_at_call 110; refine (cutSuffix_any _ _ hu (by decide) _).mono ?_; rintro e w' ⟨rfl, rfl⟩)
  go_ret2
  exact ⟨rfl, rfl⟩
set_option maxHeartbeats 400000 in
theorem form5_any (u : ByteArray) (hu : u.size ≤ maxLen) (w : World) :
    Calls Tryd.prog 111 #[.string u] w fun e w' => e = .returned (.tuple #[.string (cutW 5 u), .bool (hasW 5 u)]) ∧ w = w' := by
  go_enter Tryd.func111, Tryd.ntmps111
  go_wp2_with (go_at_call 106; refine (cutPrefix_any _ _ hu (by decide) _).mono ?_; rintro e w' ⟨rfl, rfl⟩)
  go_ret2
  exact ⟨rfl, rfl⟩
theorem hexB_no {u : ByteArray} (h : sufB u ⟨#[72]⟩ = false) : hexB u = false := by unfold hexB; rw [h]; rfl
theorem hexB_none {u : ByteArray} (h : (cutSuf u ⟨#[72]⟩).toList.isEmpty = true) : hexB u = false := by unfold hexB; rw [h]; simp
theorem hexB_dec {u : ByteArray} (h : sufB u ⟨#[72]⟩ = true) (h' : (cutSuf u ⟨#[72]⟩).toList.isEmpty = false) (h0 : 0 < (cutSuf u ⟨#[72]⟩).size) : hexB u = decB ((cutSuf u ⟨#[72]⟩)[0].toNat : Int) := by
  unfold hexB
  rw [h, h']
  have : (cutSuf u ⟨#[72]⟩).data.toList.getD 0 0 = (cutSuf u ⟨#[72]⟩)[0] := by
    rw [List.getD_eq_getElem?_getD, List.getElem?_eq_getElem (by simpa using h0)]; rfl
  rw [this]
  simp
theorem size_pos {s : ByteArray} (h : s.toList.isEmpty = false) : 0 < s.size := by
  rw [ByteArray.toList_eq] at h
  have h1 : s.data.toList.length = s.size := by simp
  cases hl : s.data.toList with
  | nil => rw [hl] at h; simp at h
  | cons a l => rw [hl] at h1; simp at h1; omega
set_option maxHeartbeats 400000 in
theorem form3_any (u : ByteArray) (hu : u.size ≤ maxLen) (w : World) :
    Calls Tryd.prog 108 #[.string u] w fun e w' => e = .returned (.tuple #[.string (cutW 3 u), .bool (hasW 3 u)]) ∧ w = w' := by
  by_cases h : sufB u ⟨#[72]⟩ = true
  · by_cases h' : (cutSuf u ⟨#[72]⟩).toList.isEmpty = true
    · have E := Lib.hid (hexB_none h')
      go_enter Tryd.func108, Tryd.ntmps108
      go_wp2_with (go_at_call 110; refine (cutSuffix_any _ _ hu (by decide) _).mono ?_; rintro e w' ⟨rfl, rfl⟩)
      go_ret2
      exact ⟨ret_sb rfl E.out.symm, rfl⟩
    · have h2 : (cutSuf u ⟨#[72]⟩).toList.isEmpty = false := by simpa using h'
      have h3 := size_pos h2
      clear h'
      have E := Lib.hid (hexB_dec h h2 h3)
      have c0 : (0 : Int) ≤ ((cutSuf u ⟨#[72]⟩)[0].toNat : Int) := by omega
      have c1 : ((cutSuf u ⟨#[72]⟩)[0].toNat : Int) ≤ 255 := by have := (cutSuf u ⟨#[72]⟩)[0].toNat_lt; omega
      go_enter Tryd.func108, Tryd.ntmps108
      go_wp2_with (first | (go_at_call 110; refine (cutSuffix_any _ _ hu (by decide) _).mono ?_; rintro e w' ⟨rfl, rfl⟩) | (go_at_call 81; refine (isDecimal_any _ c0 c1 _).mono ?_; rintro e w' ⟨rfl, rfl⟩))
      go_ret2
      exact ⟨ret_sb rfl E.out.symm, rfl⟩
  · have h2 : sufB u ⟨#[72]⟩ = false := by simpa using h
    clear h
    have E := Lib.hid (hexB_no h2)
    go_enter Tryd.func108, Tryd.ntmps108
    go_wp2_with (go_at_call 110; refine (cutSuffix_any _ _ hu (by decide) _).mono ?_; rintro e w' ⟨rfl, rfl⟩)
    go_ret2
    exact ⟨ret_sb rfl E.out.symm, rfl⟩
end Go.Proofs.YtcmcikcagpkocaaDoor
