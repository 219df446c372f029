/-
  Walks over strings.CutPrefix, strings.CutSuffix and the functions that num.forms lists: for every word, what each cuts and whether the word has the form; the world is left as it was.
-/
import Derived.Test.YtbmgfkbgfgknbaaNumB
namespace Go.Proofs.Ytbmgfkbgfgknbaa
open Go.RowKit
set_option linter.unusedVariables false

theorem ret_bool {a b : Bool} (h : a = b) : Ending.returned (.bool a) = .returned (.bool b) := by rw [h]
theorem ret_str {a b : ByteArray} (h : a = b) : Ending.returned (.string a) = .returned (.string b) := by rw [h]
theorem ret_sb {a b : ByteArray} {p q : Bool} (h : a = b) (h' : p = q) : Ending.returned (.tuple #[.string a, .bool p]) = .returned (.tuple #[.string b, .bool q]) := by rw [h, h']
/-- Does s begin with p? -/
def preB (s p : ByteArray) : Bool := decide (p.size ≤ s.size) && ((s.extract 0 p.size).toList == p.toList)
/-- Does s end with p? -/
def sufB (s p : ByteArray) : Bool := decide (p.size ≤ s.size) && ((s.extract (s.size - p.size) s.size).toList == p.toList)
def cutPre (s p : ByteArray) : ByteArray := if preB s p then s.extract p.size s.size else s
def cutSuf (s p : ByteArray) : ByteArray := if sufB s p then s.extract 0 (s.size - p.size) else s
theorem preB_le {s p : ByteArray} (h : preB s p = true) : p.size ≤ s.size := by unfold preB at h; simp at h; exact h.1
theorem sufB_le {s p : ByteArray} (h : sufB s p = true) : p.size ≤ s.size := by unfold sufB at h; simp at h; exact h.1

/-- What the form number k cuts out of a word, and whether the word has the form. -/
def cutW (k : Nat) (u : ByteArray) : ByteArray := match k with
  | 0 => u
  | 1 => cutPre u ⟨#[48, 88]⟩
  | 2 => cutPre u ⟨#[36]⟩
  | 3 => cutSuf u ⟨#[72]⟩
  | 4 => cutSuf u ⟨#[66]⟩
  | _ => cutPre u ⟨#[37]⟩
/-- The H's form: the digits begin with a decimal digit. -/
def hexB (u : ByteArray) : Bool := sufB u ⟨#[72]⟩ && !(cutSuf u ⟨#[72]⟩).toList.isEmpty && decB (((cutSuf u ⟨#[72]⟩).data.toList.getD 0 0).toNat : Int)
def hasW (k : Nat) (u : ByteArray) : Bool := match k with
  | 0 => true
  | 1 => preB u ⟨#[48, 88]⟩
  | 2 => preB u ⟨#[36]⟩
  | 3 => hexB u
  | 4 => sufB u ⟨#[66]⟩
  | _ => preB u ⟨#[37]⟩

theorem hexB_no {u : ByteArray} (h : sufB u ⟨#[72]⟩ = false) : hexB u = false := by unfold hexB; rw [h]; rfl
theorem hexB_none {u : ByteArray} (h : (cutSuf u ⟨#[72]⟩).toList.isEmpty = true) : hexB u = false := by unfold hexB; rw [h]; simp
theorem hexB_dec {u : ByteArray} (h : sufB u ⟨#[72]⟩ = true) (h' : (cutSuf u ⟨#[72]⟩).toList.isEmpty = false) (h0 : 0 < (cutSuf u ⟨#[72]⟩).size) : hexB u = decB ((cutSuf u ⟨#[72]⟩)[0].toNat : Int) := by
  unfold hexB
  rw [h, h']
  have : (cutSuf u ⟨#[72]⟩).data.toList.getD 0 0 = (cutSuf u ⟨#[72]⟩)[0] := by
    rw [List.getD_eq_getElem?_getD, List.getElem?_eq_getElem (by simpa using h0)]; rfl
  rw [this]
  simp
theorem size_pos {s : ByteArray} (h : s.toList.isEmpty = false) : 0 < s.size := by
  rw [ByteArray.toList_eq] at h
  have h1 : s.data.toList.length = s.size := by simp
  cases hl : s.data.toList with
  | nil => rw [hl] at h; simp at h
  | cons a l => rw [hl] at h1; simp at h1; omega
end Go.Proofs.Ytbmgfkbgfgknbaa
