/-
  The walk over num.Parse: for every word the number of the first form that it has, or 0 and false; nothing that was there is changed.
-/
import Derived.Test.YtbmgfkbgfgknbaaDoorNumD
import Derived.Test.YtbmgfkbgfgknbaaDoorNumG
import Derived.Laws.EntriesVeiled
namespace Go.Proofs.YtbmgfkbgfgknbaaDoor
open Go.RowKit
set_option linter.unusedVariables false

def baseW (k : Nat) : Int := match k with
  | 0 => 10
  | 1 => 16
  | 2 => 16
  | 3 => 16
  | _ => 2
/-- The number that the word u (in capital letters) denotes in the form k. -/
def attO (k : Nat) (u : ByteArray) : Option Int := if hasW k u = true then rdO (baseW k) (cutW k u) else none
/-- The first form before k that the word has. -/
def firstO (u : ByteArray) : Nat → Option Int
  | 0 => none
  | k + 1 => (firstO u k).or (attO k u)
def parO (s : ByteArray) : Option Int := firstO (upB s) 6
def parV (s : ByteArray) : Int := (parO s).getD 0
def parOk (s : ByteArray) : Bool := (parO s).isSome
theorem first_none (u : ByteArray) (k : Nat) (h : firstO u k = none) (h' : attO k u = none) : firstO u (k + 1) = none := by show (firstO u k).or (attO k u) = none; rw [h, h']; rfl
theorem first_some (u : ByteArray) (x : Int) : ∀ (m k : Nat), k < m → firstO u k = none → attO k u = some x → firstO u m = some x
  | 0, k, h, _, _ => by omega
  | m + 1, k, h, hn, hx => by
    show (firstO u m).or (attO m u) = some x
    by_cases e : k = m
    · subst e; rw [hn, hx]; rfl
    · rw [first_some u x m k (by omega) hn hx]; rfl
theorem par_hit (s : ByteArray) (k : Nat) (hk : k < 6) (h : firstO (upB s) k = none) (hA : hasW k (upB s) = true) (hB : rdOk (baseW k) (cutW k (upB s)) = true) :
    parV s = rdV (baseW k) (cutW k (upB s)) ∧ parOk s = true := by
  unfold rdOk at hB
  obtain ⟨x, hx⟩ := Option.isSome_iff_exists.1 hB
  have h1 : parO s = some x := first_some (upB s) x 6 k hk h (by unfold attO; rw [if_pos hA]; exact hx)
  unfold parV parOk rdV
  rw [h1, hx]
  exact ⟨rfl, rfl⟩
theorem par_miss (s : ByteArray) (h : firstO (upB s) 6 = none) : parV s = 0 ∧ parOk s = false := by
  unfold parV parOk parO
  rw [h]
  exact ⟨rfl, rfl⟩
theorem att_no (k : Nat) (u : ByteArray) (hA : hasW k u = false) : attO k u = none := by unfold attO; rw [hA]; rfl
theorem att_bad (k : Nat) (u : ByteArray) (hA : hasW k u = true) (hB : rdOk (baseW k) (cutW k u) = false) : attO k u = none := by
  unfold attO rdOk at *
  rw [if_pos hA]
  simpa using hB
theorem cutW_size (k : Nat) (u : ByteArray) : (cutW k u).size ≤ u.size := by
  unfold cutW cutPre cutSuf
  split <;> (try split) <;> (first | exact Nat.le_refl _ | exact extract_le _ _ _)
theorem cutW_max (k : Nat) (u : ByteArray) (h : u.size ≤ maxLen) : (cutW k u).size ≤ maxLen := Nat.le_trans (cutW_size k u) h

end Go.Proofs.YtbmgfkbgfgknbaaDoor
