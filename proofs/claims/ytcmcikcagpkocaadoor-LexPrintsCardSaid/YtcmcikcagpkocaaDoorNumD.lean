/-
  Walks over num.forms and num.Upper: for every string, the string with capital letters instead of a to z; nothing that was there is changed.
-/
import Derived.Test.YtcmcikcagpkocaaDoorNumC
import Derived.Laws.IdiomStrings
import Derived.Lib.SlBytesRow
namespace Go.Proofs.YtcmcikcagpkocaaDoor
open Go.RowKit
set_option linter.unusedVariables false

/-- The block that num.forms lays. -/
def formsObj : Obj := .cells #[.int .i64 10, .func (Fn.func 104) #[] #[], .int .i64 16, .func (Fn.func 105) #[] #[], .int .i64 16, .func (Fn.func 107) #[] #[], .int .i64 16, .func (Fn.func 108) #[] #[], .int .i64 2, .func (Fn.func 109) #[] #[], .int .i64 2, .func (Fn.func 111) #[] #[]] 120
set_option maxHeartbeats 400000 in
theorem forms_any (w : World) :
    Calls Tryd.prog 98 #[] w fun e w' => e = .returned (.slice (some ⟨w.heap.size, 0, none⟩) 6 6) ∧ w.alloc formsObj = w' := by
  go_enter Tryd.func98, Tryd.ntmps98
  go_wp2
  go_ret
  exact ⟨rfl, rfl⟩

/-- The capital letter of a byte, as a byte. -/
def capU (c : UInt8) : UInt8 := (capI (c.toNat : Int)).toNat.toUInt8
theorem capU_nat (c : UInt8) : ((capU c).toNat : Int) = capI (c.toNat : Int) := by
  have h := capI_bd (c.toNat : Int) (by omega) (by have := c.toNat_lt; omega)
  unfold capU
  have : (capI (c.toNat : Int)).toNat < 256 := by omega
  rw [UInt8.toNat_ofNat_of_lt' this]
  omega
/-- The string with capital letters. -/
def upB (s : ByteArray) : ByteArray := ⟨s.data.map capU⟩
theorem upB_size (s : ByteArray) : (upB s).size = s.size := by unfold upB; show (s.data.map capU).size = s.data.size; simp
theorem upB_at (s : ByteArray) (j : Nat) (h : j < s.size) (h' : j < (upB s).size) : (upB s)[j] = capU s[j] := by
  have h1 : (upB s).data[j]'h' = capU (s.data[j]'h) := by simp [upB]
  exact h1
theorem upB_list (s : ByteArray) : (upB s).data.toList = s.data.toList.map capU := by unfold upB; simp

/-- What holds at the head of round k: the first k bytes of the row are capital letters, the others are as in s. -/
def UpRel (w : World) (s : ByteArray) (k : Nat) (wr : World) : Prop :=
  (∀ j (h : j < s.size), wr.cell? ⟨w.heap.size, j, none⟩ = some (.int .u8 (if j < k then capI (s[j].toNat : Int) else (s[j].toNat : Int)))) ∧ (∀ j, j < s.size → wr.frozen? ⟨w.heap.size, j, none⟩ = false) ∧ Below w.heap.size w wr
theorem upRel_start (w : World) (s : ByteArray) (cap : Nat) (e : TypeId) :
    UpRel w s 0 (w.alloc (.cells (bytesRow s cap) e ((bytesRow s cap).size, (bytesRow s cap).size + 1))).drew := by
  refine ⟨fun j h => ?_, fun j h => ?_, ((Below.refl _ _).alloc (Nat.le_refl _) _).drew⟩
  · have h1 := World.cell?_alloc_mark w (bytesRow s cap) e ((bytesRow s cap).size, (bytesRow s cap).size + 1) j
    rw [bytesRow_at s cap j h] at h1
    exact h1
  · have h1 := World.frozen?_alloc_mark w (bytesRow s cap) e (bytesRow s cap).size ((bytesRow s cap).size + 1) j
    have h2 : j < (bytesRow s cap).size := by
      unfold bytesRow
      rw [Array.size_append, Array.size_map]
      have : s.data.size = s.size := rfl
      omega
    have h3 : decide ((bytesRow s cap).size ≤ j) = false := by simp; exact h2
    rw [h3, Bool.false_and] at h1
    simpa using h1
theorem upRel_next (w wr : World) (s : ByteArray) (k : Nat) (h : k < s.size) (hr : UpRel w s k wr) : UpRel w s (k + 1) (wr.setCell ⟨w.heap.size, k, none⟩ (.int .u8 (capI (s[k].toNat : Int)))) := by
  obtain ⟨r1, r2, r3⟩ := hr
  refine ⟨fun j hj => ?_, fun j hj => ?_, r3.setCell (by simp) _⟩
  · by_cases e : j = k
    · subst e
      have := r1 j hj
      rw [if_pos (by omega)]
      simp [go_sem, this]
    · rw [World.cell?_setCell_other _ _ _ _ (by simp), r1 j hj]
      by_cases h1 : j < k
      · rw [if_pos h1, if_pos (by omega)]
      · rw [if_neg h1, if_neg (by omega)]
  · simp [go_sem, r2 j hj]
theorem upRel_end (w wr : World) (s : ByteArray) (cap : Nat) (hr : UpRel w s s.size wr) :
    (convert 69 9 (.slice (some ⟨w.heap.size, 0, none⟩) s.size cap)).run Tryd.prog wr = .ok (.string (upB s)) wr := by
  have h := Lib.run_convert_whole (P := Tryd.prog) wr 69 5 9 Tryd.underlying69 Tryd.underlying5 Tryd.underlying9 w.heap.size 0 (upB s) (fun i hi => by
    have hi' : i < s.size := by rw [upB_size] at hi; exact hi
    rw [Nat.zero_add, hr.1 i hi', if_pos hi', upB_at s i hi' hi, capU_nat]) cap
  rw [upB_size] at h
  exact h

set_option maxHeartbeats 400000 in
theorem upper_any (s : ByteArray) (hs : s.size ≤ maxLen) (w : World) :
    Calls Tryd.prog 60 #[.string s] w fun e w' => e = .returned (.string (upB s)) ∧ Below w.heap.size w w' := by
  unfold maxLen at hs
  have hcv := fun (w : World) => run_bytes_of_string (P := Tryd.prog) w 9 69 5 s Tryd.underlying9 Tryd.underlying69 Tryd.underlying5
  have S := Lib.hid (upRel_start w s (grownCap w s.size 0 5) 5)
  go_enter Tryd.func60, Tryd.ntmps60
  go_wp2
  clear hcv
  go_loopw [10] (fun i wr => ∃ k : Nat, k ≤ s.size ∧ i = .int .i64 k ∧ UpRel w s k wr) (fun i _ => s.size - (intOf i).toNat)
  case atStart => exact ⟨0, Nat.zero_le _, rfl, S.out⟩
  case round =>
    obtain ⟨k, hk, rfl, hr⟩ := hrel
    have R := Lib.hid hr
    clear hr
    by_cases hlt : k < s.size
    · have c0 : (0 : Int) ≤ (s[k].toNat : Int) := by omega
      have c1 : (s[k].toNat : Int) ≤ 255 := by have := s[k].toNat_lt; omega
      have g1 : wr.cell? ⟨w.heap.size, k, none⟩ = some (.int .u8 (s[k].toNat : Int)) := by rw [R.out.1 k hlt, if_neg (by omega)]
      have g2 := R.out.2.1 k hlt
      have N := Lib.hid (upRel_next w wr s k hlt R.out)
      go_wp2_with (go_at_call 84; refine (capital_any _ c0 c1 _).mono ?_; rintro e w' ⟨rfl, rfl⟩)
      go_roundw
      case rel => exact ⟨k + 1, by omega, by go_num, N.out⟩
      case measure => simp [intOf]; omega
    · obtain rfl : k = s.size := by omega
      have hback := upRel_end w wr s (grownCap w s.size 0 5) R.out
      go_wp2
      go_ret
      exact ⟨rfl, R.out.2.2⟩
end Go.Proofs.YtcmcikcagpkocaaDoor
