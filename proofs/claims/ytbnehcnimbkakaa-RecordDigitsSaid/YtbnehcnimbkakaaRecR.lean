/-
  The walk over the law's lower: for every string, the string with small letters instead of A to F.
-/
import Derived.Test.YtbnehcnimbkakaaRecB
import Derived.Laws.IdiomStrings
import Derived.Lib.SlBytesRow
namespace Go.Proofs.Ytbnehcnimbkakaa
open Go.RowKit
set_option linter.unusedVariables false

def lowI (c : Int) : Int := if 65 ≤ c ∧ c ≤ 70 then c + 32 else c
theorem lowI_bd (c : Int) (h0 : 0 ≤ c) (h1 : c ≤ 255) : 0 ≤ lowI c ∧ lowI c ≤ 255 := by unfold lowI; split <;> omega
/-- The small letter of A to F. -/
def lowC (c : UInt8) : UInt8 := (lowI (c.toNat : Int)).toNat.toUInt8
theorem lowC_nat (c : UInt8) : ((lowC c).toNat : Int) = lowI (c.toNat : Int) := by
  have h := lowI_bd (c.toNat : Int) (by omega) (by have := c.toNat_lt; omega)
  unfold lowC
  have : (lowI (c.toNat : Int)).toNat < 256 := by omega
  rw [UInt8.toNat_ofNat_of_lt' this]
  omega
def loB (s : ByteArray) : ByteArray := ⟨s.data.map lowC⟩
theorem loB_size (s : ByteArray) : (loB s).size = s.size := by unfold loB; show (s.data.map lowC).size = s.data.size; simp
theorem loB_at (s : ByteArray) (j : Nat) (h : j < s.size) (h' : j < (loB s).size) : (loB s)[j] = lowC s[j] := by
  have h1 : (loB s).data[j]'h' = lowC (s.data[j]'h) := by simp [loB]
  exact h1
theorem loB_list (s : ByteArray) : (loB s).data.toList = s.data.toList.map lowC := by unfold loB; simp

/-- What holds at the head of round k: the first k bytes of the row are small letters, the others are as in s. -/
def LoRel (w : World) (s : ByteArray) (k : Nat) (wr : World) : Prop :=
  (∀ j (h : j < s.size), wr.cell? ⟨w.heap.size, j, none⟩ = some (.int .u8 (if j < k then lowI (s[j].toNat : Int) else (s[j].toNat : Int)))) ∧ (∀ j, j < s.size → wr.frozen? ⟨w.heap.size, j, none⟩ = false) ∧ Below w.heap.size w wr
theorem loRel_start (w : World) (s : ByteArray) (cap : Nat) (e : TypeId) :
    LoRel w s 0 (w.alloc (.cells (bytesRow s cap) e ((bytesRow s cap).size, (bytesRow s cap).size + 1))).drew := by
  refine ⟨fun j h => ?_, fun j h => ?_, ((Below.refl _ _).alloc (Nat.le_refl _) _).drew⟩
  · have h1 := World.cell?_alloc_mark w (bytesRow s cap) e ((bytesRow s cap).size, (bytesRow s cap).size + 1) j
    rw [bytesRow_at s cap j h] at h1
    exact h1
  · have h1 := World.frozen?_alloc_mark w (bytesRow s cap) e (bytesRow s cap).size ((bytesRow s cap).size + 1) j
    have h2 : j < (bytesRow s cap).size := by
      unfold bytesRow
      rw [Array.size_append, Array.size_map]
      have : s.data.size = s.size := rfl
      omega
    have h3 : decide ((bytesRow s cap).size ≤ j) = false := by simp; exact h2
    rw [h3, Bool.false_and] at h1
    simpa using h1
theorem loRel_next (w wr : World) (s : ByteArray) (k : Nat) (h : k < s.size) (hr : LoRel w s k wr) : LoRel w s (k + 1) (wr.setCell ⟨w.heap.size, k, none⟩ (.int .u8 (lowI (s[k].toNat : Int)))) := by
  obtain ⟨r1, r2, r3⟩ := hr
  refine ⟨fun j hj => ?_, fun j hj => ?_, r3.setCell (by simp) _⟩
  · by_cases e : j = k
    · subst e
      have := r1 j hj
      rw [if_pos (by omega)]
      simp [go_sem, this]
    · rw [World.cell?_setCell_other _ _ _ _ (by simp), r1 j hj]
      by_cases h1 : j < k
      · rw [if_pos h1, if_pos (by omega)]
      · rw [if_neg h1, if_neg (by omega)]
  · simp [go_sem, r2 j hj]
theorem loRel_end (w wr : World) (s : ByteArray) (cap : Nat) (hr : LoRel w s s.size wr) :
    (convert 22 9 (.slice (some ⟨w.heap.size, 0, none⟩) s.size cap)).run Try.prog wr = .ok (.string (loB s)) wr := by
  have h := Lib.run_convert_whole (P := Try.prog) wr 22 5 9 Try.underlying22 Try.underlying5 Try.underlying9 w.heap.size 0 (loB s) (fun i hi => by
    have hi' : i < s.size := by rw [loB_size] at hi; exact hi
    rw [Nat.zero_add, hr.1 i hi', if_pos hi', loB_at s i hi' hi, lowC_nat]) cap
  rw [loB_size] at h
  exact h


theorem loRel_same (w wr : World) (s : ByteArray) (k : Nat) (h : k < s.size) (hc : ¬ (65 ≤ (s[k].toNat : Int) ∧ (s[k].toNat : Int) ≤ 70)) (hr : LoRel w s k wr) : LoRel w s (k + 1) wr := by
  obtain ⟨r1, r2, r3⟩ := hr
  refine ⟨fun j hj => ?_, r2, r3⟩
  rw [r1 j hj]
  by_cases e : j = k
  · subst e
    rw [if_neg (by omega), if_pos (by omega)]
    unfold lowI
    rw [if_neg hc]
  · by_cases h1 : j < k
    · rw [if_pos h1, if_pos (by omega)]
    · rw [if_neg h1, if_neg (by omega)]
set_option maxHeartbeats 1000000 in
theorem lower_any (s : ByteArray) (hs : s.size ≤ maxLen) (w : World) :
    Calls Try.prog 13 #[.string s] w fun e w' => e = .returned (.string (loB s)) ∧ Below w.heap.size w w' := by
  unfold maxLen at hs
  have hcv := fun (w : World) => run_bytes_of_string (P := Try.prog) w 9 22 5 s Try.underlying9 Try.underlying22 Try.underlying5
  have S := Lib.hid (loRel_start w s (grownCap w s.size 0 5) 5)
  go_enter Try.func13, Try.ntmps13
  go_wp2
  clear hcv
  go_loopw [10] (fun i wr => ∃ k : Nat, k ≤ s.size ∧ i = .int .i64 k ∧ LoRel w s k wr) (fun i _ => s.size - (intOf i).toNat)
  case atStart => exact ⟨0, Nat.zero_le _, rfl, S.out⟩
  case round =>
    obtain ⟨k, hk, rfl, hr⟩ := hrel
    have R := Lib.hid hr
    clear hr
    by_cases hlt : k < s.size
    · have c0 : (0 : Int) ≤ (s[k].toNat : Int) := by omega
      have c1 : (s[k].toNat : Int) ≤ 255 := by have := s[k].toNat_lt; omega
      have g1 : wr.cell? ⟨w.heap.size, k, none⟩ = some (.int .u8 (s[k].toNat : Int)) := by rw [R.out.1 k hlt, if_neg (by omega)]
      have g2 := R.out.2.1 k hlt
      by_cases hc : 65 ≤ (s[k].toNat : Int) ∧ (s[k].toNat : Int) ≤ 70
      · have N := Lib.hid (loRel_next w wr s k hlt R.out)
        have E : Hid (lowI (s[k].toNat : Int) = (s[k].toNat : Int) + 32) := by show _ = _; unfold lowI; rw [if_pos hc]
        obtain ⟨h1, h2⟩ := hc
        obtain ⟨x, hx⟩ : ∃ x : Int, (s[k].toNat : Int) = x := ⟨_, rfl⟩
        rw [hx] at g1 h1 h2 c0 c1 E N
        rw [E.out] at N
        have hw : IntKind.u8.wrap (x + 32) = x + 32 := by rw [IntKind.wrap_u8]; omega
        clear hx
        go_wp2
        go_roundw
        case rel => exact ⟨k + 1, by omega, by go_num, N.out⟩
        case measure => simp [intOf]; omega
      · have N := Lib.hid (loRel_same w wr s k hlt hc R.out)
        obtain ⟨x, hx⟩ : ∃ x : Int, (s[k].toNat : Int) = x := ⟨_, rfl⟩
        rw [hx] at g1 hc c0 c1
        clear hx
        by_cases h1 : 65 ≤ x
        · have h2 : decide (x ≤ 70) = false := decide_eq_false (by omega)
          clear hc
          go_wp2
          go_roundw
          case rel => exact ⟨k + 1, by omega, by go_num, N.out⟩
          case measure => simp [intOf]; omega
        · have h1' : decide (65 ≤ x) = false := decide_eq_false h1
          clear hc h1
          go_wp2
          go_roundw
          case rel => exact ⟨k + 1, by omega, by go_num, N.out⟩
          case measure => simp [intOf]; omega
    · obtain rfl : k = s.size := by omega
      have hback := loRel_end w wr s (grownCap w s.size 0 5) R.out
      go_wp2
      go_ret
      exact ⟨rfl, R.out.2.2⟩
end Go.Proofs.Ytbnehcnimbkakaa
