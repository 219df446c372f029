/-
  Walks over the document's own answers (package breadboardref01): Text and value.
-/
import Derived.Test.YtbmgfkbgfgknbaaDoorNumI
namespace Go.Proofs.YtbmgfkbgfgknbaaDoor
open Go.RowKit
set_option linter.unusedVariables false

theorem hexU_dec : ∀ x : Fin 16, (decB ((hexU (x.val : Int)).toNat : Int) = decide (x.val < 10)) ∧ (decide (65 ≤ (hexU (x.val : Int)).toNat) = decide (10 ≤ x.val)) := by decide +kernel
theorem hexU_let (x : Int) (h0 : 0 ≤ x) (h1 : x < 16) : decB ((hexU x).toNat : Int) = !decide ((65 : Int) ≤ ((hexU x).toNat : Int)) := by
  have h := hexU_dec ⟨x.toNat, by omega⟩
  have e : ((x.toNat : Nat) : Int) = x := by omega
  simp only [e] at h
  rw [h.1]
  have h2 := h.2
  by_cases c : x.toNat < 10
  · have : ¬ 65 ≤ (hexU x).toNat := by
      intro h3
      rw [decide_eq_true h3] at h2
      have := of_decide_eq_true h2.symm
      omega
    have h4 : ¬ (65 : Int) ≤ ((hexU x).toNat : Int) := by omega
    rw [decide_eq_true c, decide_eq_false h4]; rfl
  · have : 65 ≤ (hexU x).toNat := by
      rw [decide_eq_true (show 10 ≤ x.toNat by omega)] at h2
      exact of_decide_eq_true h2
    have h4 : (65 : Int) ≤ ((hexU x).toNat : Int) := by omega
    rw [decide_eq_false c, decide_eq_true h4]; rfl
theorem head_of (t : ByteArray) (h : 0 < t.size) (a : UInt8) (l : List UInt8) (e : t.data.toList = a :: l) : t[0] = a := by
  have h1 : t.data.toList[0]'(by simpa using h) = t[0] := rfl
  rw [← h1]
  simp [e]
theorem digS_head (n : Int) (h0 : 10 ≤ n) (h1 : n ≤ 65535) (hp : 0 < (digS n).size) : ∃ i, (digS n)[0] = hexU (digI n i) := by
  rcases digS_cases n h0 h1 with ⟨_, h, _⟩ | ⟨_, _, h, _⟩ | ⟨_, _, h, _⟩ | ⟨_, h, _⟩
  · exact ⟨_, head_of _ hp _ _ h⟩
  · exact ⟨_, head_of _ hp _ _ h⟩
  · exact ⟨_, head_of _ hp _ _ h⟩
  · exact ⟨_, head_of _ hp _ _ h⟩
theorem digS_let (n : Int) (h0 : 10 ≤ n) (h1 : n ≤ 65535) (hp : 0 < (digS n).size) : decB ((digS n)[0].toNat : Int) = !decide ((65 : Int) ≤ ((digS n)[0].toNat : Int)) := by
  obtain ⟨i, e⟩ := digS_head n h0 h1 hp
  rw [e]
  exact hexU_let _ (digI_bd n i).1 (digI_bd n i).2
theorem hexS_one (n : Int) (h0 : 0 ≤ n) (h2 : n < 10) : hexS n 1 = textS n := by
  apply bytes_ext
  rw [hexS_succ]
  unfold textS
  rw [if_neg (by omega), if_pos h2]
  have : digI n 0 = n := by unfold digI; simp; omega
  rw [this]
  rfl
theorem digV_bad (c base : Int) (hb0 : 0 ≤ base) (hb : base ≤ 16) : base ≤ digV c ↔ (hexV c < 0 ∨ base ≤ hexV c) := by
  unfold digV hexV; split <;> (try split) <;> (try split) <;> (try split) <;> (try split) <;> omega
theorem digV_good (c : Int) (h : 0 ≤ hexV c) : digV c = hexV c := by
  unfold digV hexV at *; split <;> (try split) <;> (try split) <;> (try split) <;> (try split) <;> (try split at h) <;> omega
theorem digV_bd (c : Int) : 0 ≤ digV c ∧ digV c ≤ 99 := by unfold digV; split <;> (try split) <;> (try split) <;> omega
/-- What holds of the number m so far, at the head of round k: it is the number that the digits denote, or both are too great. -/
def ValRel (base : Int) (s : ByteArray) (k : Nat) (m : Int) : Prop :=
  0 ≤ m ∧ m ≤ 1000000 ∧ ((rdL base (s.data.toList.take k) = some m ∧ m ≤ 65535) ∨ (rdL base (s.data.toList.take k) = none ∧ 65535 < m))
def refV (base : Int) (s : ByteArray) : Int := (rdO base s).getD (-1)
theorem refV_bad (s : ByteArray) (base m : Int) (k : Nat) (h : k < s.size) (hr : ValRel base s k m) (hv : hexV (s[k].toNat : Int) < 0 ∨ base ≤ hexV (s[k].toNat : Int)) : refV base s = -1 := by
  have hn : rdL base (s.data.toList.take k ++ [s[k]]) = none := by
    rcases hr.2.2 with ⟨h1, _⟩ | ⟨h1, _⟩
    · rw [rdL_snoc, h1]; unfold rdStep; simp only [Option.bind_some]; rw [if_pos hv]
    · exact rdL_app_none base _ _ h1
  have h1 : rdO base s = none := by
    unfold rdO
    rw [if_neg (ne_nil_of_lt s k h), take_all s k h]
    exact rdL_app_none base _ _ hn
  unfold refV
  rw [h1]
  rfl
theorem valRel_next (s : ByteArray) (base m : Int) (k : Nat) (h : k < s.size) (hb : 2 ≤ base) (hr : ValRel base s k m) (v0 : 0 ≤ hexV (s[k].toNat : Int)) (v1 : hexV (s[k].toNat : Int) < base) :
    ValRel base s (k + 1) (min (m * base + hexV (s[k].toNat : Int)) 1000000) := by
  obtain ⟨r0, r1, r2⟩ := hr
  have hm : m * 2 ≤ m * base := Int.mul_le_mul_of_nonneg_left hb r0
  refine ⟨by omega, by omega, ?_⟩
  rcases r2 with ⟨h1, h2⟩ | ⟨h1, h2⟩
  · by_cases hle : m * base + hexV (s[k].toNat : Int) ≤ 65535
    · left
      rw [take_snoc s k h, rdL_snoc, h1]
      unfold rdStep
      simp only [Option.bind_some]
      rw [if_neg (by omega), if_pos hle]
      exact ⟨by congr 1; omega, by omega⟩
    · right
      rw [take_snoc s k h, rdL_snoc, h1]
      unfold rdStep
      simp only [Option.bind_some]
      rw [if_neg (by omega), if_neg hle]
      exact ⟨rfl, by omega⟩
  · right
    rw [take_snoc s k h]
    exact ⟨rdL_app_none base _ _ h1, by omega⟩
theorem refV_end (s : ByteArray) (base m : Int) (h : s.toList.isEmpty = false) (hr : ValRel base s s.size m) : (65535 < m → refV base s = -1) ∧ (m ≤ 65535 → refV base s = m) := by
  obtain ⟨r0, r1, r2⟩ := hr
  rw [List.take_of_length_le (by simp)] at r2
  have hne : s.data.toList ≠ [] := by
    rw [ByteArray.toList_eq] at h
    intro e
    rw [e] at h
    simp at h
  unfold refV rdO
  rw [if_neg hne]
  rcases r2 with ⟨h1, h2⟩ | ⟨h1, h2⟩
  · rw [h1]; exact ⟨fun h3 => by omega, fun _ => rfl⟩
  · rw [h1]; exact ⟨fun _ => rfl, fun h3 => by omega⟩
end Go.Proofs.YtbmgfkbgfgknbaaDoor
