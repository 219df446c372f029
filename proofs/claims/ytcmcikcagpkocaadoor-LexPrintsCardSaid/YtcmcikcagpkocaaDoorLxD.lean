/-
  Plain facts on the lines of the assembler: words, and forms of strings, as tokens by themselves.
-/
import Derived.Test.YtcmcikcagpkocaaDoorLxC
namespace Go.Proofs.YtcmcikcagpkocaaDoor
set_option linter.unusedVariables false

/-- Is it a word as a whole? -/
def isWd (l : List UInt8) : Bool := decide (l ≠ []) && decide (wordN l = l.length)
/-- Two tokens of which the first is a word with the whole line as its text. -/
def wholeW (l : List UInt8) (T : List Tk) : Bool := match T with
  | [t, _] => decide (t.k = 1) && decide (t.t = l)
  | _ => false
theorem tok_nil (a : Nat) : TokR [] a 0 [⟨0, [], 0, (a : Int)⟩] := .fin [] a rfl
theorem word_whole {l : List UInt8} {c : Int} {T : List Tk} (h : TokR l 0 c T) : wholeW l T = isWd l := by
  by_cases hw : isWd l = true
  · rw [hw]
    unfold isWd at hw
    rw [Bool.and_eq_true, decide_eq_true_iff, decide_eq_true_iff] at hw
    obtain ⟨hn, hw⟩ := hw
    cases l with
    | nil => exact absurd rfl hn
    | cons m l =>
      have hp : 0 < wordN (m :: l) := by rw [hw]; simp
      have hc : letU m = true := by
        rw [word_cons] at hp
        split at hp
        · assumption
        · cases hp
      have hf := let_facts m
      rw [hc] at hf
      simp only [Bool.not_true, Bool.false_or, Bool.and_eq_true, Bool.not_eq_true', bne_iff_ne] at hf
      have hs : skN (m :: l) = 0 := sk_head m l hf.1.1.1.1.1.1
      have hx : nxt ((m :: l).drop (skN (m :: l))) = .tok 1 (m :: l) 0 (m :: l).length := by
        rw [hs, List.drop_zero]
        simp only [nxt]
        rw [if_neg hf.1.1.1.1.2, if_pos hp, hw, List.take_length]
      have := TokR.more (m :: l) 0 1 (m :: l) 0 (m :: l).length 0 _ hx (by decide) (by rw [hs, Nat.zero_add, List.drop_length]; exact tok_nil _)
      obtain ⟨rfl, rfl⟩ := tok_one h this
      simp [wholeW]
  · have hw' : isWd l = false := by simpa using hw
    rw [hw']
    cases h with
    | fin => rfl
    | bad => rfl
    | more _ _ k t n z _ T h hk h3 =>
      split
      · next e =>
        cases h3 with
        | fin _ _ h4 =>
          show (decide (k = 1) && decide (t = l)) = false
          by_cases hk1 : k = 1
          · subst hk1
            by_cases ht : t = l
            · exfalso
              subst ht
              apply hw
              have hs := sk_le t
              obtain ⟨hz0, hz⟩ := nxt_size h hk
              simp at hz
              have hd : t.drop (skN t) ≠ [] := fun e => by rw [e] at h; cases h
              have key : t = (t.drop (skN t)).take (wordN (t.drop (skN t))) ∧ z = wordN (t.drop (skN t)) := by
                obtain ⟨m, d, hmd⟩ := List.exists_cons_of_ne_nil hd
                rw [hmd] at h ⊢
                simp only [nxt] at h
                split at h
                · cases h
                split at h
                · injection h with a1 a2 a3 a4; exact ⟨a2.symm, a4.symm⟩
                split at h
                · split at h <;> cases h
                split at h
                · split at h <;> cases h
                split at h <;> cases h
              have hlen : t.length = min (wordN (t.drop (skN t))) (t.length - skN t) := by
                have := congrArg List.length key.1
                rw [List.length_take, List.length_drop] at this
                exact this
              have hwl := word_le (t.drop (skN t))
              rw [List.length_drop] at hwl
              have h0 : skN t = 0 := by omega
              rw [h0, List.drop_zero] at hlen hwl key
              unfold isWd
              rw [Bool.and_eq_true, decide_eq_true_iff, decide_eq_true_iff]
              refine ⟨fun e => by subst e; exact hd rfl, by omega⟩
            · simp [ht]
          · simp [hk1]
        | bad _ _ _ h4 => rcases nxt_code h4 with rfl | rfl <;> cases e
        | more _ _ k' t' n' z' _ T' h4 hk' h5 =>
          rw [if_pos e]
          obtain ⟨u, U, rfl⟩ := List.exists_cons_of_ne_nil ((tok_facts h5).2.1 e)
          rfl
      · rfl
theorem quote_whole (m : UInt8) (hm : m = 34 ∨ m = 39) (t : List UInt8) {c : Int} {T : List Tk} (h : TokR (quoL m t) 0 c T) : c = 0 ∧ T = [⟨3, t, 0, 0⟩, ⟨0, [], 0, ((quoL m t).length : Int)⟩] := by
  have hs : skN (quoL m t) = 0 := sk_head m _ (by rcases hm with rfl | rfl <;> decide)
  have hx : nxt ((quoL m t).drop (skN (quoL m t))) = .tok 3 t 0 (quoL m t).length := by
    have := nxt_quo m hm t [] (by simp)
    rw [List.append_nil] at this
    rw [hs, List.drop_zero, this]
  have := TokR.more (quoL m t) 0 3 t 0 (quoL m t).length 0 _ hx (by decide) (by rw [hs, Nat.zero_add, List.drop_length]; exact tok_nil _)
  obtain ⟨rfl, rfl⟩ := tok_one h this
  refine ⟨rfl, ?_⟩
  rw [if_pos rfl, hs]
  simp
end Go.Proofs.YtcmcikcagpkocaaDoor
