/-
  The walks over the letters and the sizes of words and numbers, of the program and of the reference.
-/
import Derived.Test.YtcmcikcagpkocaaDoorLxA
import Derived.Test.YtcmcikcagpkocaaDoorNumO
namespace Go.Proofs.YtcmcikcagpkocaaDoor
open Go.RowKit
set_option linter.unusedVariables false

theorem let_tab : ∀ n : Fin 256, letU (UInt8.ofNat n.val) = ((decide (65 ≤ n.val) && decide (n.val ≤ 90)) || (decide (97 ≤ n.val) && decide (n.val ≤ 122)) || decide (0 ≤ Lib.indexByte [95, 46, 63, 64] ((n.val : Int).toNat.toUInt8))) := by decide +kernel
theorem let_of (u : UInt8) : letU u = ((decide (65 ≤ u.toNat) && decide (u.toNat ≤ 90)) || (decide (97 ≤ u.toNat) && decide (u.toNat ≤ 122)) || decide (0 ≤ Lib.indexByte [95, 46, 63, 64] ((u.toNat : Int).toNat.toUInt8))) := by
  have h := let_tab ⟨u.toNat, u.toNat_lt⟩
  simpa using h
theorem dgt_of (u : UInt8) : dgtU u = (decide ((48 : Int) ≤ (u.toNat : Int)) && decide ((u.toNat : Int) ≤ 57)) := by
  unfold dgtU
  congr 1 <;> rw [decide_eq_decide] <;> omega
theorem isDigit_any (u : UInt8) (w : World) :
    Calls Tryd.prog 83 #[.int .u8 (u.toNat : Int)] w fun e w' => e = .returned (.bool (dgtU u)) ∧ w = w' := by
  have E := Lib.hid (dgt_of u)
  have h1 := u.toNat_lt
  obtain ⟨c, hc⟩ : ∃ c : Int, (u.toNat : Int) = c := ⟨_, rfl⟩
  have h0 : 0 ≤ c := by omega
  have h2 : c ≤ 255 := by omega
  rw [hc] at E ⊢
  clear hc h1
  by_cases ha : 48 ≤ c
  · go_enter Tryd.func83, Tryd.ntmps83
    go_wp2
    go_ret
    exact ⟨ret_bool (by rw [E.out, decide_eq_true (show (48 : Int) ≤ c from ha)]; rfl), rfl⟩
  · go_enter Tryd.func83, Tryd.ntmps83
    go_wp2
    go_ret
    exact ⟨ret_bool (by rw [E.out, decide_eq_false (show ¬ (48 : Int) ≤ c by omega)]; rfl), rfl⟩
theorem rdigit16_any (u : UInt8) (w : World) :
    Calls Tryd.prog 52 #[.int .u8 (u.toNat : Int)] w fun e w' => e = .returned (.bool (dgtU u)) ∧ w = w' := by
  have E := Lib.hid (dgt_of u)
  have h1 := u.toNat_lt
  obtain ⟨c, hc⟩ : ∃ c : Int, (u.toNat : Int) = c := ⟨_, rfl⟩
  have h0 : 0 ≤ c := by omega
  have h2 : c ≤ 255 := by omega
  rw [hc] at E ⊢
  clear hc h1
  by_cases ha : 48 ≤ c
  · go_enter Tryd.func52, Tryd.ntmps52
    go_wp2
    go_ret
    exact ⟨ret_bool (by rw [E.out, decide_eq_true (show (48 : Int) ≤ c from ha)]; rfl), rfl⟩
  · go_enter Tryd.func52, Tryd.ntmps52
    go_wp2
    go_ret
    exact ⟨ret_bool (by rw [E.out, decide_eq_false (show ¬ (48 : Int) ≤ c by omega)]; rfl), rfl⟩
/-- Where a byte lies. -/
theorem let_parts (u : UInt8) (c : Int) (hc : (u.toNat : Int) = c) : (65 ≤ c ∧ c ≤ 90 ∧ letU u = true) ∨ (97 ≤ c ∧ c ≤ 122 ∧ letU u = true) ∨ ((c < 65 ∨ (90 < c ∧ c < 97) ∨ 122 < c) ∧ letU u = decide (0 ≤ Lib.indexByte [95, 46, 63, 64] c.toNat.toUInt8)) := by
  have h := let_of u
  rw [hc] at h
  by_cases a : 65 ≤ c ∧ c ≤ 90
  · exact .inl ⟨a.1, a.2, by rw [h, decide_eq_true (by omega), decide_eq_true (by omega)]; rfl⟩
  by_cases b : 97 ≤ c ∧ c ≤ 122
  · exact .inr (.inl ⟨b.1, b.2, by rw [h, decide_eq_true (show 97 ≤ u.toNat by omega), decide_eq_true (show u.toNat ≤ 122 by omega)]; simp⟩)
  refine .inr (.inr ⟨by omega, ?_⟩)
  rw [h]
  have e1 : (decide (65 ≤ u.toNat) && decide (u.toNat ≤ 90)) = false := by rw [← Bool.decide_and]; exact decide_eq_false (by omega)
  have e2 : (decide (97 ≤ u.toNat) && decide (u.toNat ≤ 122)) = false := by rw [← Bool.decide_and]; exact decide_eq_false (by omega)
  rw [e1, e2]
  rfl
theorem isLetter_any (u : UInt8) (w : World) :
    Calls Tryd.prog 58 #[.int .u8 (u.toNat : Int)] w fun e w' => e = .returned (.bool (letU u)) ∧ w = w' := by
  have h1 := u.toNat_lt
  obtain ⟨c, hc⟩ : ∃ c : Int, (u.toNat : Int) = c := ⟨_, rfl⟩
  have h0 : 0 ≤ c := by omega
  have h2 : c ≤ 255 := by omega
  have P := let_parts u c hc
  rw [hc]
  clear hc h1
  rcases P with ⟨a, b, E⟩ | ⟨a, b, E⟩ | ⟨P, E⟩
  · rw [E]
    clear E
    go_enter Tryd.func58, Tryd.ntmps58
    go_wp2
    go_ret
    exact ⟨rfl, rfl⟩
  · rw [E]
    clear E
    go_enter Tryd.func58, Tryd.ntmps58
    go_wp2
    go_ret
    exact ⟨rfl, rfl⟩
  · have X := Lib.hid (indexByte_any ⟨#[95, 46, 63, 64]⟩ c w)
    have E1 := Lib.hid E
    clear E
    rcases P with P | ⟨P, P'⟩ | P
    all_goals
      go_enter Tryd.func58, Tryd.ntmps58
      go_wp2_with (go_at_call 82; refine X.out.mono ?_; rintro e w' ⟨rfl, rfl⟩)
      go_ret
      exact ⟨ret_bool (by rw [E1.out]; try first | rfl | (simp only [decide_eq_false (show ¬ c ≤ 90 by omega), decide_eq_false (show ¬ c ≤ 122 by omega)]; rfl) | (rw [decide_eq_false (show ¬ c ≤ 90 by omega)]; rfl)), rfl⟩
theorem rlet_parts (u : UInt8) (c : Int) (hc : (u.toNat : Int) = c) : (97 ≤ c ∧ c ≤ 122 ∧ letU u = true) ∨ (65 ≤ c ∧ c ≤ 90 ∧ letU u = true) ∨ (c = 95 ∧ letU u = true) ∨ (c = 46 ∧ letU u = true) ∨ (c = 63 ∧ letU u = true) ∨ (c = 64 ∧ letU u = true) ∨
    ((c < 46 ∨ (46 < c ∧ c < 63) ∨ (90 < c ∧ c < 95) ∨ c = 96 ∨ 122 < c) ∧ letU u = false) := by
  have t : ∀ n : Fin 256, letU (UInt8.ofNat n.val) = decide ((97 ≤ n.val ∧ n.val ≤ 122) ∨ (65 ≤ n.val ∧ n.val ≤ 90) ∨ n.val = 95 ∨ n.val = 46 ∨ n.val = 63 ∨ n.val = 64) := by decide +kernel
  have h := t ⟨u.toNat, u.toNat_lt⟩
  simp only [UInt8.ofNat_toNat] at h
  rw [h]
  by_cases a : 97 ≤ c ∧ c ≤ 122
  · exact .inl ⟨a.1, a.2, decide_eq_true (by omega)⟩
  by_cases b : 65 ≤ c ∧ c ≤ 90
  · exact .inr (.inl ⟨b.1, b.2, decide_eq_true (by omega)⟩)
  by_cases e1 : c = 95
  · exact .inr (.inr (.inl ⟨e1, decide_eq_true (by omega)⟩))
  by_cases e2 : c = 46
  · exact .inr (.inr (.inr (.inl ⟨e2, decide_eq_true (by omega)⟩)))
  by_cases e3 : c = 63
  · exact .inr (.inr (.inr (.inr (.inl ⟨e3, decide_eq_true (by omega)⟩))))
  by_cases e4 : c = 64
  · exact .inr (.inr (.inr (.inr (.inr (.inl ⟨e4, decide_eq_true (by omega)⟩)))))
  · exact .inr (.inr (.inr (.inr (.inr (.inr ⟨by omega, decide_eq_false (by omega)⟩)))))
theorem rletter_any (u : UInt8) (w : World) :
    Calls Tryd.prog 61 #[.int .u8 (u.toNat : Int)] w fun e w' => e = .returned (.bool (letU u)) ∧ w = w' := by
  have h1 := u.toNat_lt
  obtain ⟨c, hc⟩ : ∃ c : Int, (u.toNat : Int) = c := ⟨_, rfl⟩
  have h0 : 0 ≤ c := by omega
  have h2 : c ≤ 255 := by omega
  have P := rlet_parts u c hc
  rw [hc]
  clear hc h1
  rcases P with ⟨a, b, E⟩ | ⟨a, b, E⟩ | ⟨rfl, E⟩ | ⟨rfl, E⟩ | ⟨rfl, E⟩ | ⟨rfl, E⟩ | ⟨P | ⟨P, P'⟩ | ⟨P, P'⟩ | rfl | P, E⟩
  all_goals
    rw [E]
    clear E
    go_enter Tryd.func61, Tryd.ntmps61
    go_wp2
    go_ret
    first | exact ⟨rfl, rfl⟩ | exact ⟨ret_bool (by simp; omega), rfl⟩
end Go.Proofs.YtcmcikcagpkocaaDoor
