/-
  The reference's has, within, Letter.
-/
import Derived.Test.YtbbpkoaeedkncaaGreatDoorGAC
import Derived.Deep.DeepCutAuto
set_option linter.all false
set_option maxRecDepth 100000
set_option maxHeartbeats 4000000
namespace Go.Proofs.YtbbpkoaeedkncaaGreatDoor
open Go.RowKit Go.Shelf
attribute [local go_sem] Oper.semAt_some
theorem u8_beq (a b : UInt8) : ((a.toNat : Int) == (b.toNat : Int)) = decide (a = b) := by
  by_cases h : a = b
  · subst h
    rw [decide_eq_true rfl]
    exact beq_self_eq_true _
  · rw [decide_eq_false h]
    exact beq_eq_false_iff_ne.2 fun e => h (UInt8.toNat_inj.1 (by omega))
theorem rhas_any (ex : Str) (hx : ex.length ≤ 1000) (c : UInt8) (w : World) :
    Calls Tryz.prog 73 #[.string (sB ex), .int .u8 (c.toNat : Int)] w fun e w' => e = .returned (.bool (ex.contains c)) ∧ w' = w := by
  obtain ⟨s, hs⟩ : ∃ s, sB ex = s := ⟨_, rfl⟩
  have hz : s.size = ex.length := by rw [← hs, sB_size]
  have hat : ∀ k (h : k < s.size) (h' : k < ex.length), s[k] = ex[k] := fun k h h' => by subst hs; exact sB_at ex k h h'
  have HAT := Lib.hid hat
  rw [hs]
  obtain ⟨l, hl⟩ : ∃ l, ex.length = l := ⟨_, rfl⟩
  have HL := Lib.hid hl
  rw [hl] at hz hx
  obtain ⟨x, hx9⟩ : ∃ x, (c.toNat : Int) = x := ⟨_, rfl⟩
  have HX := Lib.hid hx9
  rw [hx9]
  clear hs hat hl hx9
  go_enter Tryz.func73, Tryz.ntmps73
  go_wp2
  go_loopw [5] (fun i wr => ∃ j : Nat, j ≤ l ∧ i = .int .i64 j ∧ Hid (∀ k (h : k < ex.length), k < j → ex[k] ≠ c) ∧ Hid (wr = w)) (fun i _ => l - (intOf i).toNat)
  case atStart => exact ⟨0, Nat.zero_le _, rfl, fun k h h2 => by omega, rfl⟩
  case round =>
    obtain ⟨j, hj, rfl, R, B⟩ := hrel
    by_cases hlt : j < l
    · have hlt' : j < s.size := by omega
      have hj1 : j < ex.length := by rw [HL.out]; exact hlt
      have e1 := HAT.out j hlt' hj1
      have hb : ((s[j].toNat : Int) == x) = decide (ex[j] = c) := by rw [← HX.out, e1]; exact u8_beq _ _
      obtain ⟨tt, htt⟩ : ∃ z, decide (ex[j] = c) = z := ⟨_, rfl⟩
      rw [htt] at hb
      have hj1k : j ≤ 1000 := by omega
      cases tt with
      | true =>
        have T : Hid (true = ex.contains c) := by
          show true = _
          exact (List.contains_iff_mem.2 (of_decide_eq_true htt ▸ List.getElem_mem hj1)).symm
        clear htt e1 hj1 R
        go_wp2
        go_ret
        exact ⟨ret_bool T.out, B.out⟩
      | false =>
        have R2 : Hid (∀ k (h : k < ex.length), k < j + 1 → ex[k] ≠ c) := fun k h h2 => by
          by_cases e : k = j
          · subst e; exact of_decide_eq_false htt
          · exact R.out k h (by omega)
        clear htt e1 hj1 R
        go_wp2
        go_roundw
        case rel => exact ⟨j + 1, by omega, by go_num, R2.out, B.out⟩
        case measure => simp [intOf]; omega
    · have T : Hid (false = ex.contains c) := by
        show false = _
        refine (Bool.eq_false_iff.2 fun h => ?_).symm
        obtain ⟨k, hk, e⟩ := List.getElem_of_mem (List.contains_iff_mem.1 h)
        exact R.out k hk (by have := HL.out; omega) e
      clear R
      go_wp2
      go_ret
      exact ⟨ret_bool T.out, B.out⟩
theorem rwithin_any (c : UInt8) (n : Int) (w : World) :
    Calls Tryz.prog 39 #[.int .u8 (c.toNat : Int), .int .i64 n] w fun e w' => e = .returned (.bool (withR c n)) ∧ w' = w := by
  have e1 : ((c.toNat : Int) == 100) = decide (c = 100) := u8_beq c 100
  have e2 : ((c.toNat : Int) == 101) = decide (c = 101) := u8_beq c 101
  have e3 : ((c.toNat : Int) == 110) = decide (c = 110) := u8_beq c 110
  obtain ⟨x, hx⟩ : ∃ x, (c.toNat : Int) = x := ⟨_, rfl⟩
  rw [hx] at e1 e2 e3 ⊢
  clear hx
  have cmp : ∀ a b : Int, ((a ≤ n ∧ n ≤ b) ∨ (a ≤ n ∧ ¬ n ≤ b) ∨ ¬ a ≤ n) := fun a b => by omega
  by_cases h1 : c = 100
  · subst h1
    have T : Hid (withR 100 n = (decide (-128 ≤ n) && decide (n ≤ 127))) := rfl
    rw [decide_eq_true rfl] at e1
    clear e2 e3
    rcases cmp (-128) 127 with ⟨g1, g2⟩ | ⟨g1, g2⟩ | g1
    all_goals
      go_enter Tryz.func39, Tryz.ntmps39
      go_wp2
      go_ret
      exact ⟨ret_bool (by rw [T.out]; simp_all <;> (intros; omega)), rfl⟩
  · rw [decide_eq_false h1] at e1
    by_cases h2 : c = 101
    · subst h2
      have T : Hid (withR 101 n = (decide (-128 ≤ n) && decide (n ≤ 127))) := rfl
      rw [decide_eq_true rfl] at e2
      clear e3 h1
      rcases cmp (-128) 127 with ⟨g1, g2⟩ | ⟨g1, g2⟩ | g1
      all_goals
        go_enter Tryz.func39, Tryz.ntmps39
        go_wp2
        go_ret
        exact ⟨ret_bool (by rw [T.out]; simp_all <;> (intros; omega)), rfl⟩
    · rw [decide_eq_false h2] at e2
      by_cases h3 : c = 110
      · subst h3
        have T : Hid (withR 110 n = (decide (0 ≤ n) && decide (n ≤ 255))) := rfl
        rw [decide_eq_true rfl] at e3
        clear h1 h2
        rcases cmp 0 255 with ⟨g1, g2⟩ | ⟨g1, g2⟩ | g1
        all_goals
          go_enter Tryz.func39, Tryz.ntmps39
          go_wp2
          go_ret
          exact ⟨ret_bool (by rw [T.out]; simp_all <;> (intros; omega)), rfl⟩
      · have T : Hid (withR c n = (decide (0 ≤ n) && decide (n ≤ 65535))) := by show _ = _; unfold withR; rw [if_neg (by rintro (h | h) <;> contradiction), if_neg h3]
        rw [decide_eq_false h3] at e3
        clear h1 h2 h3
        rcases cmp 0 65535 with ⟨g1, g2⟩ | ⟨g1, g2⟩ | g1
        all_goals
          go_enter Tryz.func39, Tryz.ntmps39
          go_wp2
          go_ret
          exact ⟨ret_bool (by rw [T.out]; simp_all <;> (intros; omega)), rfl⟩
end Go.Proofs.YtbbpkoaeedkncaaGreatDoor
