/-
  Walks over the document's own answers (package breadboardref01): Text and value.
-/
import Derived.Test.YtcmcikcagpkocaaDoorNumI
namespace Go.Proofs.YtcmcikcagpkocaaDoor
open Go.RowKit
set_option linter.unusedVariables false

theorem hexU_dec : ∀ x : Fin 16, (decB ((hexU (x.val : Int)).toNat : Int) = decide (x.val < 10)) ∧ (decide (65 ≤ (hexU (x.val : Int)).toNat) = decide (10 ≤ x.val)) := by decide +kernel
theorem hexU_let (x : Int) (h0 : 0 ≤ x) (h1 : x < 16) : decB ((hexU x).toNat : Int) = !decide ((65 : Int) ≤ ((hexU x).toNat : Int)) := by
  have h := hexU_dec ⟨x.toNat, by omega⟩
  have e : ((x.toNat : Nat) : Int) = x := by omega
  simp only [e] at h
  rw [h.1]
  have h2 := h.2
  by_cases c : x.toNat < 10
  · have : ¬ 65 ≤ (hexU x).toNat := by
      intro h3
      rw [decide_eq_true h3] at h2
      have := of_decide_eq_true h2.symm
      omega
    have h4 : ¬ (65 : Int) ≤ ((hexU x).toNat : Int) := by omega
    rw [decide_eq_true c, decide_eq_false h4]; rfl
  · have : 65 ≤ (hexU x).toNat := by
      rw [decide_eq_true (show 10 ≤ x.toNat by omega)] at h2
      exact of_decide_eq_true h2
    have h4 : (65 : Int) ≤ ((hexU x).toNat : Int) := by omega
    rw [decide_eq_false c, decide_eq_true h4]; rfl
theorem head_of (t : ByteArray) (h : 0 < t.size) (a : UInt8) (l : List UInt8) (e : t.data.toList = a :: l) : t[0] = a := by
  have h1 : t.data.toList[0]'(by simpa using h) = t[0] := rfl
  rw [← h1]
  simp [e]
theorem digS_head (n : Int) (h0 : 10 ≤ n) (h1 : n ≤ 65535) (hp : 0 < (digS n).size) : ∃ i, (digS n)[0] = hexU (digI n i) := by
  rcases digS_cases n h0 h1 with ⟨_, h, _⟩ | ⟨_, _, h, _⟩ | ⟨_, _, h, _⟩ | ⟨_, h, _⟩
  · exact ⟨_, head_of _ hp _ _ h⟩
  · exact ⟨_, head_of _ hp _ _ h⟩
  · exact ⟨_, head_of _ hp _ _ h⟩
  · exact ⟨_, head_of _ hp _ _ h⟩
theorem digS_let (n : Int) (h0 : 10 ≤ n) (h1 : n ≤ 65535) (hp : 0 < (digS n).size) : decB ((digS n)[0].toNat : Int) = !decide ((65 : Int) ≤ ((digS n)[0].toNat : Int)) := by
  obtain ⟨i, e⟩ := digS_head n h0 h1 hp
  rw [e]
  exact hexU_let _ (digI_bd n i).1 (digI_bd n i).2
theorem rhex4_any (n : Int) (w : World) :
    Calls Tryd.prog 57 #[.int .i64 n, .int .i64 4] w fun e w' => e = .returned (.string (hexS n 4)) ∧ w = w' := rhex_any n 4 (by omega) w
theorem hexS_one (n : Int) (h0 : 0 ≤ n) (h2 : n < 10) : hexS n 1 = textS n := by
  apply bytes_ext
  rw [hexS_succ]
  unfold textS
  rw [if_neg (by omega), if_pos h2]
  have : digI n 0 = n := by unfold digI; simp; omega
  rw [this]
  rfl
theorem rhex1_any (n : Int) (h0 : 0 ≤ n) (h2 : n < 10) (w : World) :
    Calls Tryd.prog 57 #[.int .i64 n, .int .i64 1] w fun e w' => e = .returned (.string (textS n)) ∧ w = w' := by
  have h := rhex_any n 1 (by omega) w
  rw [hexS_one n h0 h2] at h
  exact h

set_option maxHeartbeats 400000 in
theorem rtext_any (n : Int) (w : World) :
    Calls Tryd.prog 33 #[.int .i64 n] w fun e w' => e = .returned (.string (textS n)) ∧ w = w' := by
  by_cases ha : n < 0
  · have T := Lib.hid (show (⟨#[]⟩ : ByteArray) = textS n by unfold textS; rw [if_pos (.inl ha)])
    go_enter Tryd.func33, Tryd.ntmps33
    go_wp2
    go_ret
    exact ⟨ret_str T.out, rfl⟩
  · by_cases hb : 65535 < n
    · have T := Lib.hid (show (⟨#[]⟩ : ByteArray) = textS n by unfold textS; rw [if_pos (.inr hb)])
      go_enter Tryd.func33, Tryd.ntmps33
      go_wp2
      go_ret
      exact ⟨ret_str T.out, rfl⟩
    · by_cases h2 : n < 10
      · have h0 : 0 ≤ n := by omega
        go_enter Tryd.func33, Tryd.ntmps33
        go_wp2_with (go_at_call 57; refine (rhex1_any n h0 h2 _).mono ?_; rintro e w' ⟨rfl, rfl⟩)
        go_ret
        exact ⟨rfl, rfl⟩
      · have h1 : n ≤ 65535 := by omega
        have hp := digS_pos n (by omega) h1
        have hq := digS_le n
        have hl := digS_let n (by omega) h1 hp
        go_enter Tryd.func33, Tryd.ntmps33
        have HL := Lib.hid hl
        clear hl
        go_wp2_with (go_at_call 57; refine (rhex4_any n _).mono ?_; rintro e w' ⟨rfl, rfl⟩)
        go_loop [3] (fun v => ∃ t : ByteArray, v = .string t ∧ t.size ≤ 4 ∧ 0 < t.size ∧ Hid (trimL 48 t = digS n)) (fun v => strLen v)
        case atStart => exact ⟨_, rfl, by rw [hexS_size]; omega, by rw [hexS_size]; omega, rfl⟩
        case round =>
          obtain ⟨t, rfl, ht, h, T⟩ := hrel
          have hne : ((t.size : Int) == 0) = false := by rw [beq_eq_false_iff_ne]; omega
          by_cases e : t[0] = 48
          · have e1 : ((t[0].toNat : Int) == 48) = true := by rw [e]; rfl
            have N : Hid (trimL 48 (t.extract 1 t.size) = digS n) := (trimL_same 48 t h e).trans T.out
            have hpos : 0 < (t.extract 1 t.size).size := by
              by_cases c : 0 < (t.extract 1 t.size).size
              · exact c
              · have h3 := trimL_nil 48 _ c
                rw [N.out] at h3
                rw [h3] at hp
                exact absurd hp c
            clear e
            go_wp2
            go_round
            case rel => exact ⟨_, rfl, Nat.le_trans (extract_le t 1 t.size) ht, hpos, N⟩
            case measure => simp [strLen]; omega
          · have e1 : ((t[0].toNat : Int) == 48) = false := by
              rw [beq_eq_false_iff_ne]
              intro h2
              exact e (UInt8.toNat_inj.1 (by show t[0].toNat = 48; omega))
            have N : t = digS n := (trimL_stop 48 t h e).symm.trans T.out
            subst N
            clear e T
            by_cases h3 : (65 : Int) ≤ ((digS n)[0].toNat : Int)
            · have F := Lib.hid (text_let n (by omega) h1 hp (by rw [HL.out]; simp [h3]))
              go_wp2
              go_ret
              exact ⟨ret_str F.out, rfl⟩
            · have F := Lib.hid (text_dec n (by omega) h1 hp (by rw [HL.out]; simp [h3]))
              go_wp2
              go_ret
              exact ⟨ret_str F.out, rfl⟩

theorem digV_bad (c base : Int) (hb0 : 0 ≤ base) (hb : base ≤ 16) : base ≤ digV c ↔ (hexV c < 0 ∨ base ≤ hexV c) := by
  unfold digV hexV; split <;> (try split) <;> (try split) <;> (try split) <;> (try split) <;> omega
theorem digV_good (c : Int) (h : 0 ≤ hexV c) : digV c = hexV c := by
  unfold digV hexV at *; split <;> (try split) <;> (try split) <;> (try split) <;> (try split) <;> (try split at h) <;> omega
theorem digV_bd (c : Int) : 0 ≤ digV c ∧ digV c ≤ 99 := by unfold digV; split <;> (try split) <;> (try split) <;> omega
/-- What holds of the number m so far, at the head of round k: it is the number that the digits denote, or both are too great. -/
def ValRel (base : Int) (s : ByteArray) (k : Nat) (m : Int) : Prop :=
  0 ≤ m ∧ m ≤ 1000000 ∧ ((rdL base (s.data.toList.take k) = some m ∧ m ≤ 65535) ∨ (rdL base (s.data.toList.take k) = none ∧ 65535 < m))
def refV (base : Int) (s : ByteArray) : Int := (rdO base s).getD (-1)
theorem refV_bad (s : ByteArray) (base m : Int) (k : Nat) (h : k < s.size) (hr : ValRel base s k m) (hv : hexV (s[k].toNat : Int) < 0 ∨ base ≤ hexV (s[k].toNat : Int)) : refV base s = -1 := by
  have hn : rdL base (s.data.toList.take k ++ [s[k]]) = none := by
    rcases hr.2.2 with ⟨h1, _⟩ | ⟨h1, _⟩
    · rw [rdL_snoc, h1]; unfold rdStep; simp only [Option.bind_some]; rw [if_pos hv]
    · exact rdL_app_none base _ _ h1
  have h1 : rdO base s = none := by
    unfold rdO
    rw [if_neg (ne_nil_of_lt s k h), take_all s k h]
    exact rdL_app_none base _ _ hn
  unfold refV
  rw [h1]
  rfl
theorem valRel_next (s : ByteArray) (base m : Int) (k : Nat) (h : k < s.size) (hb : 2 ≤ base) (hr : ValRel base s k m) (v0 : 0 ≤ hexV (s[k].toNat : Int)) (v1 : hexV (s[k].toNat : Int) < base) :
    ValRel base s (k + 1) (min (m * base + hexV (s[k].toNat : Int)) 1000000) := by
  obtain ⟨r0, r1, r2⟩ := hr
  have hm : m * 2 ≤ m * base := Int.mul_le_mul_of_nonneg_left hb r0
  refine ⟨by omega, by omega, ?_⟩
  rcases r2 with ⟨h1, h2⟩ | ⟨h1, h2⟩
  · by_cases hle : m * base + hexV (s[k].toNat : Int) ≤ 65535
    · left
      rw [take_snoc s k h, rdL_snoc, h1]
      unfold rdStep
      simp only [Option.bind_some]
      rw [if_neg (by omega), if_pos hle]
      exact ⟨by congr 1; omega, by omega⟩
    · right
      rw [take_snoc s k h, rdL_snoc, h1]
      unfold rdStep
      simp only [Option.bind_some]
      rw [if_neg (by omega), if_neg hle]
      exact ⟨rfl, by omega⟩
  · right
    rw [take_snoc s k h]
    exact ⟨rdL_app_none base _ _ h1, by omega⟩
theorem refV_end (s : ByteArray) (base m : Int) (h : s.toList.isEmpty = false) (hr : ValRel base s s.size m) : (65535 < m → refV base s = -1) ∧ (m ≤ 65535 → refV base s = m) := by
  obtain ⟨r0, r1, r2⟩ := hr
  rw [List.take_of_length_le (by simp)] at r2
  have hne : s.data.toList ≠ [] := by
    rw [ByteArray.toList_eq] at h
    intro e
    rw [e] at h
    simp at h
  unfold refV rdO
  rw [if_neg hne]
  rcases r2 with ⟨h1, h2⟩ | ⟨h1, h2⟩
  · rw [h1]; exact ⟨fun h3 => by omega, fun _ => rfl⟩
  · rw [h1]; exact ⟨fun _ => rfl, fun h3 => by omega⟩
set_option maxHeartbeats 1000000 in
theorem rvalue_any (s : ByteArray) (base : Int) (hs : s.size ≤ maxLen) (hb0 : 2 ≤ base) (hb1 : base ≤ 16) (w : World) :
    Calls Tryd.prog 77 #[.string s, .int .i64 base] w fun e w' => e = .returned (.int .i64 (refV base s)) ∧ w = w' := by
  unfold maxLen at hs
  by_cases he : s.toList.isEmpty = true
  · have F := Lib.hid (show -1 = refV base s by
      rw [ByteArray.toList_eq] at he
      unfold refV rdO
      rw [if_pos (by simpa using he)]; rfl)
    go_enter Tryd.func77, Tryd.ntmps77
    go_wp2
    go_ret
    exact ⟨ret_int F.out, rfl⟩
  · have he' : s.toList.isEmpty = false := by simpa using he
    clear he
    go_enter Tryd.func77, Tryd.ntmps77
    go_wp2
    go_loop [5, 6] (fun n i => ∃ (k : Nat) (m : Int), k ≤ s.size ∧ i = .int .i64 k ∧ n = .int .i64 m ∧ Hid (ValRel base s k m)) (fun _ i => s.size - (intOf i).toNat)
    case atStart => exact ⟨0, 0, Nat.zero_le _, rfl, rfl, by omega, by omega, .inl ⟨rfl, by omega⟩⟩
    case round =>
      obtain ⟨k, m, hk, rfl, rfl, R⟩ := hrel
      have m0 : 0 ≤ m := R.out.1
      have m1 : m ≤ 1000000 := R.out.2.1
      by_cases hlt : k < s.size
      · have c0 : (0 : Int) ≤ (s[k].toNat : Int) := by omega
        have c1 : (s[k].toNat : Int) ≤ 255 := by have := s[k].toNat_lt; omega
        by_cases hv : base ≤ digV (s[k].toNat : Int)
        · have F := Lib.hid (refV_bad s base m k hlt R.out ((digV_bad _ base (by omega) hb1).1 hv)).symm
          go_wp2_with (go_at_call 78; refine (rdigit_any _ c0 c1 _).mono ?_; rintro e w' ⟨rfl, rfl⟩)
          go_ret
          exact ⟨ret_int F.out, rfl⟩
        · have hv2 : ¬ (hexV (s[k].toNat : Int) < 0 ∨ base ≤ hexV (s[k].toNat : Int)) := fun h => hv ((digV_bad _ base (by omega) hb1).2 h)
          have N := valRel_next s base m k hlt hb0 R.out (by omega) (by omega)
          rw [← digV_good (s[k].toNat : Int) (by omega)] at N
          have N' := Lib.hid N
          clear N hv2
          have hm0 : 0 ≤ m * base := Int.mul_nonneg m0 (by omega)
          have hm1 : m * base ≤ 1000000 * 16 := Int.mul_le_mul m1 hb1 (by omega) (by omega)
          obtain ⟨g0, g1⟩ := digV_bd (s[k].toNat : Int)
          go_wp2_with (go_at_call 78; refine (rdigit_any _ c0 c1 _).mono ?_; rintro e w' ⟨rfl, rfl⟩)
          go_round
          case rel => exact ⟨k + 1, _, by omega, by go_num, rfl, N'⟩
          case measure => simp [intOf]; omega
      · have E := refV_end s base m he' (by have h := R.out; rwa [show k = s.size by omega] at h)
        by_cases hg : 65535 < m
        · have F := Lib.hid (E.1 hg).symm
          clear E
          go_wp2
          go_ret
          exact ⟨ret_int F.out, rfl⟩
        · have F := Lib.hid (E.2 (by omega)).symm
          clear E
          go_wp2
          go_ret
          exact ⟨ret_int F.out, rfl⟩
end Go.Proofs.YtcmcikcagpkocaaDoor
