/-
  The walk over breadboardref01.Parse: for every word the greatest number that it denotes in one of the forms, or 0 and false; the world is left as it was.
-/
import Derived.Test.YtcmcikcagpkocaaDoorNumJ
import Derived.Deep.DeepCutAuto
namespace Go.Proofs.YtcmcikcagpkocaaDoor
open Go.RowKit
set_option linter.unusedVariables false

theorem rvalueI_any (s : ByteArray) (base : Int) (hs : s.size ≤ 2 ^ 63 - 1) (hb0 : 2 ≤ base) (hb1 : base ≤ 16) (w : World) :
    Calls Tryd.prog 77 #[.string s, .int .i64 base] w fun e w' => e = .returned (.int .i64 (refV base s)) ∧ w = w' := rvalue_any s base (by unfold maxLen; exact hs) hb0 hb1 w
/-- The byte number i of a word; 0 behind its end. -/
def atI (s : ByteArray) (i : Nat) : Int := ((s.data.toList.getD i 0).toNat : Int)
theorem atI_of (s : ByteArray) (i : Nat) (h : i < s.size) : atI s i = (s[i].toNat : Int) := by
  unfold atI
  rw [List.getD_eq_getElem?_getD, List.getElem?_eq_getElem (by simpa using h)]
  rfl
def cnd1 (s : ByteArray) : Bool := decide (2 < s.size) && (atI s 0 == 48) && (atI s 1 == 120 || atI s 1 == 88)
def cnd2 (s : ByteArray) : Bool := decide (1 < s.size) && (atI s 0 == 36)
def cnd3 (s : ByteArray) : Bool := decide (1 < s.size) && (atI s 0 == 37)
def cnd4 (s : ByteArray) : Bool := decide (1 < s.size) && (atI s (s.size - 1) == 104 || atI s (s.size - 1) == 72) && decide (digV (atI s 0) < 10)
def cnd5 (s : ByteArray) : Bool := decide (1 < s.size) && (atI s (s.size - 1) == 98 || atI s (s.size - 1) == 66)
def xr0 (s : ByteArray) : Int := refV 10 s
def xr1 (s : ByteArray) : Int := if cnd1 s then max (xr0 s) (refV 16 (s.extract 2 s.size)) else xr0 s
def xr2 (s : ByteArray) : Int := if cnd2 s then max (xr1 s) (refV 16 (s.extract 1 s.size)) else xr1 s
def xr3 (s : ByteArray) : Int := if cnd3 s then max (xr2 s) (refV 2 (s.extract 1 s.size)) else xr2 s
def xr4 (s : ByteArray) : Int := if cnd4 s then max (xr3 s) (refV 16 (s.extract 0 (s.size - 1))) else xr3 s
def xr5 (s : ByteArray) : Int := if cnd5 s then max (xr4 s) (refV 2 (s.extract 0 (s.size - 1))) else xr4 s
theorem cnd1_lt {s : ByteArray} (h : cnd1 s = true) : 2 < s.size := by unfold cnd1 at h; simp at h; exact h.1.1
theorem cnd2_lt {s : ByteArray} (h : cnd2 s = true) : 1 < s.size := by unfold cnd2 at h; simp at h; exact h.1
theorem cnd3_lt {s : ByteArray} (h : cnd3 s = true) : 1 < s.size := by unfold cnd3 at h; simp at h; exact h.1
theorem cnd4_lt {s : ByteArray} (h : cnd4 s = true) : 1 < s.size := by unfold cnd4 at h; simp at h; exact h.1.1
theorem cnd5_lt {s : ByteArray} (h : cnd5 s = true) : 1 < s.size := by unfold cnd5 at h; simp at h; exact h.1
theorem v_bool {a b : Bool} (h : a = b) : Value.bool a = Value.bool b := by rw [h]
theorem v_int {a b : Int} (h : a = b) : Value.int .i64 a = .int .i64 b := by rw [h]
theorem b_eq {a b : Int} (h : a = b) : (a == b) = true := by simpa using h
theorem b_ne {a b : Int} (h : ¬ a = b) : (a == b) = false := by simpa using h

set_option maxHeartbeats 4000000 in
set_option maxRecDepth 100000 in
theorem rparse_any (s : ByteArray) (hs : s.size ≤ 2 ^ 63 - 1) (w : World) :
    Calls Tryd.prog 53 #[.string s] w fun e w' => e = .returned (.tuple #[.int .i64 (max (xr5 s) 0), .bool (decide (0 ≤ xr5 s))]) ∧ w = w' := by
  go_enter Tryd.func53, Tryd.ntmps53
  go_upto_region 3 with (go_at_call 77; refine (rvalueI_any s 10 hs (by omega) (by omega) _).mono ?_; rw [show refV 10 s = xr0 s from rfl]; rintro e w' ⟨rfl, rfl⟩)
  go_cut [26] (fun t wx => t = .bool (cnd1 s) ∧ w = wx)
  case first =>
    by_cases h2 : 2 < s.size
    · have e0 := atI_of s 0 (by omega)
      have e1 := atI_of s 1 (by omega)
      by_cases a : (s[0].toNat : Int) = 48
      · have a' := b_eq a
        by_cases b : (s[1].toNat : Int) = 120
        · have b' := b_eq b
          have C : Hid (cnd1 s = true) := by show _ = _; unfold cnd1; rw [e0, e1, a', b']; simp [h2]
          clear a b e0 e1
          go_wp2
          go_meet
          exact ⟨v_bool C.out.symm, rfl⟩
        · have b' := b_ne b
          by_cases c : (s[1].toNat : Int) = 88
          · have c' := b_eq c
            have C : Hid (cnd1 s = true) := by show _ = _; unfold cnd1; rw [e0, e1, a', b', c']; simp [h2]
            clear a b c e0 e1
            go_wp2
            go_meet
            exact ⟨v_bool C.out.symm, rfl⟩
          · have c' := b_ne c
            have C : Hid (cnd1 s = false) := by show _ = _; unfold cnd1; rw [e0, e1, a', b', c']; simp
            clear a b c e0 e1
            go_wp2
            go_meet
            exact ⟨v_bool C.out.symm, rfl⟩
      · have a' := b_ne a
        have C : Hid (cnd1 s = false) := by show _ = _; unfold cnd1; rw [e0, a']; simp
        clear a e0 e1
        go_wp2
        go_meet
        exact ⟨v_bool C.out.symm, rfl⟩
    · have C : Hid (cnd1 s = false) := by show _ = _; unfold cnd1; rw [decide_eq_false h2]; simp
      go_wp2
      go_meet
      exact ⟨v_bool C.out.symm, rfl⟩
  case rest =>
  obtain ⟨rfl, rfl⟩ := hcut
  go_upto_if 26 with fail
  go_cut [5, 26] (fun v t wx => v = .int .i64 (xr1 s) ∧ w = wx)
  case first =>
    by_cases h : cnd1 s = true
    · have hl := cnd1_lt h
      have E := Lib.hid (show max (xr0 s) (refV 16 (s.extract 2 s.size)) = xr1 s by unfold xr1; rw [if_pos h])
      have hz : (s.extract 2 s.size).size ≤ 2 ^ 63 - 1 := Nat.le_trans (extract_le s _ _) hs
      rw [h]
      go_wp2_with (go_at_call 77; refine (rvalueI_any _ 16 hz (by omega) (by omega) _).mono ?_; rintro e w' ⟨rfl, rfl⟩)
      go_meet
      exact ⟨v_int E.out, rfl⟩
    · have h' : cnd1 s = false := by simpa using h
      clear h
      have E := Lib.hid (show xr0 s = xr1 s by unfold xr1; rw [h']; rfl)
      rw [h']
      go_wp2
      go_meet
      exact ⟨v_int E.out, rfl⟩
  case rest =>
  obtain ⟨rfl, rfl⟩ := hcut
  go_upto_region 5 with fail
  go_cut [38] (fun t wx => t = .bool (cnd2 s) ∧ w = wx)
  case first =>
    by_cases h2 : 1 < s.size
    · have e0 := atI_of s 0 (by omega)
      by_cases a : (s[0].toNat : Int) = 36
      · have a' := b_eq a
        have C : Hid (cnd2 s = true) := by show _ = _; unfold cnd2; rw [e0, a']; simp [h2]
        clear a e0
        go_wp2
        go_meet
        exact ⟨v_bool C.out.symm, rfl⟩
      · have a' := b_ne a
        have C : Hid (cnd2 s = false) := by show _ = _; unfold cnd2; rw [e0, a']; simp
        clear a e0
        go_wp2
        go_meet
        exact ⟨v_bool C.out.symm, rfl⟩
    · have C : Hid (cnd2 s = false) := by show _ = _; unfold cnd2; rw [decide_eq_false h2]; simp
      go_wp2
      go_meet
      exact ⟨v_bool C.out.symm, rfl⟩
  case rest =>
  obtain ⟨rfl, rfl⟩ := hcut
  go_upto_if 38 with fail
  go_cut [5, 38] (fun v t wx => v = .int .i64 (xr2 s) ∧ w = wx)
  case first =>
    by_cases h : cnd2 s = true
    · have hl := cnd2_lt h
      have E := Lib.hid (show max (xr1 s) (refV 16 (s.extract 1 s.size)) = xr2 s by unfold xr2; rw [if_pos h])
      have hz : (s.extract 1 s.size).size ≤ 2 ^ 63 - 1 := Nat.le_trans (extract_le s _ _) hs
      rw [h]
      go_wp2_with (go_at_call 77; refine (rvalueI_any _ 16 hz (by omega) (by omega) _).mono ?_; rintro e w' ⟨rfl, rfl⟩)
      go_meet
      exact ⟨v_int E.out, rfl⟩
    · have h' : cnd2 s = false := by simpa using h
      clear h
      have E := Lib.hid (show xr1 s = xr2 s by unfold xr2; rw [h']; rfl)
      rw [h']
      go_wp2
      go_meet
      exact ⟨v_int E.out, rfl⟩
  case rest =>
  obtain ⟨rfl, rfl⟩ := hcut
  go_upto_region 7 with fail
  go_cut [50] (fun t wx => t = .bool (cnd3 s) ∧ w = wx)
  case first =>
    by_cases h2 : 1 < s.size
    · have e0 := atI_of s 0 (by omega)
      by_cases a : (s[0].toNat : Int) = 37
      · have a' := b_eq a
        have C : Hid (cnd3 s = true) := by show _ = _; unfold cnd3; rw [e0, a']; simp [h2]
        clear a e0
        go_wp2
        go_meet
        exact ⟨v_bool C.out.symm, rfl⟩
      · have a' := b_ne a
        have C : Hid (cnd3 s = false) := by show _ = _; unfold cnd3; rw [e0, a']; simp
        clear a e0
        go_wp2
        go_meet
        exact ⟨v_bool C.out.symm, rfl⟩
    · have C : Hid (cnd3 s = false) := by show _ = _; unfold cnd3; rw [decide_eq_false h2]; simp
      go_wp2
      go_meet
      exact ⟨v_bool C.out.symm, rfl⟩
  case rest =>
  obtain ⟨rfl, rfl⟩ := hcut
  go_upto_if 50 with fail
  go_cut [5, 50] (fun v t wx => v = .int .i64 (xr3 s) ∧ w = wx)
  case first =>
    by_cases h : cnd3 s = true
    · have hl := cnd3_lt h
      have E := Lib.hid (show max (xr2 s) (refV 2 (s.extract 1 s.size)) = xr3 s by unfold xr3; rw [if_pos h])
      have hz : (s.extract 1 s.size).size ≤ 2 ^ 63 - 1 := Nat.le_trans (extract_le s _ _) hs
      rw [h]
      go_wp2_with (go_at_call 77; refine (rvalueI_any _ 2 hz (by omega) (by omega) _).mono ?_; rintro e w' ⟨rfl, rfl⟩)
      go_meet
      exact ⟨v_int E.out, rfl⟩
    · have h' : cnd3 s = false := by simpa using h
      clear h
      have E := Lib.hid (show xr2 s = xr3 s by unfold xr3; rw [h']; rfl)
      rw [h']
      go_wp2
      go_meet
      exact ⟨v_int E.out, rfl⟩
  case rest =>
  obtain ⟨rfl, rfl⟩ := hcut
  go_upto_region 9 with fail
  go_cut [77] (fun t wx => t = .bool (cnd4 s) ∧ w = wx)
  case first =>
    by_cases h2 : 1 < s.size
    · have e0 := atI_of s 0 (by omega)
      have e1 := atI_of s (s.size - 1) (by omega)
      by_cases a : (s[s.size - 1].toNat : Int) = 104
      · have a' := b_eq a
        clear a
        have c0 : (0 : Int) ≤ (s[0].toNat : Int) := by omega
        have c1 : (s[0].toNat : Int) ≤ 255 := by have := s[0].toNat_lt; omega
        by_cases d : digV (s[0].toNat : Int) < 10
        · have C : Hid (cnd4 s = true) := by show _ = _; unfold cnd4; rw [e1, e0, a']; simp [h2, d]
          clear e0 e1
          go_wp2_with (go_at_call 78; refine (rdigit_any _ c0 c1 _).mono ?_; rintro e w' ⟨rfl, rfl⟩)
          go_meet
          exact ⟨v_bool C.out.symm, rfl⟩
        · have C : Hid (cnd4 s = false) := by show _ = _; unfold cnd4; rw [e1, e0, a']; simp; omega
          clear e0 e1
          go_wp2_with (go_at_call 78; refine (rdigit_any _ c0 c1 _).mono ?_; rintro e w' ⟨rfl, rfl⟩)
          go_meet
          exact ⟨v_bool (by rw [decide_eq_false (show ¬ digV (s[0].toNat : Int) < 10 by omega)]; exact C.out.symm), rfl⟩
      · have a' := b_ne a
        clear a
        by_cases b : (s[s.size - 1].toNat : Int) = 72
        · have b' := b_eq b
          clear b
          have c0 : (0 : Int) ≤ (s[0].toNat : Int) := by omega
          have c1 : (s[0].toNat : Int) ≤ 255 := by have := s[0].toNat_lt; omega
          by_cases d : digV (s[0].toNat : Int) < 10
          · have C : Hid (cnd4 s = true) := by show _ = _; unfold cnd4; rw [e1, e0, a', b']; simp [h2, d]
            clear e0 e1
            go_wp2_with (go_at_call 78; refine (rdigit_any _ c0 c1 _).mono ?_; rintro e w' ⟨rfl, rfl⟩)
            go_meet
            exact ⟨v_bool C.out.symm, rfl⟩
          · have C : Hid (cnd4 s = false) := by show _ = _; unfold cnd4; rw [e1, e0, a', b']; simp; omega
            clear e0 e1
            go_wp2_with (go_at_call 78; refine (rdigit_any _ c0 c1 _).mono ?_; rintro e w' ⟨rfl, rfl⟩)
            go_meet
            exact ⟨v_bool (by rw [decide_eq_false (show ¬ digV (s[0].toNat : Int) < 10 by omega)]; exact C.out.symm), rfl⟩
        · have b' := b_ne b
          clear b
          have C : Hid (cnd4 s = false) := by show _ = _; unfold cnd4; rw [e1, a', b']; simp
          clear e0 e1
          go_wp2
          go_meet
          exact ⟨v_bool C.out.symm, rfl⟩
    · have C : Hid (cnd4 s = false) := by show _ = _; unfold cnd4; rw [decide_eq_false h2]; simp
      go_wp2
      go_meet
      exact ⟨v_bool C.out.symm, rfl⟩
  case rest =>
  obtain ⟨rfl, rfl⟩ := hcut
  go_upto_if 77 with fail
  go_cut [5, 77] (fun v t wx => v = .int .i64 (xr4 s) ∧ w = wx)
  case first =>
    by_cases h : cnd4 s = true
    · have hl := cnd4_lt h
      have E := Lib.hid (show max (xr3 s) (refV 16 (s.extract 0 (s.size - 1))) = xr4 s by unfold xr4; rw [if_pos h])
      have hz : (s.extract 0 (s.size - 1)).size ≤ 2 ^ 63 - 1 := Nat.le_trans (extract_le s _ _) hs
      rw [h]
      go_wp2_with (go_at_call 77; refine (rvalueI_any _ 16 hz (by omega) (by omega) _).mono ?_; rintro e w' ⟨rfl, rfl⟩)
      go_meet
      exact ⟨v_int E.out, rfl⟩
    · have h' : cnd4 s = false := by simpa using h
      clear h
      have E := Lib.hid (show xr3 s = xr4 s by unfold xr4; rw [h']; rfl)
      rw [h']
      go_wp2
      go_meet
      exact ⟨v_int E.out, rfl⟩
  case rest =>
  obtain ⟨rfl, rfl⟩ := hcut
  go_upto_region 11 with fail
  go_cut [100] (fun t wx => t = .bool (cnd5 s) ∧ w = wx)
  case first =>
    by_cases h2 : 1 < s.size
    · have e0 := atI_of s 0 (by omega)
      have e1 := atI_of s (s.size - 1) (by omega)
      by_cases a : (s[s.size - 1].toNat : Int) = 98
      · have a' := b_eq a
        clear a
        have C : Hid (cnd5 s = true) := by show _ = _; unfold cnd5; rw [e1, a']; simp [h2]
        clear e1
        go_wp2
        go_meet
        exact ⟨v_bool C.out.symm, rfl⟩
      · have a' := b_ne a
        clear a
        by_cases b : (s[s.size - 1].toNat : Int) = 66
        · have b' := b_eq b
          clear b
          have C : Hid (cnd5 s = true) := by show _ = _; unfold cnd5; rw [e1, a', b']; simp [h2]
          clear e1
          go_wp2
          go_meet
          exact ⟨v_bool C.out.symm, rfl⟩
        · have b' := b_ne b
          clear b
          have C : Hid (cnd5 s = false) := by show _ = _; unfold cnd5; rw [e1, a', b']; simp
          clear e0 e1
          go_wp2
          go_meet
          exact ⟨v_bool C.out.symm, rfl⟩
    · have C : Hid (cnd5 s = false) := by show _ = _; unfold cnd5; rw [decide_eq_false h2]; simp
      go_wp2
      go_meet
      exact ⟨v_bool C.out.symm, rfl⟩
  case rest =>
  obtain ⟨rfl, rfl⟩ := hcut
  go_upto_if 100 with fail
  go_cut [5, 100] (fun v t wx => v = .int .i64 (xr5 s) ∧ w = wx)
  case first =>
    by_cases h : cnd5 s = true
    · have hl := cnd5_lt h
      have E := Lib.hid (show max (xr4 s) (refV 2 (s.extract 0 (s.size - 1))) = xr5 s by unfold xr5; rw [if_pos h])
      have hz : (s.extract 0 (s.size - 1)).size ≤ 2 ^ 63 - 1 := Nat.le_trans (extract_le s _ _) hs
      rw [h]
      go_wp2_with (go_at_call 77; refine (rvalueI_any _ 2 hz (by omega) (by omega) _).mono ?_; rintro e w' ⟨rfl, rfl⟩)
      go_meet
      exact ⟨v_int E.out, rfl⟩
    · have h' : cnd5 s = false := by simpa using h
      clear h
      have E := Lib.hid (show xr4 s = xr5 s by unfold xr5; rw [h']; rfl)
      rw [h']
      go_wp2
      go_meet
      exact ⟨v_int E.out, rfl⟩
  case rest =>
  obtain ⟨rfl, rfl⟩ := hcut
  go_wp2
  go_ret2
  exact ⟨rfl, rfl⟩
end Go.Proofs.YtcmcikcagpkocaaDoor
