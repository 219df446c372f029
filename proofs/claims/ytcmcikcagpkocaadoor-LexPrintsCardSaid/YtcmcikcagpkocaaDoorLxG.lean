/-
  The walks over the sizes of words and numbers and over marks, of the program and of the reference.
-/
import Derived.Test.YtcmcikcagpkocaaDoorLxF
import Derived.Test.YtcmcikcagpkocaaDoorNumD
namespace Go.Proofs.YtcmcikcagpkocaaDoor
open Go.RowKit
set_option linter.unusedVariables false

theorem bz_iff (s : ByteArray) : s.toList.isEmpty = true ↔ s.data.toList = [] := by rw [ByteArray.toList_eq]; exact List.isEmpty_iff
theorem bz_not {s : ByteArray} (h : s.toList.isEmpty = false) : ∃ (h0 : 0 < s.size) (r : List UInt8), s.data.toList = s[0] :: r ∧ r = s.data.toList.drop 1 := by
  have h0 := size_pos h
  have e := list_cons s h0
  refine ⟨h0, (s.extract 1 s.size).data.toList, e, ?_⟩
  rw [e]
  rfl
theorem eq_list (a : ByteArray) (l : List UInt8) : (a.toList == l) = decide (a.data.toList = l) := by rw [ByteArray.toList_eq, Bool.eq_iff_iff, beq_iff_eq, decide_eq_true_iff]
theorem pre_one (s : ByteArray) (c : UInt8) : preB s ⟨#[c]⟩ = (s.data.toList.head? == some c) := by
  have e : ((⟨#[c]⟩ : ByteArray)).data.toList = [c] := rfl
  rw [Bool.eq_iff_iff, preB_iff, e, beq_iff_eq]
  constructor
  · rintro ⟨r, h⟩; rw [h]; rfl
  · intro h
    cases hl : s.data.toList with
    | nil => rw [hl] at h; cases h
    | cons a r => rw [hl] at h; cases h; exact ⟨r, rfl⟩
set_option maxHeartbeats 1000000 in
theorem shasPrefix_any (s p : ByteArray) (hs : s.size ≤ maxLen) (hp : p.size ≤ maxLen) (w : World) :
    Calls Tryd.prog 38 #[.string s, .string p] w fun e w' => e = .returned (.bool (preB s p)) ∧ w = w' := by
  go_enter Tryd.func38, Tryd.ntmps38
  go_wp2_with (go_at_call 67; refine (hasPrefix_any _ _ hs hp _).mono ?_; rintro e w' ⟨rfl, rfl⟩)
  go_ret
  exact ⟨rfl, rfl⟩
/-- The sizes of words by the parts that the walks ask for. -/
theorem word_parts (s : ByteArray) (a : Nat) (h : a < s.size) : (letU s[a] = false → wordN (s.data.toList.drop a) = 0) ∧
    (letU s[a] = true → wordN (s.data.toList.drop a) = if ((upB (s.extract a (a + partN (s.data.toList.drop a)))).toList == [65, 70]) && ((s.data.toList.drop (a + partN (s.data.toList.drop a))).head? == some 39) then partN (s.data.toList.drop a) + 1 else partN (s.data.toList.drop a)) := by
  have hl : s.data.toList.length = s.size := by simp
  have e := List.drop_eq_getElem_cons (l := s.data.toList) (i := a) (by omega)
  rw [at_list s a h] at e
  have e2 : ((upB (s.extract a (a + partN (s.data.toList.drop a)))).toList == [65, 70]) = isAF ((s.data.toList.drop a).takeWhile wrdU) := by
    rw [ByteArray.toList_eq, upB_list, ext_mid, Nat.add_sub_cancel_left]
    unfold partN
    rw [tw_take]
    rfl
  rw [e2, ← List.drop_drop, e]
  constructor
  · intro h; rw [word_cons]; rw [h]; rfl
  · intro h; rw [word_cons]; rw [if_pos h]
set_option maxRecDepth 100000 in
set_option maxHeartbeats 1000000 in
theorem wordSize_any (s : ByteArray) (hs : s.size ≤ 100000) (w : World) :
    Calls Tryd.prog 34 #[.string s] w fun e w' => e = .returned (.int .i64 (wordN s.data.toList : Nat)) ∧ Below w.heap.size w w' := by
  have HS : Hid (s.size ≤ maxLen) := by show _ ≤ _; unfold maxLen; omega
  cases he : s.toList.isEmpty
  case true =>
    have E : Hid (wordN s.data.toList = 0) := by rw [(bz_iff s).1 he]; rfl
    go_enter Tryd.func34, Tryd.ntmps34
    go_wp2
    go_ret
    exact ⟨ret_int (by rw [E.out]; rfl), Below.refl _ _⟩
  case false =>
    obtain ⟨h0, -, -, -⟩ := bz_not he
    have X0 := isLetter_any s[0] w
    have W := word_parts s 0 h0
    simp only [List.drop_zero, Nat.zero_add] at W
    have P0 := Lib.hid (partSize_any s HS.out w)
    have PL := part_le s.data.toList
    obtain ⟨n, hn⟩ : ∃ n, partN s.data.toList = n := ⟨_, rfl⟩
    rw [hn] at W P0 PL
    have hnl : n ≤ s.size := by simpa using PL
    clear hn PL
    cases e : letU s[0]
    · rw [e] at X0
      have N := Lib.hid (W.1 e)
      clear W e P0
      go_enter Tryd.func34, Tryd.ntmps34
      go_wp2_with fail
      refine X0.mono ?_
      rintro e w' ⟨rfl, rfl⟩
      go_wp2
      go_ret
      exact ⟨ret_int (by rw [N.out]; rfl), Below.refl _ _⟩
    · rw [e] at X0
      have W1 := W.2 e
      clear W e
      have H1 := Lib.hid (shasPrefix_any (s.extract n s.size) ⟨#[39]⟩ (Nat.le_trans (extract_le s n s.size) HS.out) (by decide))
      have U := Lib.hid (upper_any (s.extract 0 n) (Nat.le_trans (extract_le s 0 n) HS.out) w)
      obtain ⟨q, hq⟩ : ∃ q, ((upB (s.extract 0 n)).toList == [65, 70]) = q := ⟨_, rfl⟩
      have P1 := pre_one (s.extract n s.size) 39
      rw [ext_drop] at P1
      obtain ⟨b, hb⟩ : ∃ b, preB (s.extract n s.size) ⟨#[39]⟩ = b := ⟨_, rfl⟩
      rw [hb] at P1 H1
      rw [hq, ← P1] at W1
      have N := Lib.hid W1
      clear W1 P1 hb
      cases q
      · go_enter Tryd.func34, Tryd.ntmps34
        go_wp2_with fail
        refine X0.mono ?_
        rintro e w' ⟨rfl, rfl⟩
        go_wp2_with fail
        refine P0.out.mono ?_
        rintro e w' ⟨rfl, rfl⟩
        go_wp2_with fail
        refine U.out.mono ?_
        rintro e w1 ⟨rfl, hb1⟩
        have B1 := Lib.hid hb1
        clear hb1
        go_wp2
        go_ret
        exact ⟨ret_int (by rw [N.out]; rfl), B1.out⟩
      · cases b
        · go_enter Tryd.func34, Tryd.ntmps34
          go_wp2_with fail
          refine X0.mono ?_
          rintro e w' ⟨rfl, rfl⟩
          go_wp2_with fail
          refine P0.out.mono ?_
          rintro e w' ⟨rfl, rfl⟩
          go_wp2_with fail
          refine U.out.mono ?_
          rintro e w1 ⟨rfl, hb1⟩
          have B1 := Lib.hid hb1
          clear hb1
          go_wp2_with fail
          refine (H1.out w1).mono ?_
          rintro e w' ⟨rfl, rfl⟩
          go_wp2
          go_ret
          exact ⟨ret_int (by rw [N.out]; rfl), B1.out⟩
        · go_enter Tryd.func34, Tryd.ntmps34
          go_wp2_with fail
          refine X0.mono ?_
          rintro e w' ⟨rfl, rfl⟩
          go_wp2_with fail
          refine P0.out.mono ?_
          rintro e w' ⟨rfl, rfl⟩
          go_wp2_with fail
          refine U.out.mono ?_
          rintro e w1 ⟨rfl, hb1⟩
          have B1 := Lib.hid hb1
          clear hb1
          go_wp2_with fail
          refine (H1.out w1).mono ?_
          rintro e w' ⟨rfl, rfl⟩
          go_wp2
          go_ret
          exact ⟨ret_int (by have N1 : wordN s.data.toList = n + 1 := N.out
                             rw [N1]; go_num), B1.out⟩
theorem num_parts (s : ByteArray) (a : Nat) (h : a < s.size) : numN (s.data.toList.drop a) = if (dgtU s[a] || decide (((s[a]).toNat : Int) = 37) || (decide (((s[a]).toNat : Int) = 36) && decide (0 < partN (s.data.toList.drop (a + 1))))) = true then 1 + partN (s.data.toList.drop (a + 1)) else 0 := by
  have hl : s.data.toList.length = s.size := by simp
  have e := List.drop_eq_getElem_cons (l := s.data.toList) (i := a) (by omega)
  rw [at_list s a h] at e
  rw [e]
  rw [num_cons]
  have k : ∀ m : UInt8, (s[a] == m) = decide (((s[a]).toNat : Int) = (m.toNat : Int)) := fun m => by
    rw [Bool.eq_iff_iff, beq_iff_eq, decide_eq_true_iff]
    constructor
    · intro e; rw [e]
    · intro e; exact UInt8.toNat_inj.1 (by omega)
  rw [k 37, k 36]
  rfl
set_option maxRecDepth 100000 in
set_option maxHeartbeats 1000000 in
theorem numberSize_any (s : ByteArray) (hs : s.size ≤ 100000) (w : World) :
    Calls Tryd.prog 74 #[.string s] w fun e w' => e = .returned (.int .i64 (numN s.data.toList : Nat)) ∧ w = w' := by
  have HS : Hid (s.size ≤ maxLen) := by show _ ≤ _; unfold maxLen; omega
  cases he : s.toList.isEmpty
  case true =>
    have E : Hid (numN s.data.toList = 0) := by rw [(bz_iff s).1 he]; rfl
    go_enter Tryd.func74, Tryd.ntmps74
    go_wp2
    go_ret
    exact ⟨ret_int (by rw [E.out]; rfl), rfl⟩
  case false =>
    obtain ⟨h0, -, -, -⟩ := bz_not he
    have X0 := isDigit_any s[0] w
    have W := num_parts s 0 h0
    simp only [List.drop_zero, Nat.zero_add] at W
    have P0 := partSize_any (s.extract 1 s.size) (Nat.le_trans (extract_le s 1 s.size) HS.out) w
    rw [ext_drop] at P0
    have PL := part_le (s.data.toList.drop 1)
    obtain ⟨n, hn⟩ : ∃ n, partN (s.data.toList.drop 1) = n := ⟨_, rfl⟩
    rw [hn] at W P0 PL
    have hnl : n ≤ s.size := by have hl : s.data.toList.length = s.size := by simp
                                rw [List.length_drop] at PL; omega
    have P1 := Lib.hid P0
    clear hn PL P0
    cases e : dgtU s[0]
    · rw [e] at X0 W
      obtain ⟨c, hc⟩ : ∃ c : Int, ((s[0]).toNat : Int) = c := ⟨_, rfl⟩
      have X1 := Lib.hid X0
      rw [hc] at W X1
      simp only [Bool.false_or] at W
      clear X0 e
      by_cases e1 : c = 37
      · have N : Hid (numN s.data.toList = 1 + n) := by rw [W, if_pos (by rw [decide_eq_true e1]; rfl)]; rfl
        have e2 : (c == 37) = true := by rw [e1]; rfl
        clear W e1
        go_enter Tryd.func74, Tryd.ntmps74
        go_wp2_with fail
        refine P1.out.mono ?_
        rintro e w' ⟨rfl, rfl⟩
        go_wp2_with fail
        refine X1.out.mono ?_
        rintro e w' ⟨rfl, rfl⟩
        go_wp2
        go_ret
        exact ⟨ret_int (by rw [N.out]; go_num), rfl⟩
      · by_cases e3 : c = 36
        · by_cases e4 : 0 < n
          · have N : Hid (numN s.data.toList = 1 + n) := by rw [W, if_pos (by rw [decide_eq_true e3, decide_eq_true e4]; simp)]; rfl
            have e2 : (c == 37) = false := by simpa using e1
            have e5 : (c == 36) = true := by rw [e3]; rfl
            clear W e1 e3
            go_enter Tryd.func74, Tryd.ntmps74
            go_wp2_with fail
            refine P1.out.mono ?_
            rintro e w' ⟨rfl, rfl⟩
            go_wp2_with fail
            refine X1.out.mono ?_
            rintro e w' ⟨rfl, rfl⟩
            go_wp2
            go_ret
            exact ⟨ret_int (by rw [N.out]; go_num), rfl⟩
          · have N : Hid (numN s.data.toList = 0) := by rw [W, if_neg (by rw [decide_eq_false e1, decide_eq_false e4]; simp)]; rfl
            have e2 : (c == 37) = false := by simpa using e1
            have e5 : (c == 36) = true := by rw [e3]; rfl
            have e6 : n = 0 := by omega
            subst e6
            clear W e1 e3 e4
            go_enter Tryd.func74, Tryd.ntmps74
            go_wp2_with fail
            refine P1.out.mono ?_
            rintro e w' ⟨rfl, rfl⟩
            go_wp2_with fail
            refine X1.out.mono ?_
            rintro e w' ⟨rfl, rfl⟩
            go_wp2
            go_ret
            exact ⟨ret_int (by rw [N.out]; rfl), rfl⟩
        · have N : Hid (numN s.data.toList = 0) := by rw [W, if_neg (by rw [decide_eq_false e1, decide_eq_false e3]; simp)]; rfl
          have e2 : (c == 37) = false := by simpa using e1
          have e5 : (c == 36) = false := by simpa using e3
          clear W e1 e3
          go_enter Tryd.func74, Tryd.ntmps74
          go_wp2_with fail
          refine P1.out.mono ?_
          rintro e w' ⟨rfl, rfl⟩
          go_wp2_with fail
          refine X1.out.mono ?_
          rintro e w' ⟨rfl, rfl⟩
          go_wp2
          go_ret
          exact ⟨ret_int (by rw [N.out]; rfl), rfl⟩
    · rw [e] at X0 W
      have N : Hid (numN s.data.toList = 1 + n) := by rw [W, if_pos (by simp)]; rfl
      clear W e
      go_enter Tryd.func74, Tryd.ntmps74
      go_wp2_with fail
      refine P1.out.mono ?_
      rintro e w' ⟨rfl, rfl⟩
      go_wp2_with fail
      refine X0.mono ?_
      rintro e w' ⟨rfl, rfl⟩
      go_wp2
      go_ret
      exact ⟨ret_int (by rw [N.out]; go_num), rfl⟩
/-- Does it begin with a mark? -/
def mkB (l : List UInt8) : Bool := l.head? == some 34 || l.head? == some 39
theorem isMark_any (s : ByteArray) (hs : s.size ≤ maxLen) (w : World) :
    Calls Tryd.prog 76 #[.string s] w fun e w' => e = .returned (.bool (mkB s.data.toList)) ∧ w = w' := by
  unfold maxLen at hs
  cases he : s.toList.isEmpty
  case true =>
    have E : Hid (mkB s.data.toList = false) := by rw [(bz_iff s).1 he]; rfl
    go_enter Tryd.func76, Tryd.ntmps76
    go_wp2
    go_ret
    exact ⟨ret_bool E.out.symm, rfl⟩
  case false =>
    obtain ⟨h0, r, e, -⟩ := bz_not he
    have t : ∀ n : Fin 256, ((UInt8.ofNat n.val == 34) || (UInt8.ofNat n.val == 39)) = decide ((0 : Int) ≤ Lib.indexByte [34, 39] (UInt8.ofNat n.val)) := by decide +kernel
    have t0 := t ⟨(s[0]).toNat, (s[0]).toNat_lt⟩
    simp only [UInt8.ofNat_toNat] at t0
    have E : Hid (mkB s.data.toList = decide ((0 : Int) ≤ Lib.indexByte [34, 39] s[0])) := by
      show mkB _ = _
      rw [e, ← t0]
      rfl
    have X := Lib.hid (indexByte_any ⟨#[34, 39]⟩ ((s[0]).toNat : Int) w)
    clear e t t0
    go_enter Tryd.func76, Tryd.ntmps76
    go_wp2_with fail
    refine X.out.mono ?_
    rintro e w' ⟨rfl, rfl⟩
    go_wp2
    go_ret
    exact ⟨ret_bool E.out.symm, rfl⟩
end Go.Proofs.YtcmcikcagpkocaaDoor
