/-
  The walks over Quote, of the program and of the reference.
-/
import Derived.Test.YtcmcikcagpkocaaDoorLxW
import Derived.Test.YtcmcikcagpkocaaDoorLxZ
import Derived.Lib.CountLaws
namespace Go.Proofs.YtcmcikcagpkocaaDoor
open Go.RowKit
set_option linter.unusedVariables false
attribute [local go_sem] Oper.semAt_some

theorem dbl_no (m : UInt8) (l : List UInt8) (h : ∀ x ∈ l, x ≠ m) : dblL m l = l := by
  induction l with
  | nil => rfl
  | cons c l ih => rw [dblL, if_neg (h c (by simp)), ih fun x hx => h x (by simp [hx])]
theorem dbl_app (m : UInt8) (a b : List UInt8) : dblL m (a ++ b) = dblL m a ++ dblL m b := by
  induction a with
  | nil => rfl
  | cons c a ih =>
    rw [List.cons_append, dblL, dblL, ih]
    split <;> rfl
theorem rep_dbl (m : UInt8) : ∀ (n : Nat) (l : List UInt8), l.length ≤ n → Lib.replaceK [m] [m, m] (Lib.count l [m]) l = dblL m l := by
  intro n
  induction n with
  | zero =>
    intro l h
    obtain rfl : l = [] := List.eq_nil_of_length_eq_zero (by omega)
    rfl
  | succ n ih =>
    intro l h
    rcases idx_cases l m with ⟨hneg, hno⟩ | ⟨i, r, hi, hsp, hlt, hno⟩
    · have hi : Lib.index l [m] = -1 := by
        rw [Lib.index_one]
        have := Lib.indexByte_ge l m
        omega
      rw [Lib.count_miss hi, dbl_no m l hno]
      rfl
    · have hx : Lib.index l [m] = (i : Int) := by rw [Lib.index_one]; exact hi
      have hd : l.drop (i + 1) = r := by
        conv => lhs; rw [hsp]
        have e : (l.take i ++ m :: r) = (l.take i ++ [m]) ++ r := by simp
        have e2 : (l.take i ++ [m]).length = i + 1 := by rw [List.length_append, List.length_take]; simp; omega
        rw [e, ← e2, List.drop_left]
      rw [Lib.count_hit (by simp) hx, Nat.add_comm, Lib.replaceK_hit _ _ _ _ _ hx]
      show l.take i ++ [m, m] ++ Lib.replaceK [m] [m, m] (Lib.count (l.drop (i + 1)) [m]) (l.drop (i + 1)) = _
      rw [hd, ih r (by have := congrArg List.length hd; rw [List.length_drop] at this; omega)]
      conv => rhs; rw [hsp]
      rw [dbl_app, dbl_no m _ hno]
      have e : dblL m (m :: r) = m :: m :: dblL m r := by rw [dblL, if_pos rfl]
      rw [e]
      simp
theorem rep_all (m : UInt8) (l : List UInt8) : Lib.replaceAll l [m] [m, m] = dblL m l := by
  have e : Lib.replaceNum l [m] (-1) = Lib.count l [m] := by unfold Lib.replaceNum; rw [if_pos (.inl (by decide))]
  unfold Lib.replaceAll Lib.replace
  rw [if_neg (by simp), e]
  exact rep_dbl m _ l (Nat.le_refl _)
theorem repAll_any (m : UInt8) (s : ByteArray) (hs : s.size ≤ 100000) (w : World) (M : MaxAt w) :
    Calls Tryd.prog 21 #[.string s, .string ⟨#[m]⟩, .string ⟨#[m, m]⟩] w fun e w' => e = .returned (.string (sOf (dblL m s.data.toList))) ∧ Below w.heap.size w w' := by
  obtain ⟨k, hk⟩ := M
  have hc := Lib.countB_mul_le ⟨#[m]⟩ (show 1 ≤ (⟨#[m]⟩ : ByteArray).size from Nat.le_refl 1) s.size s (Nat.le_refl _)
  have h1 : (⟨#[m]⟩ : ByteArray).size = 1 := rfl
  have h2 : (⟨#[m, m]⟩ : ByteArray).size = 2 := rfl
  rw [h1] at hc
  have h := Tryd.strings_ReplaceAll s ⟨#[m]⟩ ⟨#[m, m]⟩ k w (by omega) hk (by rw [h1]; omega) (by rw [h2]; omega)
  have e : Lib.replaceAll s.data.toList (⟨#[m]⟩ : ByteArray).data.toList (⟨#[m, m]⟩ : ByteArray).data.toList = dblL m s.data.toList := rep_all m _
  rw [e] at h
  exact h
theorem MaxAt.up {w w' : World} (h : MaxAt w) (hb : Below w.heap.size w w') : MaxAt w' := by
  obtain ⟨m, hm⟩ := h
  exact ⟨m, (hb.cell (World.block_lt_of_cell? w _ hm)).trans hm⟩
theorem cat_quo (m : UInt8) (l : List UInt8) : (⟨#[m]⟩ : ByteArray) ++ sOf (dblL m l) ++ ⟨#[m]⟩ = sOf (quoL m l) := by
  apply bytes_ext
  rw [append_data, append_data, sOf_list, sOf_list]
  rfl
theorem quo_size (m : UInt8) (l : List UInt8) : (sOf (dblL m l)).size ≤ 2 * l.length ∧ (quoL m l).length = (sOf (dblL m l)).size + 2 := by
  rw [sOf_size]
  refine ⟨dbl_len m l, ?_⟩
  unfold quoL
  simp
set_option maxRecDepth 100000 in
set_option maxHeartbeats 1000000 in
theorem quote_any (s : ByteArray) (hs : s.size ≤ 100000) (w : World) (M : MaxAt w) :
    Calls Tryd.prog 19 #[.string s] w fun e w' => e = .returned (.string (sOf (quoL 34 s.data.toList))) ∧ Below w.heap.size w w' := by
  have R := Lib.hid (repAll_any 34 s hs w M)
  have E := cat_quo 34 s.data.toList
  have hz := (quo_size 34 s.data.toList).1
  have hl : s.data.toList.length = s.size := by simp
  rw [hl] at hz
  obtain ⟨X, hX⟩ : ∃ X, sOf (dblL 34 s.data.toList) = X := ⟨_, rfl⟩
  rw [hX] at R E hz
  have E1 := Lib.hid E
  clear M E hX hl
  go_enter Tryd.func19, Tryd.ntmps19
  go_wp2_with fail
  refine R.out.mono ?_
  rintro e w2 ⟨rfl, hb⟩
  have B := Lib.hid hb
  clear hb
  go_wp2
  go_ret
  exact ⟨ret_str E1.out, B.out⟩
set_option maxRecDepth 100000 in
set_option maxHeartbeats 1000000 in
theorem rquote_any (s : ByteArray) (hs : s.size ≤ 100000) (w : World) :
    Calls Tryd.prog 20 #[.string s] w fun e w' => e = .returned (.string (sOf (quoL 34 s.data.toList))) ∧ Below w.heap.size w w' := by
  have B0 : Hid (Below w.heap.size w w) := Below.refl _ _
  go_enter Tryd.func20, Tryd.ntmps20
  go_wp2
  go_loopw [3, 4] (fun sv iv wr => ∃ (j : Nat) (T : ByteArray), iv = .int .i64 j ∧ sv = .string T ∧ j ≤ s.size ∧ T.size ≤ 2 * j + 1 ∧ Hid (T = sOf (34 :: dblL 34 (s.data.toList.take j))) ∧ Hid (Below w.heap.size w wr)) (fun _ iv _ => s.size - (intOf iv).toNat)
  case atStart => exact ⟨0, ⟨#[34]⟩, by go_num, rfl, Nat.zero_le _, by decide, rfl, B0⟩
  case round =>
    clear B0
    obtain ⟨j, T, rfl, rfl, hj, hT, TE, B⟩ := hrel
    by_cases h : j < s.size
    · have hl : s.data.toList.length = s.size := by simp
      have htk : s.data.toList.take (j + 1) = s.data.toList.take j ++ [s[j]] := take_snoc s j h
      have hcs : (s.extract j (j + 1)).size = 1 := by simp; omega
      have kb := beq_u8 s[j] 34
      have ex1 : s.extract j (j + 1) = sOf [s[j]] := by
        rw [sOf_ext]
        show sOf ((rst s j).take 1) = _
        rw [rst_cons s j h]
        rfl
      by_cases hc : s[j] = 34
      · have ke : ((s[j].toNat : Int) == 34) = true := kb.trans (decide_eq_true hc)
        obtain ⟨T2, hT2⟩ : ∃ T2, T ++ (⟨#[34]⟩ : ByteArray) ++ s.extract j (j + 1) = T2 := ⟨_, rfl⟩
        have hT1 : (T ++ (⟨#[34]⟩ : ByteArray)).size = T.size + 1 := by rw [ByteArray.size_append]; rfl
        have hT2s : Hid (T2.size = T.size + 2) := by show _ = _; rw [← hT2, ByteArray.size_append, hT1, hcs]
        have N : Hid (T2 = sOf (34 :: dblL 34 (s.data.toList.take (j + 1)))) := by
          show T2 = _
          rw [← hT2, TE.out, ex1, htk, dbl_app, hc]
          apply bytes_ext
          rw [append_data, append_data, sOf_list, sOf_list, sOf_list]
          simp [dblL]
        clear kb hc ex1 htk hl TE
        go_wp2
        go_roundw
        case rel => exact ⟨j + 1, T2, by go_num, rfl, h, by rw [hT2s.out]; omega, N, B⟩
        case measure => simp [intOf]; omega
      · have ke : ((s[j].toNat : Int) == 34) = false := kb.trans (decide_eq_false hc)
        obtain ⟨T2, hT2⟩ : ∃ T2, T ++ s.extract j (j + 1) = T2 := ⟨_, rfl⟩
        have hT2s : Hid (T2.size = T.size + 1) := by show _ = _; rw [← hT2, ByteArray.size_append, hcs]
        have N : Hid (T2 = sOf (34 :: dblL 34 (s.data.toList.take (j + 1)))) := by
          show T2 = _
          rw [← hT2, TE.out, ex1, htk, dbl_app]
          apply bytes_ext
          rw [append_data, sOf_list, sOf_list, sOf_list]
          simp [dblL, hc]
        clear kb hc ex1 htk hl TE
        go_wp2
        go_roundw
        case rel => exact ⟨j + 1, T2, by go_num, rfl, h, by rw [hT2s.out]; omega, N, B⟩
        case measure => simp [intOf]; omega
    · have N : Hid (T ++ (⟨#[34]⟩ : ByteArray) = sOf (quoL 34 s.data.toList)) := by
        show _ = _
        have hl : s.data.toList.length = s.size := by simp
        rw [TE.out, List.take_of_length_le (by omega)]
        apply bytes_ext
        rw [append_data, sOf_list, sOf_list]
        rfl
      clear TE
      go_wp2
      go_ret
      exact ⟨ret_str N.out, B.out⟩
end Go.Proofs.YtcmcikcagpkocaaDoor
