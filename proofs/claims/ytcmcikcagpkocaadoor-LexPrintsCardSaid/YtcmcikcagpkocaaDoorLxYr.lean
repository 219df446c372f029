/-
  The walk over the reference's Print.
-/
import Derived.Test.YtcmcikcagpkocaaDoorLxY
namespace Go.Proofs.YtcmcikcagpkocaaDoor
open Go.RowKit
set_option linter.unusedVariables false
attribute [local go_sem] Oper.semAt_some

theorem prL_take (T : List Tk) (j : Nat) (h : j < T.length) : prL (T.take (j + 1)) = (if j = 0 then [] else prL (T.take j) ++ [32]) ++ prT T[j] := by
  rw [List.take_succ_eq_append_getElem h, prL_snoc]
  by_cases h0 : j = 0
  · subst h0
    rw [if_pos (by simp), if_pos rfl]
    rfl
  · rw [if_neg (by intro e; have := congrArg List.length e; rw [List.length_take, List.length_nil] at this; omega), if_neg h0]
    simp
theorem prL_take_le (T : List Tk) (j : Nat) : (prL (T.take j)).length ≤ (prL T).length := by
  have := prL_le (T.take j) (T.drop j)
  rw [List.take_append_drop] at this
  exact this
set_option maxRecDepth 100000 in
set_option maxHeartbeats 4000000 in
theorem rprint_any (A : Option Addr) (cap k : Nat) (T : List Tk) (hT : T.length = k) (hk : k ≤ 5000) (hz : (prL T).length ≤ 100000) (hx : ∀ x ∈ T, x.t.length ≤ 100000) (w : World) (K : KsP w A T) :
    Calls Tryd.prog 14 #[.slice A k cap] w fun e w' => e = .returned (.string (sOf (prL T))) ∧ Below w.heap.size w w' := by
  have KK := Lib.hid K
  have HT := Lib.hid hT
  have HX := Lib.hid hx
  have HZ := Lib.hid hz
  have B0 : Hid (Below w.heap.size w w) := Below.refl _ _
  clear K hT hx hz
  go_enter Tryd.func14, Tryd.ntmps14
  go_wp2
  go_loopw [3, 4] (fun sv iv wr => ∃ (j : Nat) (S : ByteArray), iv = .int .i64 j ∧ sv = .string S ∧ j ≤ k ∧ S.size ≤ 100000 ∧ Hid (S = sOf (prL (T.take j))) ∧ Hid (Below w.heap.size w wr)) (fun _ iv _ => k - (intOf iv).toNat)
  case atStart => exact ⟨0, ⟨#[]⟩, by go_num, rfl, Nat.zero_le _, by decide, rfl, B0⟩
  case round =>
    clear B0
    obtain ⟨j, S, rfl, rfl, hj, hS, SE, B⟩ := hrel
    by_cases h : j < k
    · have hjl : j < T.length := by rw [HT.out]; exact h
      obtain ⟨g, off, rfl, -, c0, c1, c2, c3⟩ := (KK.out.below B.out).at_ hjl
      have PT := prL_take T j hjl
      have PL := prL_take_le T (j + 1)
      obtain ⟨x, hx⟩ : ∃ x, T[j] = x := ⟨_, rfl⟩
      have hxm : x.t.length ≤ 100000 := HX.out x (by rw [← hx]; exact List.getElem_mem hjl)
      rw [hx] at c0 c1 c2 c3 PT
      have P : (x.k = 1 → prT x = x.t) ∧ (x.k = 4 → prT x = x.t) ∧ (x.k = 2 → prT x = (textS x.n).data.toList) ∧ (x.k = 3 → prT x = quoL 34 x.t) ∧ (x.k ≠ 1 → x.k ≠ 4 → x.k ≠ 2 → x.k ≠ 3 → prT x = []) := by
        unfold prT
        refine ⟨fun h => by rw [if_pos (.inl h)], fun h => by rw [if_pos (.inr h)], fun h => ?_, fun h => ?_, fun h1 h4 h2 h3 => ?_⟩
        · rw [if_neg (by omega), if_pos h]
        · rw [if_neg (by omega), if_neg (by omega), if_pos h]
        · rw [if_neg (by omega), if_neg h2, if_neg h3]
      have Q0 := rquote_any (sOf x.t) (by rw [sOf_size]; exact hxm) wr
      rw [sOf_list] at Q0
      have N0 := rtext_any x.n wr
      -- the string in front, and the whole
      obtain ⟨S1, hS1, hS1s⟩ : ∃ S1, (j = 0 → S = S1) ∧ (j ≠ 0 → S ++ (⟨#[32]⟩ : ByteArray) = S1) := by
        by_cases h0 : j = 0
        · exact ⟨S, fun _ => rfl, fun e => absurd h0 e⟩
        · exact ⟨S ++ (⟨#[32]⟩ : ByteArray), fun e => absurd e h0, fun _ => rfl⟩
      have hS1l : S1.data.toList = if j = 0 then [] else prL (T.take j) ++ [32] := by
        by_cases h0 : j = 0
        · rw [if_pos h0, ← hS1 h0, SE.out, sOf_list, h0]; rfl
        · rw [if_neg h0, ← hS1s h0, append_data, SE.out, sOf_list]
      have ALL : S1 ++ sOf (prT x) = sOf (prL (T.take (j + 1))) := by
        apply bytes_ext
        rw [append_data, sOf_list, sOf_list, hS1l, PT]
      have hlen : (prL (T.take (j + 1))).length = S1.size + (prT x).length := by
        have h1 : S1.data.toList.length = S1.size := by simp
        rw [PT, List.length_append, ← hS1l, h1]
      obtain ⟨R, hR⟩ : ∃ R, sOf (prL (T.take (j + 1))) = R := ⟨_, rfl⟩
      have hRs : R.size = S1.size + (prT x).length := by rw [← hR, sOf_size, hlen]
      have hRm : R.size ≤ 100000 := by rw [← hR, sOf_size]; have := HZ.out; omega
      rw [hR] at ALL
      have AL := Lib.hid ALL
      have HR := Lib.hid hR
      obtain ⟨kd, hkd⟩ : ∃ kd, x.k = kd := ⟨_, rfl⟩
      rw [hkd] at c0 P
      have P1 := Lib.hid P
      have Q := Lib.hid Q0
      have N := Lib.hid N0
      have hS1m : S1.size ≤ 100000 := by omega
      clear PT PL hx hxm Q0 N0 hS1l ALL hlen hR hjl SE P hkd
      have hj0 : (¬ 0 < j ∧ S = S1) ∨ (0 < j ∧ S ++ (⟨#[32]⟩ : ByteArray) = S1) := by
        by_cases h0 : j = 0
        · exact .inl ⟨by omega, hS1 h0⟩
        · exact .inr ⟨by omega, hS1s h0⟩
      clear hS1 hS1s
      by_cases hq1 : kd = 1
      · have E0 : S1 ++ sOf x.t = R := by
          have e := AL.out
          rw [P1.out.1 hq1] at e
          exact e
        have hts : S1.size + (sOf x.t).size = R.size := by rw [← E0, ByteArray.size_append]
        subst hq1
        obtain ⟨X, hX⟩ : ∃ X, sOf x.t = X := ⟨_, rfl⟩
        rw [hX] at E0 hts c1
        clear AL P1 hRs hX
        rcases hj0 with ⟨h0, e0⟩ | ⟨h0, e0⟩
        · subst e0
          go_wp2
          go_roundw
          case rel => exact ⟨j + 1, _, by go_num, rfl, h, hRm, HR.out.symm, B⟩
          case measure => simp [intOf]; omega
        · go_wp2
          go_roundw
          case rel => exact ⟨j + 1, _, by go_num, rfl, h, hRm, HR.out.symm, B⟩
          case measure => simp [intOf]; omega
      by_cases hq4 : kd = 4
      · have E0 : S1 ++ sOf x.t = R := by
          have e := AL.out
          rw [P1.out.2.1 hq4] at e
          exact e
        have hts : S1.size + (sOf x.t).size = R.size := by rw [← E0, ByteArray.size_append]
        subst hq4
        obtain ⟨X, hX⟩ : ∃ X, sOf x.t = X := ⟨_, rfl⟩
        rw [hX] at E0 hts c1
        clear AL P1 hRs hX
        rcases hj0 with ⟨h0, e0⟩ | ⟨h0, e0⟩
        · subst e0
          go_wp2
          go_roundw
          case rel => exact ⟨j + 1, _, by go_num, rfl, h, hRm, HR.out.symm, B⟩
          case measure => simp [intOf]; omega
        · go_wp2
          go_roundw
          case rel => exact ⟨j + 1, _, by go_num, rfl, h, hRm, HR.out.symm, B⟩
          case measure => simp [intOf]; omega
      by_cases hq2 : kd = 2
      · have E0 : S1 ++ textS x.n = R := by
          have e := AL.out
          rw [P1.out.2.2.1 hq2] at e
          rw [sOf_of] at e
          exact e
        have hts : S1.size + (textS x.n).size = R.size := by rw [← E0, ByteArray.size_append]
        subst hq2
        obtain ⟨X, hX⟩ : ∃ X, textS x.n = X := ⟨_, rfl⟩
        rw [hX] at E0 hts N
        clear AL P1 hRs hX
        rcases hj0 with ⟨h0, e0⟩ | ⟨h0, e0⟩
        · subst e0
          go_wp2_with fail
          refine N.out.mono ?_
          rintro e w2 ⟨rfl, rfl⟩
          go_wp2
          go_roundw
          case rel => exact ⟨j + 1, _, by go_num, rfl, h, hRm, HR.out.symm, B⟩
          case measure => simp [intOf]; omega
        · go_wp2_with fail
          refine N.out.mono ?_
          rintro e w2 ⟨rfl, rfl⟩
          go_wp2
          go_roundw
          case rel => exact ⟨j + 1, _, by go_num, rfl, h, hRm, HR.out.symm, B⟩
          case measure => simp [intOf]; omega
      by_cases hq3 : kd = 3
      · have E0 : S1 ++ sOf (quoL 34 x.t) = R := by
          have e := AL.out
          rw [P1.out.2.2.2.1 hq3] at e
          exact e
        have hts : S1.size + (sOf (quoL 34 x.t)).size = R.size := by rw [← E0, ByteArray.size_append]
        subst hq3
        obtain ⟨X, hX⟩ : ∃ X, sOf (quoL 34 x.t) = X := ⟨_, rfl⟩
        rw [hX] at E0 hts Q
        clear AL P1 hRs hX
        rcases hj0 with ⟨h0, e0⟩ | ⟨h0, e0⟩
        · subst e0
          go_wp2_with fail
          refine Q.out.mono ?_
          rintro e w2 ⟨rfl, hb⟩
          have B2 := Lib.hid (B.out.trans (hb.mono B.out.size))
          clear hb B
          have B := B2
          go_wp2
          go_roundw
          case rel => exact ⟨j + 1, _, by go_num, rfl, h, hRm, HR.out.symm, B⟩
          case measure => simp [intOf]; omega
        · go_wp2_with fail
          refine Q.out.mono ?_
          rintro e w2 ⟨rfl, hb⟩
          have B2 := Lib.hid (B.out.trans (hb.mono B.out.size))
          clear hb B
          have B := B2
          go_wp2
          go_roundw
          case rel => exact ⟨j + 1, _, by go_num, rfl, h, hRm, HR.out.symm, B⟩
          case measure => simp [intOf]; omega
      · have E0 : S1 = R := by
          have e := AL.out
          rw [P1.out.2.2.2.2 hq1 hq4 hq2 hq3] at e
          rw [← e]
          apply bytes_ext
          rw [append_data, sOf_list, List.append_nil]
        have k1 : ((kd : Int) == 1) = false := beq_eq_false_iff_ne.2 hq1
        have k2 : ((kd : Int) == 2) = false := beq_eq_false_iff_ne.2 hq2
        have k3 : ((kd : Int) == 3) = false := beq_eq_false_iff_ne.2 hq3
        have k4 : ((kd : Int) == 4) = false := beq_eq_false_iff_ne.2 hq4
        clear AL P1 hRs hq1 hq2 hq3 hq4
        subst E0
        rcases hj0 with ⟨h0, e0⟩ | ⟨h0, e0⟩
        · subst e0
          go_wp2
          go_roundw
          case rel => exact ⟨j + 1, _, by go_num, rfl, h, hRm, HR.out.symm, B⟩
          case measure => simp [intOf]; omega
        · go_wp2
          go_roundw
          case rel => exact ⟨j + 1, _, by go_num, rfl, h, hRm, HR.out.symm, B⟩
          case measure => simp [intOf]; omega
    · have hjk : j = k := by omega
      have E : Hid (S = sOf (prL T)) := by
        show S = _
        rw [SE.out, List.take_of_length_le (by rw [HT.out]; omega)]
      clear SE
      go_wp2
      go_ret
      exact ⟨ret_str E.out, B.out⟩
end Go.Proofs.YtcmcikcagpkocaaDoor
