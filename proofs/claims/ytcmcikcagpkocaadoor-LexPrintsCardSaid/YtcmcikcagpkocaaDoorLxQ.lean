/-
  The walks over the reference's run, word, quoted and sign.
-/
import Derived.Test.YtcmcikcagpkocaaDoorLxM
import Derived.Test.YtcmcikcagpkocaaDoorNumO
namespace Go.Proofs.YtcmcikcagpkocaaDoor
open Go.RowKit
set_option linter.unusedVariables false
attribute [local go_sem] Oper.semAt_some

theorem beq_u8 (a b : UInt8) : ((a.toNat : Int) == (b.toNat : Int)) = decide (a = b) := beq_byte a b
theorem bne_u8 (a b : UInt8) : ((a.toNat : Int) != (b.toNat : Int)) = !decide (a = b) := by rw [← beq_u8]; rfl
theorem rst_cons (s : ByteArray) (a : Nat) (h : a < s.size) : rst s a = s[a] :: rst s (a + 1) := by
  have hl : s.data.toList.length = s.size := by simp
  have e := List.drop_eq_getElem_cons (l := s.data.toList) (i := a) (by omega)
  rw [at_list s a h] at e
  exact e
theorem rst_end (s : ByteArray) : rst s s.size = [] := by
  unfold rst
  exact List.drop_eq_nil_of_le (by simp)
theorem cat_one (s : ByteArray) (i : Nat) (h : i < s.size) (acc : List UInt8) : sOf acc ++ s.extract i (i + 1) = sOf (acc ++ [s[i]]) := by
  apply bytes_ext
  rw [append_data, sOf_list, sOf_list, sOf_ext, sOf_list]
  show acc ++ (rst s i).take 1 = _
  rw [rst_cons s i h]
  rfl
set_option maxHeartbeats 1000000 in
theorem rrun_any (s : ByteArray) (a : Nat) (hs : s.size ≤ 100000) (ha : a ≤ s.size) (w : World) :
    Calls Tryd.prog 51 #[.string s, .int .i64 a] w fun e w' => e = .returned (.int .i64 ((a + partN (rst s a) : Nat) : Int)) ∧ w = w' := by
  obtain ⟨m, hm⟩ : ∃ m, a + partN (rst s a) = m := ⟨_, rfl⟩
  have S : ∀ j (h : j < s.size), a ≤ j → j ≤ m → (wrdU s[j] = true → j + 1 ≤ m) ∧ (wrdU s[j] = false → m = j) := fun j h h1 h2 => by
    obtain ⟨k, rfl⟩ : ∃ k, j = a + k := ⟨j - a, by omega⟩
    have h3 := part_step s a k h (by show k ≤ partN (rst s a); omega)
    rw [show partN (s.data.toList.drop a) = partN (rst s a) from rfl] at h3
    exact ⟨fun e => by have := h3.1 e; omega, fun e => by have := h3.2 e; omega⟩
  have EN : ∀ j, ¬ j < s.size → a ≤ j → j ≤ m → m = j := fun j h h1 h2 => by
    obtain ⟨k, rfl⟩ : ∃ k, j = a + k := ⟨j - a, by omega⟩
    have h3 := part_end s a k h (by show k ≤ partN (rst s a); omega) ha
    rw [show partN (s.data.toList.drop a) = partN (rst s a) from rfl] at h3
    omega
  have S1 := Lib.hid S
  have E1 := Lib.hid EN
  have M0 : Hid (a ≤ m) := by show a ≤ m; omega
  rw [hm]
  clear hm S EN
  go_enter Tryd.func51, Tryd.ntmps51
  go_wp2
  go_loop [1] (fun v => ∃ j : Nat, v = .int .i64 j ∧ j ≤ s.size ∧ a ≤ j ∧ Hid (j ≤ m)) (fun v => s.size - (intOf v).toNat)
  case atStart => exact ⟨a, rfl, ha, Nat.le_refl _, M0⟩
  case round =>
    obtain ⟨j, rfl, hk, haj, K⟩ := hrel
    by_cases h : j < s.size
    · have Y := S1.out j h haj K.out
      have X1 := rletter_any s[j] w
      have X2 := rdigit16_any s[j] w
      unfold wrdU at Y
      cases e1 : letU s[j]
      · rw [e1] at X1 Y
        cases e2 : dgtU s[j]
        · rw [e2] at X2 Y
          have N : Hid (m = j) := Y.2 rfl
          clear Y e1 e2
          go_wp2_with fail
          refine X1.mono ?_
          rintro e w' ⟨rfl, rfl⟩
          go_wp2_with fail
          refine X2.mono ?_
          rintro e w' ⟨rfl, rfl⟩
          go_wp2
          go_ret
          exact ⟨ret_int (by rw [N.out]), rfl⟩
        · rw [e2] at X2 Y
          have N : Hid (j + 1 ≤ m) := Y.1 rfl
          clear Y e1 e2
          go_wp2_with fail
          refine X1.mono ?_
          rintro e w' ⟨rfl, rfl⟩
          go_wp2_with fail
          refine X2.mono ?_
          rintro e w' ⟨rfl, rfl⟩
          go_wp2
          go_round
          case rel => exact ⟨j + 1, by go_num, h, by omega, N⟩
          case measure => simp [intOf]; omega
      · rw [e1] at X1 Y
        have N : Hid (j + 1 ≤ m) := Y.1 rfl
        clear Y e1 X2
        go_wp2_with fail
        refine X1.mono ?_
        rintro e w' ⟨rfl, rfl⟩
        go_wp2
        go_round
        case rel => exact ⟨j + 1, by go_num, h, by omega, N⟩
        case measure => simp [intOf]; omega
    · have N : Hid (m = j) := E1.out j h haj K.out
      go_wp2
      go_ret
      exact ⟨ret_int (by rw [N.out]), rfl⟩
set_option maxRecDepth 100000 in
set_option maxHeartbeats 1000000 in
theorem rword_any (s : ByteArray) (a : Nat) (hs : s.size ≤ 100000) (ha : a < s.size) (w : World) :
    Calls Tryd.prog 35 #[.string s, .int .i64 a] w fun e w' => e = .returned (.int .i64 ((a + wordN (rst s a) : Nat) : Int)) ∧ Below w.heap.size w w' := by
  have W := word_parts s a ha
  have X0 := rletter_any s[a] w
  have PL := part_le (rst s a)
  rw [rst_len] at PL
  have P0 := rrun_any s a hs (by omega) w
  have W' : (letU s[a] = false → wordN (rst s a) = 0) ∧ (letU s[a] = true → wordN (rst s a) = if ((upB (s.extract a (a + partN (rst s a)))).toList == [65, 70]) && ((rst s (a + partN (rst s a))).head? == some 39) then partN (rst s a) + 1 else partN (rst s a)) := W
  obtain ⟨n, hn⟩ : ∃ n, partN (rst s a) = n := ⟨_, rfl⟩
  rw [hn] at W' P0 PL
  clear hn W
  cases e : letU s[a]
  · rw [e] at X0
    have N := Lib.hid (W'.1 e)
    clear W' e P0
    go_enter Tryd.func35, Tryd.ntmps35
    go_wp2_with fail
    refine X0.mono ?_
    rintro e w' ⟨rfl, rfl⟩
    go_wp2
    go_ret
    exact ⟨ret_int (by rw [N.out]; rfl), Below.refl _ _⟩
  · rw [e] at X0
    have W1 := W'.2 e
    have U := Lib.hid (rupper_any (s.extract a (a + n)) (Nat.le_trans (extract_le s a _) (by omega)) w)
    obtain ⟨q, hq⟩ : ∃ q, ((upB (s.extract a (a + n))).toList == [65, 70]) = q := ⟨_, rfl⟩
    have P1 := Lib.hid P0
    rw [hq] at W1
    have hnl : a + n ≤ s.size := by omega
    obtain ⟨j, hj⟩ : ∃ j, a + n = j := ⟨_, rfl⟩
    rw [hj] at W1 P1 hq U hnl
    have haj : a ≤ j := by omega
    clear W' e P0 PL
    cases q
    · have N : Hid (wordN (rst s a) = n) := W1
      have NJ := Lib.hid hj
      clear W1 hj
      go_enter Tryd.func35, Tryd.ntmps35
      go_wp2_with fail
      refine X0.mono ?_
      rintro e w' ⟨rfl, rfl⟩
      go_wp2_with fail
      refine P1.out.mono ?_
      rintro e w' ⟨rfl, rfl⟩
      go_wp2_with fail
      refine U.out.mono ?_
      rintro e w1 ⟨rfl, hb1⟩
      have B1 := Lib.hid hb1
      clear hb1
      go_wp2
      go_ret
      exact ⟨ret_int (by rw [N.out, NJ.out]), B1.out⟩
    · by_cases hjs : j < s.size
      · have hr := rst_cons s j hjs
        rw [hr] at W1
        have W2 : wordN (rst s a) = if s[j] = 39 then n + 1 else n := by
          rw [W1]
          by_cases h39 : s[j] = 39
          · simp [h39]
          · simp [h39]
        obtain ⟨b, hb⟩ : ∃ b, decide (s[j] = 39) = b := ⟨_, rfl⟩
        have k39 := beq_u8 s[j] 39
        rw [hb] at k39
        have k39' : ((s[j].toNat : Int) == 39) = b := k39
        have N : Hid (wordN (rst s a) = if b = true then n + 1 else n) := by
          show _ = _
          rw [W2, ← hb]
          by_cases h39 : s[j] = 39 <;> simp [h39]
        have NJ := Lib.hid hj
        clear W1 W2 hr hj hb k39
        cases b
        all_goals
          go_enter Tryd.func35, Tryd.ntmps35
          go_wp2_with fail
          refine X0.mono ?_
          rintro e w' ⟨rfl, rfl⟩
          go_wp2_with fail
          refine P1.out.mono ?_
          rintro e w' ⟨rfl, rfl⟩
          go_wp2_with fail
          refine U.out.mono ?_
          rintro e w1 ⟨rfl, hb1⟩
          have B1 := Lib.hid hb1
          clear hb1
          go_wp2
          go_ret
          exact ⟨ret_int (by rw [N.out]; have := NJ.out; simp; try omega), B1.out⟩
      · have hj2 : j = s.size := by omega
        rw [hj2, rst_end] at W1
        have N : Hid (wordN (rst s a) = n) := W1
        have NJ := Lib.hid hj
        clear W1 hj hj2
        go_enter Tryd.func35, Tryd.ntmps35
        go_wp2_with fail
        refine X0.mono ?_
        rintro e w' ⟨rfl, rfl⟩
        go_wp2_with fail
        refine P1.out.mono ?_
        rintro e w' ⟨rfl, rfl⟩
        go_wp2_with fail
        refine U.out.mono ?_
        rintro e w1 ⟨rfl, hb1⟩
        have B1 := Lib.hid hb1
        clear hb1
        go_wp2
        go_ret
        exact ⟨ret_int (by rw [N.out, NJ.out]), B1.out⟩
theorem quo_ne {m c : UInt8} (h : c ≠ m) (r : List UInt8) : quoN m (c :: r) = (quoN m r).map fun p => (c :: p.1, p.2 + 1) := by
  cases r with
  | nil =>
    show quoN m [c] = Option.map _ (quoN m [])
    simp only [quoN, if_neg h]
    rfl
  | cons d r => rw [quoN, if_neg h]
theorem quo_eq (m : UInt8) (r : List UInt8) : quoN m (m :: r) = if r.head? = some m then (quoN m r.tail).map (fun p => (m :: p.1, p.2 + 2)) else some ([], 1) := by
  have := quo_part m [] r (by simp)
  rw [List.nil_append] at this
  rw [this]
  by_cases h : r.head? = some m
  · rw [if_pos h, if_pos h]
    cases quoN m r.tail with
    | none => rfl
    | some p => simp; omega
  · rw [if_neg h, if_neg h]; rfl
/-- What the reference's quoted returns at a. -/
def RQ (s : ByteArray) (a : Nat) (m : UInt8) : Value := match quoN m (rst s (a + 1)) with
  | some x => .tuple #[.string (sOf x.1), .int .i64 ((a + 1 + x.2 : Nat) : Int)]
  | none => .tuple #[.string (sOf []), .int .i64 (-1)]
set_option maxRecDepth 100000 in
set_option maxHeartbeats 1000000 in
theorem rquoted_any (s : ByteArray) (a : Nat) (hs : s.size ≤ 100000) (ha : a < s.size) (w : World) :
    Calls Tryd.prog 54 #[.string s, .int .i64 a] w fun e w' => e = .returned (RQ s a s[a]) ∧ w = w' := by
  obtain ⟨m, hm⟩ : ∃ m, s[a] = m := ⟨_, rfl⟩
  obtain ⟨R, hR⟩ : ∃ R, RQ s a s[a] = R := ⟨_, rfl⟩
  have R1 : Hid (match quoN m (rst s (a + 1)) with
    | some x => R = .tuple #[.string (sOf x.1), .int .i64 ((a + 1 + x.2 : Nat) : Int)]
    | none => R = .tuple #[.string (sOf []), .int .i64 (-1)]) := by
    show match quoN m (rst s (a + 1)) with
    | some x => R = .tuple #[.string (sOf x.1), .int .i64 ((a + 1 + x.2 : Nat) : Int)]
    | none => R = .tuple #[.string (sOf []), .int .i64 (-1)]
    rw [← hR, hm]
    unfold RQ
    cases quoN m (rst s (a + 1)) <;> rfl
  rw [hR]
  clear hR
  go_enter Tryd.func54, Tryd.ntmps54
  go_wp2
  go_loop [7, 8] (fun sv iv => ∃ (j : Nat) (acc : List UInt8) (T : ByteArray), iv = .int .i64 j ∧ sv = .string T ∧ j ≤ s.size ∧ a + 1 ≤ j ∧ T.size ≤ j ∧ Hid (T = sOf acc) ∧ Hid (quoN m (rst s (a + 1)) = (quoN m (rst s j)).map fun x => (acc ++ x.1, (j - (a + 1)) + x.2))) (fun _ iv => s.size - (intOf iv).toNat)
  case atStart => exact ⟨a + 1, [], ⟨#[]⟩, by go_num, rfl, ha, Nat.le_refl _, Nat.zero_le _, rfl, by
    show quoN m (rst s (a + 1)) = _
    rw [Nat.sub_self]
    cases quoN m (rst s (a + 1)) with
    | none => rfl
    | some x => simp⟩
  case round =>
    obtain ⟨j, acc, T, rfl, rfl, hj, haj, hT, TE, QE⟩ := hrel
    by_cases h : j < s.size
    · have hr := rst_cons s j h
      have hca := cat_one s j h acc
      rw [← TE.out] at hca
      have hcs : (s.extract j (j + 1)).size = 1 := by simp; omega
      obtain ⟨T2, hT2⟩ : ∃ T2, T ++ s.extract j (j + 1) = T2 := ⟨_, rfl⟩
      have hT2s : T2.size = T.size + 1 := by rw [← hT2, ByteArray.size_append, hcs]
      have HT := Lib.hid hT2s
      rw [hT2] at hca
      have kb := bne_u8 s[j] m
      by_cases hc : s[j] = m
      · have ke : ((s[j].toNat : Int) != (m.toNat : Int)) = false := by rw [kb, decide_eq_true hc]; rfl
        rw [hc] at hr
        have QE2 := QE.out
        rw [hr, quo_eq] at QE2
        clear kb hr
        by_cases h1 : j + 1 < s.size
        · have hr1 := rst_cons s (j + 1) h1
          rw [hr1] at QE2
          have kb1 := beq_u8 s[j + 1] m
          by_cases hc1 : s[j + 1] = m
          · have ke1 : ((s[j + 1].toNat : Int) == (m.toNat : Int)) = true := by rw [kb1, decide_eq_true hc1]
            rw [if_pos (by rw [hc1]; rfl)] at QE2
            have N : Hid (quoN m (rst s (a + 1)) = (quoN m (rst s (j + 2))).map fun x => ((acc ++ [m]) ++ x.1, ((j + 2) - (a + 1)) + x.2)) := by
              show quoN m (rst s (a + 1)) = _
              rw [QE2]
              show Option.map _ (Option.map _ (quoN m (rst s (j + 1 + 1)))) = _
              cases quoN m (rst s (j + 1 + 1)) with
              | none => rfl
              | some x => simp; omega
            rw [hc] at hca
            have CA := Lib.hid hca
            clear kb1 hc1 hr1 QE2 QE TE hm hc hcs hca
            go_wp2
            go_round
            case rel => exact ⟨j + 2, acc ++ [m], T2, by go_num, rfl, by omega, by omega, by rw [HT.out]; omega, CA.out, N⟩
            case measure => simp [intOf]; omega
          · have ke1 : ((s[j + 1].toNat : Int) == (m.toNat : Int)) = false := by rw [kb1, decide_eq_false hc1]
            rw [if_neg (by intro e; apply hc1; simpa using e)] at QE2
            have N : Hid (quoN m (rst s (a + 1)) = some (acc, (j - (a + 1)) + 1)) := by show _ = _; rw [QE2]; simp
            have RR := R1.out
            rw [N.out] at RR
            have R2 : Hid (R = .tuple #[.string (sOf acc), .int .i64 ((a + 1 + ((j - (a + 1)) + 1) : Nat) : Int)]) := RR
            clear kb1 hc1 hr1 QE2 QE hm hc hcs hca RR N R1
            go_wp2
            refine bodyPost_ret (v := R) ?_ rfl ⟨rfl, rfl⟩
            rw [R2.out]
            simp [results, Tryd.results54, go_sem]
            exact ⟨TE.out, by omega⟩
        · have hj1 : j + 1 = s.size := by omega
          rw [hj1, rst_end, if_neg (by simp)] at QE2
          have N : Hid (quoN m (rst s (a + 1)) = some (acc, (j - (a + 1)) + 1)) := by show _ = _; rw [QE2]; simp
          have RR := R1.out
          rw [N.out] at RR
          have R2 : Hid (R = .tuple #[.string (sOf acc), .int .i64 ((a + 1 + ((j - (a + 1)) + 1) : Nat) : Int)]) := RR
          clear hj1 QE2 QE hm hc hcs hca RR N R1
          go_wp2
          refine bodyPost_ret (v := R) ?_ rfl ⟨rfl, rfl⟩
          rw [R2.out]
          simp [results, Tryd.results54, go_sem]
          exact ⟨TE.out, by omega⟩
      · have ke : ((s[j].toNat : Int) != (m.toNat : Int)) = true := by rw [kb, decide_eq_false hc]; rfl
        have N : Hid (quoN m (rst s (a + 1)) = (quoN m (rst s (j + 1))).map fun x => ((acc ++ [s[j]]) ++ x.1, ((j + 1) - (a + 1)) + x.2)) := by
          show quoN m (rst s (a + 1)) = _
          rw [QE.out, hr, quo_ne hc]
          cases quoN m (rst s (j + 1)) with
          | none => rfl
          | some x => simp; omega
        have CA := Lib.hid hca
        clear kb hc hr QE TE hm hcs hca
        go_wp2
        go_round
        case rel => exact ⟨j + 1, acc ++ [s[j]], T2, by go_num, rfl, h, by omega, by rw [HT.out]; omega, CA.out, N⟩
        case measure => simp [intOf]; omega
    · have hj2 : j = s.size := by omega
      have QE2 := QE.out
      rw [hj2, rst_end] at QE2
      have N : Hid (quoN m (rst s (a + 1)) = none) := QE2
      have RR := R1.out
      rw [N.out] at RR
      have R2 : Hid (R = .tuple #[.string (sOf []), .int .i64 (-1)]) := RR
      clear hj2 QE2 QE N RR R1 TE
      go_wp2
      refine bodyPost_ret (v := R) ?_ rfl ⟨rfl, rfl⟩
      rw [R2.out]
      simp [results, Tryd.results54, go_sem]
      rfl
end Go.Proofs.YtcmcikcagpkocaaDoor
