/-
  A lexer's readers of numbers and of signs.
-/
import Derived.Test.YtcmcikcagpkocaaDoorLxJ
import Derived.Laws.Rows
namespace Go.Proofs.YtcmcikcagpkocaaDoor
open Go.RowKit
set_option linter.unusedVariables false
attribute [local go_sem] Oper.semAt_some

/-- What the reader of numbers returns. -/
def NumR (w0 : World) (D : Nat) (s : ByteArray) (w : World) (p : Nat) (e : Ending) (w' : World) : Prop :=
  (numN (rst s p) = 0 ∧ Rd w0 D s w e w' 20 0 [] 0 p) ∨ (0 < numN (rst s p) ∧ ∃ x, parO (sOf ((rst s p).take (numN (rst s p)))) = some x ∧ Rd w0 D s w e w' 0 2 [] x (p + numN (rst s p))) ∨
  (0 < numN (rst s p) ∧ parO (sOf ((rst s p).take (numN (rst s p)))) = none ∧ Rd w0 D s w e w' 3 0 [] 0 (p + numN (rst s p)))
set_option maxRecDepth 100000 in
set_option maxHeartbeats 1000000 in
theorem number_any {w0 : World} {D : Nat} {s : ByteArray} {w : World} {p : Nat} (hs : s.size ≤ 100000) (hp : p ≤ s.size) (X : Lxr w0 D s w p) :
    Calls Tryd.prog 48 #[.pointer (some ⟨D, 0, none⟩)] w (NumR w0 D s w p) := by
  obtain ⟨n, hn⟩ : ∃ z, w.heap.size = z := ⟨_, rfl⟩
  have hD : D < n := by rw [← hn]; exact X.lt
  obtain ⟨w1, hw1, T1, y1, z1⟩ := tk_start 33 w n hn 0 ⟨#[]⟩ 0 0
  have X1 := X.all y1
  have R := Lib.hid (rest_any hs hp X1)
  have X2 := Lib.hid X1
  have T2 := Lib.hid T1
  have Y1 := Lib.hid y1
  have HN := Lib.hid hn
  have W := fun w => numberSize_any (s.extract p s.size) (Nat.le_trans (extract_le s p s.size) hs) w
  rw [ext_drop] at W
  have hz := num_le (rst s p)
  rw [rst_len] at hz
  have e1 : s.extract p (p + numN (rst s p)) = sOf ((rst s p).take (numN (rst s p))) := sOf_ext s p _
  have W' : ∀ w, Calls Tryd.prog 74 #[.string (s.extract p s.size)] w fun e w' => e = .returned (.int .i64 (numN (rst s p) : Nat)) ∧ w = w' := W
  have PO : ∀ e w', NumR w0 D s w p e w' = NumR w0 D s w p e w' := fun _ _ => rfl
  unfold NumR at PO ⊢
  obtain ⟨z, hzz⟩ : ∃ z, numN (rst s p) = z := ⟨_, rfl⟩
  rw [hzz] at W' hz e1 ⊢
  clear PO
  have W1 := Lib.hid W'
  have E1 := Lib.hid e1
  have HS := Lib.hid hs
  have TK := fun w' (X' : Lxr w0 D s w' p) => take_any (z := z) hs (by omega) X'
  have TK1 := Lib.hid TK
  obtain ⟨u, hu⟩ : ∃ u, sOf ((rst s p).take z) = u := ⟨_, rfl⟩
  have hul : u.size ≤ maxLen := by rw [← hu, sOf_size, List.length_take, rst_len]; unfold maxLen; omega
  have PA := Lib.hid (fun w => parse_any u hul w)
  rw [hu] at E1 ⊢
  clear X X1 T1 y1 W W' e1 hzz TK hu hul
  go_enter Tryd.func48, Tryd.ntmps48
  go_wp2_with fail
  refine R.out.mono ?_
  rintro e w2 ⟨rfl, hb⟩
  have X4 := X2.out.all hb
  have T4 := T2.out.all hb
  have Y4 : Below n w w2 := (Y1.out.trans (hb.mono (by rw [z1, HN.out]; omega))).mono (by rw [HN.out]; omega)
  have K4 : LK D w w2 := LK.of_below (by rw [HN.out]; exact Y4)
  clear hb R X2 T2 Y1 Y4
  by_cases h0 : z = 0
  · obtain ⟨w4, hw4, T5, X5, K5⟩ := rd_put T4 X4 K4 HN.out hD 0 ⟨#[]⟩ 0 0
    obtain ⟨g0, g1, g2, g3, -⟩ := T5.cells
    obtain ⟨q0, q1, q2, q3, qf⟩ := T4.cells
    have F : Hid (Rd w0 D s w (.returned (.tuple #[.agg #[.int .i64 0, .string (sOf []), .int .i64 0, .int .i64 0], .int .i64 20])) w4 20 0 [] 0 p) := ⟨rfl, X5, K5⟩
    have k1 : ((z : Int) == 0) = true := by rw [h0]; rfl
    have H0 := Lib.hid h0
    clear X4 T4 K4 T5 X5 K5 h0 E1 PA TK1
    go_wp2_with fail
    refine (W1.out w2).mono ?_
    rintro e w3 ⟨rfl, rfl⟩
    go_wp2
    refine bodyPost_ret (v := .tuple #[.agg #[.int .i64 0, .string (sOf []), .int .i64 0, .int .i64 0], .int .i64 20]) ?_ rfl (.inl ⟨H0.out, F.out⟩)
    simp [results, Tryd.results48, go_sem, g0, g1, g2, g3]
    rfl
  · have k1 : ((z : Int) == 0) = false := beq_eq_false_iff_ne.2 (by omega)
    have TT := TK1.out w2 X4
    rw [E1.out] at TT
    have T5 := Lib.hid T4
    have K5 := Lib.hid K4
    have T9 := Lib.hid TT
    clear X4 T4 K4 E1 TK1 TT
    go_wp2_with fail
    refine (W1.out w2).mono ?_
    rintro e w3 ⟨rfl, rfl⟩
    go_wp2_with fail
    refine T9.out.mono ?_
    rintro e w4 ⟨rfl, X6, K6⟩
    have T6 := Lib.hid (T5.out.lk K6 (by omega))
    have X6 := Lib.hid X6
    have K6 := Lib.hid (K5.out.trans K6)
    clear T5 K5 T9
    go_wp2_with fail
    refine (PA.out w4).mono ?_
    rintro e w5 ⟨rfl, hb⟩
    have T7 := T6.out.all hb
    have X7 := X6.out.all hb
    have K7 := K6.out.trans (LK.of_below hb)
    clear hb T6 X6 K6 PA
    cases hu : parO u with
    | none =>
      have HU := Lib.hid hu
      obtain ⟨w6, hw6, T8, X8, K8⟩ := rd_put T7 X7 K7 HN.out hD 0 ⟨#[]⟩ 0 0
      obtain ⟨g0, g1, g2, g3, -⟩ := T8.cells
      obtain ⟨q0, q1, q2, q3, qf⟩ := T7.cells
      have F : Hid (Rd w0 D s w (.returned (.tuple #[.agg #[.int .i64 0, .string (sOf []), .int .i64 0, .int .i64 0], .int .i64 3])) w6 3 0 [] 0 (p + z)) := ⟨rfl, X8, K8⟩
      have k2 : parOk u = false := by unfold parOk; rw [hu]; rfl
      clear T7 X7 K7 T8 X8 K8 hu
      go_wp2
      refine bodyPost_ret (v := .tuple #[.agg #[.int .i64 0, .string (sOf []), .int .i64 0, .int .i64 0], .int .i64 3]) ?_ rfl (.inr (.inr ⟨by omega, HU.out, F.out⟩))
      simp [results, Tryd.results48, go_sem, g0, g1, g2, g3]
      rfl
    | some x =>
      have HU := Lib.hid hu
      obtain ⟨w6, hw6, T8, X8, K8⟩ := rd_put T7 X7 K7 HN.out hD 2 ⟨#[]⟩ x 0
      obtain ⟨g0, g1, g2, g3, -⟩ := T8.cells
      obtain ⟨q0, q1, q2, q3, qf⟩ := T7.cells
      have F : Hid (Rd w0 D s w (.returned (.tuple #[.agg #[.int .i64 2, .string (sOf []), .int .i64 x, .int .i64 0], .int .i64 0])) w6 0 2 [] x (p + z)) := ⟨rfl, X8, K8⟩
      have k2 : parOk u = true := by unfold parOk; rw [hu]; rfl
      have k3 : parV u = x := by unfold parV; rw [hu]; rfl
      rw [k3]
      clear T7 X7 K7 T8 X8 K8 hu k3
      go_wp2
      refine bodyPost_ret (v := .tuple #[.agg #[.int .i64 2, .string (sOf []), .int .i64 x, .int .i64 0], .int .i64 0]) ?_ rfl (.inr (.inl ⟨by omega, x, HU.out, F.out⟩))
      simp [results, Tryd.results48, go_sem, g0, g1, g2, g3]
      rfl
/-! ### Signs -/
def sgA : Array Value := (signsL.map fun x => Value.string (sOf x)).toArray
/-- The variable that holds all signs. -/
def SgAt (w : World) : Prop := ∃ T fr, w.heap[0]? = some (.cells sgA T fr)
theorem SgAt.below {w w' : World} {n : Nat} (h : SgAt w) (hb : Below n w w') (hn : 0 < n) : SgAt w' := by
  obtain ⟨T, fr, h⟩ := h
  exact ⟨T, fr, (hb.block _ hn).trans h⟩
theorem SgAt.load {w : World} (h : SgAt w) : (loadVar 100 ⟨0, 0, none⟩).run Tryd.prog w = .ok (.agg sgA) w := by
  obtain ⟨T, fr, h⟩ := h
  exact run_loadVar_row w _ T 100 sgA fr _ h Tryd.underlying100 rfl (by kernel_rfl)
theorem sgA_at (j : Nat) (h : j < 16) : ∃ (h' : j < signsL.length), sgA[j]? = some (.string (sOf (signsL[j]))) := by
  have h' : j < signsL.length := h
  refine ⟨h', ?_⟩
  unfold sgA
  rw [List.getElem?_toArray, List.getElem?_map, List.getElem?_eq_getElem h']
  rfl
theorem find_at {α : Type} (p : α → Bool) : ∀ (L : List α) (j : Nat), (∀ i (h : i < L.length), i < j → p L[i] = false) → (∀ (h : j < L.length), p L[j] = true → L.find? p = some L[j]) ∧ (L.length ≤ j → L.find? p = none) := by
  intro L
  induction L with
  | nil => intro j _; exact ⟨fun h => by simp at h, fun _ => rfl⟩
  | cons a L ih =>
    intro j hj
    cases j with
    | zero => exact ⟨fun _ h => by rw [List.find?_cons]; have : p a = true := h; rw [this]; rfl, fun h => by simp at h⟩
    | succ j =>
      have ha : p a = false := hj 0 (by simp) (by omega)
      have := ih j fun i h hi => hj (i + 1) (by simpa using h) (by omega)
      rw [List.find?_cons, ha]
      exact ⟨fun h hp => this.1 (by simpa using h) hp, fun h => this.2 (by simpa using h)⟩
theorem preB_pre (r : ByteArray) (x : List UInt8) : preB r (sOf x) = x.isPrefixOf r.data.toList := by
  rw [Bool.eq_iff_iff, preB_iff, sOf_list, List.isPrefixOf_iff_prefix]
  constructor
  · rintro ⟨q, h⟩; exact ⟨q, h.symm⟩
  · rintro ⟨q, h⟩; exact ⟨q, h.symm⟩
theorem sgA_index (j : Nat) (h : j < 16) (x : ByteArray) (hx : sgA[j]? = some (.string x)) (w : World) : (Instr.index 100 (.agg sgA) (.int .i64 (j : Int))).run Tryd.prog w = .ok (.string x) w := by
  have hj : (0 : Int) ≤ (j : Int) ∧ (j : Int) < ((16 : Nat) : Int) := by omega
  simp [Instr.index, run_underlying Tryd.underlying100, asIntOf, hj, go_sem, part]
  rw [if_pos h, hx]
  rfl
/-- What the reader of signs returns. -/
def SgnR (w0 : World) (D : Nat) (s : ByteArray) (w : World) (p : Nat) (e : Ending) (w' : World) : Prop :=
  (∃ x, signO (rst s p) = some x ∧ Rd w0 D s w e w' 0 4 x 0 (p + x.length)) ∨ (signO (rst s p) = none ∧ Rd w0 D s w e w' 20 0 [] 0 p)
set_option maxRecDepth 100000 in
set_option maxHeartbeats 1000000 in
theorem sign_any {w0 : World} {D : Nat} {s : ByteArray} {w : World} {p : Nat} (hs : s.size ≤ 100000) (hp : p ≤ s.size) (X : Lxr w0 D s w p) (SG : SgAt w0) (hg : 0 < D) :
    Calls Tryd.prog 50 #[.pointer (some ⟨D, 0, none⟩)] w (SgnR w0 D s w p) := by
  obtain ⟨n, hn⟩ : ∃ z, w.heap.size = z := ⟨_, rfl⟩
  have hD : D < n := by rw [← hn]; exact X.lt
  obtain ⟨w1, hw1, T1, y1, z1⟩ := tk_start 33 w n hn 0 ⟨#[]⟩ 0 0
  have X1 := X.all y1
  have hl := (SG.below X1.bel hg).load
  have X2 := Lib.hid X1
  have T2 := Lib.hid T1
  have Y1 : Hid (Below n w w1) := by rw [← hn]; exact y1
  have HN := Lib.hid hn
  have HP : Hid (p ≤ s.size) := hp
  obtain ⟨A, hA⟩ : ∃ A, sgA = A := ⟨_, rfl⟩
  have AT := fun j h => sgA_at j h
  have IX := fun j h x hx w => sgA_index j h x hx w
  rw [hA] at hl AT IX
  have IX1 := Lib.hid IX
  have A1 := Lib.hid AT
  clear X X1 T1 y1 SG hA AT IX
  go_enter Tryd.func50, Tryd.ntmps50
  go_wp2_with (first | (refine Lt.wpList_load_var rfl 100 (.global 0) rfl _ rfl _ hl ?_) | fail)
  clear hl
  go_loopw [7] (fun iv wr => ∃ j : Nat, j ≤ 16 ∧ iv = .int .i64 j ∧ Hid (Lxr w0 D s wr p) ∧ Hid (TkB 33 wr n 0 ⟨#[]⟩ 0 0) ∧ Hid (Below n w wr) ∧ n < wr.heap.size ∧ Hid (∀ i (h : i < signsL.length), i < j → (signsL[i]).isPrefixOf (rst s p) = false)) (fun iv _ => 16 - (intOf iv).toNat)
  case atStart => exact ⟨0, Nat.zero_le _, rfl, X2, T2, Y1, by omega, fun i h hi => absurd hi (by omega)⟩
  case round =>
    clear X2 T2 Y1
    obtain ⟨j, hj, rfl, X3, T3, Y3, hnw, NO⟩ := hrel
    by_cases h : j < 16
    · obtain ⟨hl, ha⟩ := A1.out j h
      have FA := find_at (fun x => x.isPrefixOf (rst s p)) signsL j NO.out
      have R := Lib.hid (rest_any hs hp X3.out)
      have hx2 : (signsL[j]).length ≤ 2 := by
        have t : ∀ x ∈ signsL, x.length ≤ 2 := by decide
        exact t _ (List.getElem_mem hl)
      obtain ⟨x, hx⟩ : ∃ x, signsL[j] = x := ⟨_, rfl⟩
      rw [hx] at ha hx2
      have hix := IX1.out j h _ ha
      have PR := Lib.hid (fun w => shasPrefix_any (s.extract p s.size) (sOf x) (Nat.le_trans (extract_le s p s.size) (by unfold maxLen; omega)) (by rw [sOf_size]; unfold maxLen; omega) w)
      have e1 := preB_pre (s.extract p s.size) x
      rw [ext_drop] at e1
      obtain ⟨b, hb⟩ : ∃ b, preB (s.extract p s.size) (sOf x) = b := ⟨_, rfl⟩
      rw [hb] at PR e1
      have FA1 : Hid ((b = true → signO (rst s p) = some x) ∧ (b = false → ∀ i (h : i < signsL.length), i < j + 1 → (signsL[i]).isPrefixOf (rst s p) = false)) := by
        refine ⟨fun hbt => ?_, fun hbt i hi hij => ?_⟩
        · have := FA.1 hl (by rw [hx]; exact e1.symm.trans hbt)
          rw [hx] at this
          exact this
        · by_cases hi2 : i = j
          · subst hi2
            rw [hx]
            exact e1.symm.trans hbt
          · exact NO.out i hi (by omega)
      clear FA e1 hb NO
      have hxz : (sOf x).size = x.length := sOf_size x
      cases b
      · have N := Lib.hid (FA1.out.2 rfl)
        clear FA1 hx hl
        go_wp2_with fail
        refine R.out.mono ?_
        rintro e w2 ⟨rfl, hb⟩
        have X4 := Lib.hid (X3.out.all hb)
        have T4 := Lib.hid (T3.out.all hb)
        have Y4 : Hid (Below n w w2) := Y3.out.trans (hb.mono (by omega))
        have hnw2 := hb.size
        clear hb X3 T3 Y3 R
        go_wp2_with fail
        refine (PR.out w2).mono ?_
        rintro e w3 ⟨rfl, rfl⟩
        go_wp2
        go_roundw
        case rel => exact ⟨j + 1, h, by go_num, X4, T4, Y4, by omega, N⟩
        case measure => simp [intOf]; omega
      · have N := Lib.hid (FA1.out.1 rfl)
        obtain ⟨q, hq⟩ := sign_pre N.out
        have hlen := congrArg List.length hq
        rw [rst_len, List.length_append] at hlen
        have hfit : p + x.length ≤ s.size := by have := HP.out; have hpos := sign_pos N.out; omega
        have ex : s.extract p (p + x.length) = sOf x := by rw [sOf_ext]; show sOf ((rst s p).take x.length) = _; rw [hq, List.take_left]
        have TK := fun w' (X' : Lxr w0 D s w' p) => take_any (z := x.length) hs hfit X'
        rw [ex] at TK
        have TK1 := Lib.hid TK
        clear FA1 hx hl hq hlen hfit ex TK
        go_wp2_with fail
        refine R.out.mono ?_
        rintro e w2 ⟨rfl, hb⟩
        have X4 := Lib.hid (X3.out.all hb)
        have T4 := Lib.hid (T3.out.all hb)
        have Y4 : Hid (Below n w w2) := Y3.out.trans (hb.mono (by omega))
        have hnw2 := hb.size
        clear hb X3 T3 Y3 R
        go_wp2_with fail
        refine (PR.out w2).mono ?_
        rintro e w3 ⟨rfl, rfl⟩
        go_wp2_with fail
        refine (TK1.out w2 X4.out).mono ?_
        rintro e w3 ⟨rfl, X5, K5⟩
        have T5 := T4.out.lk K5 (by omega)
        have K6 : LK D w w3 := (LK.of_below (by rw [HN.out]; exact Y4.out)).trans K5
        obtain ⟨w6, hw6, T8, X8, K8⟩ := rd_put T5 X5 K6 HN.out hD 4 (sOf x) 0 0
        obtain ⟨g0, g1, g2, g3, -⟩ := T8.cells
        obtain ⟨q0, q1, q2, q3, qf⟩ := T5.cells
        have F : Hid (SgnR w0 D s w p (.returned (.tuple #[.agg #[.int .i64 4, .string (sOf x), .int .i64 0, .int .i64 0], .int .i64 0])) w6) := .inl ⟨x, N.out, rfl, X8, K8⟩
        clear T5 X5 K5 K6 T8 X8 K8 T4 X4 Y4 TK1
        go_wp2
        refine bodyPost_ret (v := .tuple #[.agg #[.int .i64 4, .string (sOf x), .int .i64 0, .int .i64 0], .int .i64 0]) ?_ rfl F.out
        simp [results, Tryd.results50, go_sem, g0, g1, g2, g3]
    · obtain rfl : j = 16 := by omega
      have FA := find_at (fun x => x.isPrefixOf (rst s p)) signsL 16 NO.out
      have N : Hid (signO (rst s p) = none) := FA.2 (by decide)
      obtain ⟨w6, hw6, T8, X8, K8⟩ := rd_put T3.out X3.out (LK.of_below (by rw [HN.out]; exact Y3.out)) HN.out hD 0 ⟨#[]⟩ 0 0
      obtain ⟨g0, g1, g2, g3, -⟩ := T8.cells
      obtain ⟨q0, q1, q2, q3, qf⟩ := T3.out.cells
      have F : Hid (SgnR w0 D s w p (.returned (.tuple #[.agg #[.int .i64 0, .string (sOf []), .int .i64 0, .int .i64 0], .int .i64 20])) w6) := .inr ⟨N.out, rfl, X8, K8⟩
      clear T8 X8 K8 T3 X3 Y3 FA NO
      go_wp2
      refine bodyPost_ret (v := .tuple #[.agg #[.int .i64 0, .string (sOf []), .int .i64 0, .int .i64 0], .int .i64 20]) ?_ rfl F.out
      simp [results, Tryd.results50, go_sem, g0, g1, g2, g3]
      rfl
end Go.Proofs.YtcmcikcagpkocaaDoor
