/-
  A lexer's reader of strings: the walk.
-/
import Derived.Test.YtcmcikcagpkocaaDoorLxM
namespace Go.Proofs.YtcmcikcagpkocaaDoor
open Go.RowKit
set_option linter.unusedVariables false
attribute [local go_sem] Oper.semAt_some

/-- What the reader of strings returns. -/
def QuoR (w0 : World) (D : Nat) (s : ByteArray) (w : World) (p : Nat) (e : Ending) (w' : World) : Prop :=
  (mkB (rst s p) = false ∧ Rd w0 D s w e w' 20 0 [] 0 p) ∨ ∃ m r, rst s p = m :: r ∧ (m = 34 ∨ m = 39) ∧
    ((∃ x, quoN m r = some x ∧ Rd w0 D s w e w' 0 3 x.1 0 (p + (x.2 + 1))) ∨ (quoN m r = none ∧ ∃ q, Rd w0 D s w e w' 3 0 [] 0 q))
def lenV : Value → Nat
  | .slice _ n _ => n
  | _ => 0
theorem rst_next (s : ByteArray) (q i : Nat) (a : List UInt8) (m : UInt8) (r : List UInt8) (h : rst s q = a ++ m :: r) (hi : a.length = i) : rst s (q + i + 1) = r := by
  unfold rst at *
  rw [Nat.add_assoc, ← List.drop_drop, h, ← hi]
  have : a ++ m :: r = (a ++ [m]) ++ r := by simp
  rw [this, show a.length + 1 = (a ++ [m]).length by simp, List.drop_left]
theorem Lxr.up {w0 w w' : World} {D B p : Nat} {s : ByteArray} (h : Lxr w0 D s w p) (hb : Below B w w') (hD : D < B) : Lxr w0 D s w' p := ⟨(hb.block D hD).trans h.blk, h.bel.trans (hb.mono (Nat.le_of_lt hD))⟩
theorem TkB.up {e : TypeId} {w w' : World} {b B : Nat} {k n p : Int} {t : ByteArray} (h : TkB e w b k t n p) (hb : Below B w w') (hD : b < B) : TkB e w' b k t n p := ⟨(hb.block b hD).trans h.blk⟩
theorem LK.up {w w1 w2 : World} {D B : Nat} (h : LK D w w1) (hb : Below B w1 w2) (hB : w.heap.size ≤ B) : LK D w w2 :=
  ⟨Nat.le_trans h.size hb.size, fun k hk hd => (hb.block k (Nat.lt_of_lt_of_le hk hB)).trans (h.same k hk hd)⟩
theorem join_any {w : World} {base : Nat} {A : Option Addr} {k cap : Nat} {P : List (List UInt8)} {m : UInt8} {t : List UInt8} (h : OwnL w base (.slice A k cap) P) (hP : P ≠ []) (ht : Lib.join P [m] = t) (hl : t.length ≤ 1000000) (hk : P.length = k) (hk2 : k ≤ 1000000) :
    Calls Tryd.prog 32 #[.slice A k cap, .string (sOf [m])] w fun e w' => e = .returned (.string (sOf t)) ∧ Below w.heap.size w w' := by
  obtain ⟨g, c, e, hg, hc, hcell⟩ := h.row hP
  simp only [Value.slice.injEq] at e
  obtain ⟨rfl, -, rfl⟩ := e
  have e1 : (P.map sOf).map (·.data.toList) = P := by
    rw [List.map_map]
    conv => rhs; rw [← List.map_id P]
    exact List.map_congr_left fun x _ => sOf_list x
  have e2 : (sOf [m]).data.toList = [m] := sOf_list _
  have J := Tryd.strings_Join g 0 cap (P.map sOf) (sOf [m]) w hcell hg (by rw [List.length_map]; omega) (by rw [List.length_map]; exact hc) (by rw [e1, e2, ht]; omega)
  rw [List.length_map, hk, e1, e2, ht] at J
  exact J
set_option maxRecDepth 100000 in
set_option maxHeartbeats 4000000 in
theorem quoted_any {w0 : World} {D : Nat} {s : ByteArray} {w : World} {p : Nat} (hs : s.size ≤ 100000) (hp : p ≤ s.size) (X : Lxr w0 D s w p) :
    Calls Tryd.prog 49 #[.pointer (some ⟨D, 0, none⟩)] w (QuoR w0 D s w p) := by
  obtain ⟨n, hn⟩ : ∃ z, w.heap.size = z := ⟨_, rfl⟩
  have hD : D < n := by rw [← hn]; exact X.lt
  obtain ⟨w1, hw1, T1, y1, z1⟩ := tk_start 33 w n hn 0 ⟨#[]⟩ 0 0
  have X1 := X.all y1
  have R := Lib.hid (rest_any hs hp X1)
  have X2 := Lib.hid X1
  have T2 := Lib.hid T1
  have Y1 : Hid (Below n w w1) := by rw [← hn]; exact y1
  have HN := Lib.hid hn
  have HP : Hid (p ≤ s.size) := hp
  have MK := fun w => isMark_any (s.extract p s.size) (Nat.le_trans (extract_le s p s.size) (by unfold maxLen; omega)) w
  rw [ext_drop] at MK
  have MK' : ∀ w, Calls Tryd.prog 76 #[.string (s.extract p s.size)] w fun e w' => e = .returned (.bool (mkB (rst s p))) ∧ w = w' := MK
  have MK1 := Lib.hid MK'
  clear X X1 T1 y1 MK MK'
  cases hmk : mkB (rst s p) with
  | false =>
    have HM := Lib.hid hmk
    rw [hmk] at MK1
    clear hmk
    go_enter Tryd.func49, Tryd.ntmps49
    go_wp2_with fail
    refine R.out.mono ?_
    rintro e w2 ⟨rfl, hb⟩
    have X4 := X2.out.all hb
    have T4 := T2.out.all hb
    have K4 : LK D w w2 := LK.of_below (by rw [HN.out]; exact Y1.out.trans (hb.mono (by omega)))
    obtain ⟨w4, hw4, T5, X5, K5⟩ := rd_put T4 X4 K4 HN.out hD 0 ⟨#[]⟩ 0 0
    obtain ⟨g0, g1, g2, g3, -⟩ := T5.cells
    obtain ⟨q0, q1, q2, q3, qf⟩ := T4.cells
    have F : Hid (QuoR w0 D s w p (.returned (.tuple #[.agg #[.int .i64 0, .string (sOf []), .int .i64 0, .int .i64 0], .int .i64 20])) w4) := .inl ⟨HM.out, rfl, X5, K5⟩
    clear X4 T4 K4 T5 X5 K5 hb R X2 T2 Y1
    go_wp2_with fail
    refine (MK1.out w2).mono ?_
    rintro e w3 ⟨rfl, rfl⟩
    go_wp2
    refine bodyPost_ret (v := .tuple #[.agg #[.int .i64 0, .string (sOf []), .int .i64 0, .int .i64 0], .int .i64 20]) ?_ rfl F.out
    simp [results, Tryd.results49, go_sem, g0, g1, g2, g3]
    rfl
  | true =>
    obtain ⟨m, r, hl, hm⟩ : ∃ m r, rst s p = m :: r ∧ (m = 34 ∨ m = 39) := by
      unfold mkB at hmk
      cases hl : rst s p with
      | nil => rw [hl] at hmk; cases hmk
      | cons m r => rw [hl] at hmk; simp at hmk; exact ⟨m, r, rfl, hmk⟩
    rw [hmk] at MK1
    have hlen := congrArg List.length hl
    rw [rst_len, List.length_cons] at hlen
    have hp1 : p + 1 ≤ s.size := by omega
    have hr : rst s (p + 1) = r := rst_next s p 0 [] m r hl rfl
    have TK := fun w' (X' : Lxr w0 D s w' p) => take_any (z := 1) hs hp1 X'
    have em : s.extract p (p + 1) = sOf [m] := by rw [sOf_ext]; show sOf ((rst s p).take 1) = _; rw [hl]; rfl
    rw [em] at TK
    have TK1 := Lib.hid TK
    have HM : Hid (rst s p = m :: r ∧ (m = 34 ∨ m = 39)) := ⟨hl, hm⟩
    have HR := Lib.hid hr
    obtain ⟨mk, hmkk⟩ : ∃ mk, sOf [m] = mk := ⟨_, rfl⟩
    have hm1 : mk.size = 1 := by rw [← hmkk, sOf_size]; rfl
    rw [hmkk] at TK1
    have HK := Lib.hid hmkk
    clear hmk hl hm hlen hr TK em hmkk
    go_enter Tryd.func49, Tryd.ntmps49
    go_wp2_with fail
    refine R.out.mono ?_
    rintro e w2 ⟨rfl, hb⟩
    have X4 := Lib.hid (X2.out.all hb)
    have T4 := Lib.hid (T2.out.all hb)
    have K4 : Hid (LK D w w2) := LK.of_below (by rw [HN.out]; exact Y1.out.trans (hb.mono (by omega)))
    have z2 := hb.size
    clear hb R X2 T2 Y1
    go_wp2_with fail
    refine (MK1.out w2).mono ?_
    rintro e w3 ⟨rfl, rfl⟩
    go_wp2_with fail
    refine (TK1.out w2 X4.out).mono ?_
    rintro e w3 ⟨rfl, X5, K5⟩
    have T6 := Lib.hid (T4.out.lk K5 (by omega))
    have X6 := Lib.hid X5
    have K6 := Lib.hid (K4.out.trans K5)
    have z3 := K5.size
    have L0 := Lib.hid (ownL_nil w3 (n + 1))
    clear T4 X4 K4 X5 K5 TK1 MK1
    go_wp2
    go_loopw [5] (fun iv wr => ∃ (P : List (List UInt8)) (A : Option Addr) (k cap q : Nat), iv = .slice A k cap ∧ P.length = k ∧ k ≤ q ∧ q ≤ s.size ∧ p + 1 ≤ q ∧ n + 1 ≤ wr.heap.size ∧ Hid (OwnL wr (n + 1) iv P) ∧ Hid (Lxr w0 D s wr q) ∧ Hid (TkB 33 wr n 0 ⟨#[]⟩ 0 0) ∧ Hid (LK D w wr) ∧
      Hid (quoN m r = (quoN m (rst s q)).map fun x => (accL m P ++ x.1, (q - (p + 1)) + x.2))) (fun iv _ => s.size + 1 - lenV iv)
    case atStart => exact ⟨[], none, 0, 0, p + 1, rfl, rfl, Nat.zero_le _, hp1, Nat.le_refl _, by omega, L0, X6, T6, K6, by
      show quoN m r = _
      rw [HR.out, Nat.sub_self]
      cases quoN m r with
      | none => rfl
      | some x => simp [accL]⟩
    case round =>
      clear L0 X6 T6 K6 z2 z3
      obtain ⟨P, A, k, cap, q, rfl, hk, hkq, hq, hpq, hnw, L1, X1, T1, K1, QE⟩ := hrel
      have R := Lib.hid (rest_any hs hq X1.out)
      have IX := fun w => Tryd.strings_Index_one (s.extract q s.size) m w
      rw [ext_drop] at IX
      have IX' : ∀ w, Calls Tryd.prog 43 #[.string (s.extract q s.size), .string (sOf [m])] w fun e w' => e = .returned (.int .i64 (Lib.indexByte (rst s q) m)) ∧ w' = w := IX
      rw [HK.out] at IX'
      rcases idx_cases (rst s q) m with ⟨hneg, hno⟩ | ⟨i, r', hi, hsp, hlt, hno⟩
      · have N : Hid (quoN m r = none) := by show quoN m r = none; rw [QE.out, quo_none m _ hno]; rfl
        have IX1 := Lib.hid IX'
        obtain ⟨ix, hix⟩ : ∃ ix, Lib.indexByte (rst s q) m = ix := ⟨_, rfl⟩
        rw [hix] at hneg IX1
        clear IX IX' hno hix
        go_wp2_with fail
        refine R.out.mono ?_
        rintro e w2 ⟨rfl, hb⟩
        have X4 := X1.out.all hb
        have T4 := T1.out.all hb
        have K4 := K1.out.trans (LK.of_below hb)
        obtain ⟨w4, hw4, T5, X5, K5⟩ := rd_put T4 X4 K4 HN.out hD 0 ⟨#[]⟩ 0 0
        obtain ⟨g0, g1, g2, g3, -⟩ := T5.cells
        obtain ⟨q0, q1, q2, q3, qf⟩ := T4.cells
        have F : Hid (QuoR w0 D s w p (.returned (.tuple #[.agg #[.int .i64 0, .string (sOf []), .int .i64 0, .int .i64 0], .int .i64 3])) w4) := .inr ⟨m, r, HM.out.1, HM.out.2, .inr ⟨N.out, q, rfl, X5, K5⟩⟩
        clear X4 T4 K4 T5 X5 K5 hb R X1 T1 K1 L1 QE
        go_wp2_with fail
        refine (IX1.out w2).mono ?_
        rintro e w3 ⟨rfl, rfl⟩
        go_wp2
        refine bodyPost_ret (v := .tuple #[.agg #[.int .i64 0, .string (sOf []), .int .i64 0, .int .i64 0], .int .i64 3]) ?_ rfl F.out
        simp [results, Tryd.results49, go_sem, g0, g1, g2, g3]
        rfl
      · rw [hi] at IX'
        have IX1 := Lib.hid IX'
        have hll := rst_len s q
        have hfit : q + i + 1 ≤ s.size := by omega
        have hal : ((rst s q).take i).length = i := by rw [List.length_take]; omega
        have hr' : rst s (q + i + 1) = r' := rst_next s q i _ m r' hsp hal
        have QP := quo_part m ((rst s q).take i) r' hno
        rw [← hsp] at QP
        obtain ⟨a, ha⟩ : ∃ a, (rst s q).take i = a := ⟨_, rfl⟩
        have ea : s.extract q (q + i) = sOf a := by rw [← ha]; exact sOf_ext s q i
        rw [ha] at QP hal
        have TK := fun w' (X' : Lxr w0 D s w' q) => take_any (z := i) hs (by omega) X'
        rw [ea] at TK
        have TK1 := Lib.hid TK
        have TM := Lib.hid (fun w' (X' : Lxr w0 D s w' (q + i)) => take_any (z := 1) hs hfit X')
        have RN := Lib.hid (fun w' (X' : Lxr w0 D s w' (q + i + 1)) => rest_any hs hfit X')
        have PR := fun w => shasPrefix_any (s.extract (q + i + 1) s.size) mk (Nat.le_trans (extract_le s _ s.size) (by unfold maxLen; omega)) (by rw [hm1]; unfold maxLen; omega) w
        have e1 : preB (s.extract (q + i + 1) s.size) mk = (r'.head? == some m) := by
          rw [← HK.out]
          have := pre_one (s.extract (q + i + 1) s.size) m
          rw [ext_drop] at this
          rw [← hr']
          exact this
        obtain ⟨b, hb0⟩ : ∃ b, preB (s.extract (q + i + 1) s.size) mk = b := ⟨_, rfl⟩
        rw [hb0] at PR e1
        have PR1 := Lib.hid PR
        have QP1 := Lib.hid QP
        have HR' := Lib.hid hr'
        have HA := Lib.hid hal
        have E1 := Lib.hid e1
        clear IX IX' hsp hno hi ha ea TK hr' QP hb0 PR hal hll hlt e1
        go_wp2_with fail
        refine R.out.mono ?_
        rintro e w2 ⟨rfl, hb⟩
        have X4 := Lib.hid (X1.out.all hb)
        have T4 := Lib.hid (T1.out.all hb)
        have K4 := Lib.hid (K1.out.trans (LK.of_below hb))
        have L4 := Lib.hid (L1.out.lk (by omega) (LK.of_below (D := D) hb))
        have z2 := hb.size
        clear hb R X1 T1 K1 L1
        go_wp2_with fail
        refine (IX1.out w2).mono ?_
        rintro e w3 ⟨rfl, rfl⟩
        go_wp2_with fail
        refine (TK1.out w3 X4.out).mono ?_
        rintro e w4 ⟨rfl, X5, K5⟩
        have T6 := Lib.hid (T4.out.lk K5 (by omega))
        have X6 := Lib.hid X5
        have K6 := Lib.hid (K4.out.trans K5)
        have L6 := Lib.hid (L4.out.lk (by omega) K5)
        have z4 := K5.size
        clear T4 X4 K4 L4 X5 K5 TK1 IX1
        go_wp2_with (at_builtin; refine wpList_appL L6.out (by omega) rfl _ _ rfl rfl _ rfl rfl a k hk (by omega) ?_; intro A2 cap2 w5 hO hb hsz; have L7 := Lib.hid hO; have B7 := Lib.hid hb; clear hO hb L6)
        have X7 := Lib.hid (X6.out.up B7.out (by omega))
        have T7 := Lib.hid (T6.out.up B7.out (by omega))
        have K7 := Lib.hid (K6.out.up B7.out (by rw [HN.out]; omega))
        clear X6 T6 K6 B7
        go_wp2_with fail
        refine (TM.out w5 X7.out).mono ?_
        rintro e w6 ⟨rfl, X8, K8⟩
        have T9 := Lib.hid (T7.out.lk K8 (by omega))
        have X9 := Lib.hid X8
        have K9 := Lib.hid (K7.out.trans K8)
        have L9 := Lib.hid (L7.out.lk (by omega) K8)
        have z6 := K8.size
        clear T7 X7 K7 L7 X8 K8 TM
        go_wp2_with fail
        refine (RN.out w6 X9.out).mono ?_
        rintro e w7 ⟨rfl, hb⟩
        have X4 := Lib.hid (X9.out.all hb)
        have T4 := Lib.hid (T9.out.all hb)
        have K4 := Lib.hid (K9.out.trans (LK.of_below hb))
        have L4 := Lib.hid (L9.out.lk (by omega) (LK.of_below (D := D) hb))
        have z7 := hb.size
        clear hb X9 T9 K9 L9 RN
        cases b
        · have N : Hid (quoN m r = some (accL m P ++ a, (q - (p + 1)) + (i + 1))) := by
            show quoN m r = _
            rw [QE.out, QP1.out, if_neg (fun e => by have := E1.out; rw [e] at this; simp at this), HA.out]
            rfl
          have hjl := (quo_le m r _ N.out).1
          have hjl2 := (quo_le m r _ N.out).2
          have hrl : r.length ≤ s.size := by rw [← HR.out, rst_len]; omega
          have JO := join_any (m := m) L4.out (by simp) (acc_join m P a) (by simp at hjl hjl2; simp; omega) (by rw [List.length_append, hk]; rfl) (by omega)
          rw [HK.out] at JO
          have J1 := Lib.hid JO
          obtain ⟨t, ht⟩ : ∃ t, accL m P ++ a = t := ⟨_, rfl⟩
          rw [ht] at N J1
          clear JO hjl hjl2 hrl ht QE QP1
          go_wp2_with fail
          refine (PR1.out w7).mono ?_
          rintro e w8 ⟨rfl, rfl⟩
          go_wp2_with fail
          refine J1.out.mono ?_
          rintro e w8 ⟨rfl, hb⟩
          have X5 := X4.out.all hb
          have T5 := T4.out.all hb
          have K5 := K4.out.trans (LK.of_below hb)
          obtain ⟨w9, hw9, T6, X6, K6⟩ := rd_put T5 X5 K5 HN.out hD 3 (sOf t) 0 0
          obtain ⟨g0, g1, g2, g3, -⟩ := T6.cells
          obtain ⟨q0, q1, q2, q3, qf⟩ := T5.cells
          have F : Hid (QuoR w0 D s w p (.returned (.tuple #[.agg #[.int .i64 3, .string (sOf t), .int .i64 0, .int .i64 0], .int .i64 0])) w9) :=
            .inr ⟨m, r, HM.out.1, HM.out.2, .inl ⟨_, N.out, rfl, by rw [show p + (q - (p + 1) + (i + 1) + 1) = q + i + 1 by omega]; exact X6, K6⟩⟩
          clear X5 T5 K5 X6 T6 K6 hb X4 T4 K4 L4
          go_wp2
          refine bodyPost_ret (v := .tuple #[.agg #[.int .i64 3, .string (sOf t), .int .i64 0, .int .i64 0], .int .i64 0]) ?_ rfl F.out
          simp [results, Tryd.results49, go_sem, g0, g1, g2, g3]
        · have hd : r'.head? = some m := by have := E1.out; simpa using this.symm
          obtain ⟨r2, hr2⟩ : ∃ r2, r' = m :: r2 := by
            cases r' with
            | nil => cases hd
            | cons c r2 => cases hd; exact ⟨r2, rfl⟩
          have hl2 := rst_len s (q + i + 1)
          rw [HR'.out, hr2, List.length_cons] at hl2
          have hfit2 : q + i + 1 + 1 ≤ s.size := by omega
          have hr3 : rst s (q + i + 1 + 1) = r2 := rst_next s (q + i + 1) 0 [] m r2 (by rw [HR'.out, hr2]; rfl) rfl
          have N : Hid (quoN m r = (quoN m (rst s (q + i + 1 + 1))).map fun x => (accL m (P ++ [a]) ++ x.1, ((q + i + 1 + 1) - (p + 1)) + x.2)) := by
            show quoN m r = _
            rw [QE.out, QP1.out, if_pos hd, hr3, hr2, HA.out, acc_app]
            show Option.map _ (Option.map _ (quoN m r2)) = _
            cases quoN m r2 with
            | none => rfl
            | some x => simp; omega
          have TZ := Lib.hid (fun w' (X' : Lxr w0 D s w' (q + i + 1)) => take_any (z := 1) hs hfit2 X')
          clear hd hr2 hl2 hr3 QE QP1
          go_wp2_with fail
          refine (PR1.out w7).mono ?_
          rintro e w8 ⟨rfl, rfl⟩
          go_wp2_with fail
          refine (TZ.out w7 X4.out).mono ?_
          rintro e w8 ⟨rfl, X8, K8⟩
          have T9 := Lib.hid (T4.out.lk K8 (by omega))
          have X9 := Lib.hid X8
          have K9 := Lib.hid (K4.out.trans K8)
          have L9 := Lib.hid (L4.out.lk (by omega) K8)
          have z8 := K8.size
          clear T4 X4 K4 L4 X8 K8 TZ
          go_wp2
          go_roundw
          case rel => exact ⟨P ++ [a], A2, k + 1, cap2, q + i + 1 + 1, rfl, by rw [List.length_append, hk]; rfl, by omega, hfit2, by omega, by omega, L9, X9, T9, K9, N⟩
          case measure => simp [lenV]; omega
end Go.Proofs.YtcmcikcagpkocaaDoor
