/-
  The walk over the reference's next.
-/
import Derived.Test.YtcmcikcagpkocaaDoorLxR
import Derived.Test.YtcmcikcagpkocaaDoorLxO
import Derived.Test.YtcmcikcagpkocaaDoorNumR
namespace Go.Proofs.YtcmcikcagpkocaaDoor
open Go.RowKit
set_option linter.unusedVariables false
attribute [local go_sem] Oper.semAt_some

theorem rparseV_any (s : ByteArray) (hs : s.size ≤ 2 ^ 63 - 1) (w : World) :
    Calls Tryd.prog 53 #[.string s] w fun e w' => e = .returned (.tuple #[.int .i64 (parV s), .bool (parOk s)]) ∧ w = w' := by
  have h := rparse_any s hs w
  rw [(xr5_res s).1, (xr5_res s).2] at h
  exact h
section
variable {e : TypeId} {w w' : World} {b : Nat} {k : Int} {t : ByteArray} {n p : Int}
theorem TkB.put01 (h : TkB e w b k t n p) (k' : Int) (t' : ByteArray) :
    ∃ w', (w.setCell ⟨b, 0, none⟩ (.int .i64 k')).setCell ⟨b, 1, none⟩ (.string t') = w' ∧ TkB e w' b k' t' n p ∧ Below b w w' ∧ w'.heap.size = w.heap.size ∧ ∀ j, j ≠ b → w'.heap[j]? = w.heap[j]? :=
  ⟨_, rfl, ⟨heap_setCell_same _ b 1 _ _ _ (heap_setCell_same w b 0 _ _ (.int .i64 k') h.blk)⟩, ((Below.refl b w).setCell (p := ⟨b, 0, none⟩) (Nat.le_refl _) _).setCell (p := ⟨b, 1, none⟩) (Nat.le_refl _) _, by simp,
    fun j hj => (heap_setCell_other _ ⟨b, 1, none⟩ j _ hj).trans (heap_setCell_other _ ⟨b, 0, none⟩ j _ hj)⟩
theorem TkB.put02 (h : TkB e w b k t n p) (k' n' : Int) :
    ∃ w', (w.setCell ⟨b, 0, none⟩ (.int .i64 k')).setCell ⟨b, 2, none⟩ (.int .i64 n') = w' ∧ TkB e w' b k' t n' p ∧ Below b w w' ∧ w'.heap.size = w.heap.size ∧ ∀ j, j ≠ b → w'.heap[j]? = w.heap[j]? :=
  ⟨_, rfl, ⟨heap_setCell_same _ b 2 _ _ _ (heap_setCell_same w b 0 _ _ (.int .i64 k') h.blk)⟩, ((Below.refl b w).setCell (p := ⟨b, 0, none⟩) (Nat.le_refl _) _).setCell (p := ⟨b, 2, none⟩) (Nat.le_refl _) _, by simp,
    fun j hj => (heap_setCell_other _ ⟨b, 2, none⟩ j _ hj).trans (heap_setCell_other _ ⟨b, 0, none⟩ j _ hj)⟩
end
/-- What the reference's next returns at a. -/
def RNx (s : ByteArray) (a : Nat) : Value := match nxt (rst s a) with
  | .tok k t x z => .tuple #[.agg #[.int .i64 k, .string (sOf t), .int .i64 x, .int .i64 a], .int .i64 ((a + z : Nat) : Int), .int .i64 0]
  | .bad c => .tuple #[.agg #[.int .i64 0, .string (sOf []), .int .i64 0, .int .i64 a], .int .i64 0, .int .i64 c]
/-- The two blocks of next: what it returns, and its token. -/
structure Two (w : World) (n b : Nat) (a : Nat) (v : World) : Prop where
  r : TkB 34 v n 0 ⟨#[]⟩ 0 0
  t : TkB 34 v b 0 ⟨#[]⟩ 0 a
  bel : Below n w v
theorem Two.all {w v v' : World} {n b a : Nat} (h : Two w n b a v) (hb : Below v.heap.size v v') : Two w n b a v' := ⟨h.r.all hb, h.t.all hb, h.bel.trans (hb.mono (Nat.le_of_lt h.r.lt))⟩
/-- The token as it is, is returned. -/
theorem two_bad {w v : World} {n b a : Nat} (h : Two w n b a v) (hnb : n < b) : ∃ v', (((v.setCell ⟨n, 0, none⟩ (.int .i64 0)).setCell ⟨n, 1, none⟩ (.string ⟨#[]⟩)).setCell ⟨n, 2, none⟩ (.int .i64 0)).setCell ⟨n, 3, none⟩ (.int .i64 a) = v' ∧ TkB 34 v' n 0 ⟨#[]⟩ 0 a ∧ Below n w v' := by
  obtain ⟨v', h1, h2, h3, -, -⟩ := h.r.put 0 ⟨#[]⟩ 0 a
  exact ⟨v', h1, h2, h.bel.trans h3⟩
/-- A token of a word, a string or a sign is returned. -/
theorem two_text {w v : World} {n b a : Nat} (h : Two w n b a v) (hnb : n < b) (k : Int) (t : ByteArray) : ∃ v1 v', (v.setCell ⟨b, 0, none⟩ (.int .i64 k)).setCell ⟨b, 1, none⟩ (.string t) = v1 ∧ TkB 34 v1 b k t 0 a ∧ TkB 34 v1 n 0 ⟨#[]⟩ 0 0 ∧
    (((v1.setCell ⟨n, 0, none⟩ (.int .i64 k)).setCell ⟨n, 1, none⟩ (.string t)).setCell ⟨n, 2, none⟩ (.int .i64 0)).setCell ⟨n, 3, none⟩ (.int .i64 a) = v' ∧ TkB 34 v' n k t 0 a ∧ Below n w v' := by
  obtain ⟨v1, h1, h2, h3, h4, h5⟩ := h.t.put01 k t
  have r1 : TkB 34 v1 n 0 ⟨#[]⟩ 0 0 := ⟨(h5 n (by omega)).trans h.r.blk⟩
  obtain ⟨v', g1, g2, g3, -, -⟩ := r1.put k t 0 a
  exact ⟨v1, v', h1, h2, r1, g1, g2, (h.bel.trans (h3.mono (by omega))).trans g3⟩
/-- A token of a number is returned. -/
theorem two_num {w v : World} {n b a : Nat} (h : Two w n b a v) (hnb : n < b) (k x : Int) : ∃ v1 v', (v.setCell ⟨b, 0, none⟩ (.int .i64 k)).setCell ⟨b, 2, none⟩ (.int .i64 x) = v1 ∧ TkB 34 v1 b k ⟨#[]⟩ x a ∧ TkB 34 v1 n 0 ⟨#[]⟩ 0 0 ∧
    (((v1.setCell ⟨n, 0, none⟩ (.int .i64 k)).setCell ⟨n, 1, none⟩ (.string ⟨#[]⟩)).setCell ⟨n, 2, none⟩ (.int .i64 x)).setCell ⟨n, 3, none⟩ (.int .i64 a) = v' ∧ TkB 34 v' n k ⟨#[]⟩ x a ∧ Below n w v' := by
  obtain ⟨v1, h1, h2, h3, h4, h5⟩ := h.t.put02 k x
  have r1 : TkB 34 v1 n 0 ⟨#[]⟩ 0 0 := ⟨(h5 n (by omega)).trans h.r.blk⟩
  obtain ⟨v', g1, g2, g3, -, -⟩ := r1.put k ⟨#[]⟩ x a
  exact ⟨v1, v', h1, h2, r1, g1, g2, (h.bel.trans (h3.mono (by omega))).trans g3⟩
set_option maxRecDepth 100000 in
set_option maxHeartbeats 4000000 in
theorem rnext_any (s : ByteArray) (a : Nat) (hs : s.size ≤ 100000) (ha : a < s.size) (hE : endB (rst s a) = false) (w : World) :
    Calls Tryd.prog 29 #[.string s, .int .i64 a] w fun e w' => e = .returned (RNx s a) ∧ Below w.heap.size w w' := by
  obtain ⟨n, hn⟩ : ∃ z, w.heap.size = z := ⟨_, rfl⟩
  obtain ⟨w1, hw1, T1, y1, z1⟩ := tk_start 34 w n hn 0 ⟨#[]⟩ 0 0
  obtain ⟨w2, hw2, T2, y2, z2⟩ := tk_start 34 w1 (n + 1) z1 0 ⟨#[]⟩ 0 a
  have W2 : Hid (Two w n (n + 1) a w2) := ⟨T1.all y2, T2, by rw [hn] at y1; exact y1.trans (y2.mono (by omega))⟩
  have HN := Lib.hid hn
  have WD := rword_any s a hs ha w2
  have hzl := word_le (rst s a)
  have hrl := rst_len s a
  have NP := num_parts s a ha
  have NP' : numN (rst s a) = if (dgtU s[a] || decide (((s[a]).toNat : Int) = 37) || (decide (((s[a]).toNat : Int) = 36) && decide (0 < partN (rst s (a + 1))))) = true then 1 + partN (rst s (a + 1)) else 0 := NP
  obtain ⟨R, hR⟩ : ∃ R, RNx s a = R := ⟨_, rfl⟩
  have R1 : Hid (∀ k t x z, nxt (rst s a) = .tok k t x z → R = .tuple #[.agg #[.int .i64 k, .string (sOf t), .int .i64 x, .int .i64 a], .int .i64 ((a + z : Nat) : Int), .int .i64 0]) := fun k t x z h => by rw [← hR]; unfold RNx; rw [h]
  have R2 : Hid (∀ c, nxt (rst s a) = .bad c → R = .tuple #[.agg #[.int .i64 0, .string (sOf []), .int .i64 0, .int .i64 a], .int .i64 0, .int .i64 c]) := fun c h => by rw [← hR]; unfold RNx; rw [h]
  rw [hR]
  have eW : s.extract a (a + wordN (rst s a)) = sOf ((rst s a).take (wordN (rst s a))) := sOf_ext s a _
  obtain ⟨z, hz⟩ : ∃ z, wordN (rst s a) = z := ⟨_, rfl⟩
  rw [hz] at WD hzl eW
  clear NP hR T1 T2 y1 y2
  by_cases hz0 : 0 < z
  · have N := Lib.hid (R1.out _ _ _ _ (nx_word hE (by rw [hz]; exact hz0)))
    obtain ⟨j, hj⟩ : ∃ j, a + z = j := ⟨_, rfl⟩
    have haj : a < j := by omega
    have hjs : j ≤ s.size := by omega
    rw [hj] at WD eW
    have NR : Hid (R = .tuple #[.agg #[.int .i64 1, .string (sOf ((rst s a).take z)), .int .i64 0, .int .i64 a], .int .i64 (j : Int), .int .i64 0]) := by
      show R = _
      rw [N.out, hz, hj]
    obtain ⟨T, hT⟩ : ∃ T, sOf ((rst s a).take z) = T := ⟨_, rfl⟩
    rw [hT] at eW NR
    have W1 := Lib.hid WD
    clear N R1 R2 NP' hT hz hz0 hzl hrl hj WD
    go_enter Tryd.func29, Tryd.ntmps29
    go_wp2_with fail
    refine W1.out.mono ?_
    rintro e w3 ⟨rfl, hb⟩
    have W3 := W2.out.all hb
    obtain ⟨v1, v', hv1, t1, r1, hv', t2, b2⟩ := two_text W3 (by omega) 1 T
    obtain ⟨g0, g1, g2, g3, -⟩ := t2.cells
    obtain ⟨h0, h1, h2, h3, hf⟩ := t1.cells
    obtain ⟨q0, q1, q2, q3, qf⟩ := r1.cells
    obtain ⟨m0, m1, m2, m3, mf⟩ := W3.t.cells
    obtain ⟨p0, p1, p2, p3, pf⟩ := W3.r.cells
    have F : Hid (Below w.heap.size w v') := by rw [HN.out]; exact b2
    clear t1 r1 t2 b2 W3 hb W2 W1
    go_wp2
    refine bodyPost_ret (v := R) ?_ rfl ⟨rfl, F.out⟩
    rw [NR.out]
    simp [results, Tryd.results29, go_sem, g0, g1, g2, g3]
  · have hz1 : z = 0 := by omega
    subst hz1
    rw [Nat.add_zero] at WD
    have W1 := Lib.hid WD
    have RU0 := fun w => rrun_any s (a + 1) hs ha w
    obtain ⟨pn, hpn⟩ : ∃ pn, partN (rst s (a + 1)) = pn := ⟨_, rfl⟩
    obtain ⟨j, hj⟩ : ∃ j, a + 1 + pn = j := ⟨_, rfl⟩
    rw [hpn] at RU0 NP'
    rw [hj] at RU0
    have RU1 : ∀ w, Calls Tryd.prog 51 #[.string s, .int .i64 ((a : Int) + 1)] w fun e w' => e = .returned (.int .i64 (j : Int)) ∧ w = w' := RU0
    have RU := Lib.hid RU1
    have hpl := part_le (rst s (a + 1))
    rw [hpn, rst_len] at hpl
    have hjs : j ≤ s.size := by omega
    have hja : a + 1 ≤ j := by omega
    have hcc := rst_cons s a ha
    have hW0 := Lib.hid hz
    obtain ⟨dg, hdg⟩ : ∃ dg, dgtU s[a] = dg := ⟨_, rfl⟩
    have DG0 := fun w => rdigit16_any s[a] w
    rw [hdg] at DG0 NP'
    have DG := Lib.hid DG0
    have HCC := Lib.hid hcc
    have HJ := Lib.hid hj
    have NUM : (dg = true ∨ (dg = false ∧ ((s[a].toNat : Int) == 37) = true) ∨ (dg = false ∧ ((s[a].toNat : Int) == 37) = false ∧ ((s[a].toNat : Int) == 36) = true ∧ a + 1 < j)) ∧ numN (rst s a) = 1 + pn ∨
        ((dg = false ∧ ((s[a].toNat : Int) == 37) = false ∧ ((s[a].toNat : Int) == 36) = true ∧ j = a + 1) ∨ (dg = false ∧ ((s[a].toNat : Int) == 37) = false ∧ ((s[a].toNat : Int) == 36) = false)) ∧ numN (rst s a) = 0 := by
      cases dg
      · by_cases h37 : (s[a].toNat : Int) = 37
        · exact .inl ⟨.inr (.inl ⟨rfl, by rw [h37]; rfl⟩), by rw [NP', if_pos]; rw [decide_eq_true h37]; rfl⟩
        · by_cases h36 : (s[a].toNat : Int) = 36
          · by_cases hp : 0 < pn
            · exact .inl ⟨.inr (.inr ⟨rfl, beq_eq_false_iff_ne.2 h37, by rw [h36]; rfl, by omega⟩), by rw [NP', if_pos]; rw [decide_eq_true h36, decide_eq_true hp]; simp⟩
            · exact .inr ⟨.inl ⟨rfl, beq_eq_false_iff_ne.2 h37, by rw [h36]; rfl, by omega⟩, by rw [NP', if_neg]; rw [decide_eq_false h37, decide_eq_false hp]; simp⟩
          · exact .inr ⟨.inr ⟨rfl, beq_eq_false_iff_ne.2 h37, beq_eq_false_iff_ne.2 h36⟩, by rw [NP', if_neg]; rw [decide_eq_false h37, decide_eq_false h36]; simp⟩
      · exact .inl ⟨.inl rfl, by rw [NP', if_pos]; rfl⟩
    clear NP' hpn hpl hz hzl eW WD RU0 RU1 DG0 hdg hcc hz0 hrl hj
    rcases NUM with ⟨AL, hnum⟩ | ⟨AL, hnum⟩
    · have hnp : 0 < numN (rst s a) := by omega
      have X := nx_num hE hW0.out hnp
      have eN : s.extract a j = sOf ((rst s a).take (numN (rst s a))) := by
        have := sOf_ext s a (numN (rst s a))
        rw [hnum, show a + (1 + pn) = j by have := HJ.out; omega] at this
        rw [hnum]
        exact this
      have hja2 : a + numN (rst s a) = j := by have := HJ.out; omega
      obtain ⟨u, hu⟩ : ∃ u, sOf ((rst s a).take (numN (rst s a))) = u := ⟨_, rfl⟩
      rw [hu] at eN X
      have hul : u.size ≤ 2 ^ 63 - 1 := by rw [← eN]; exact Nat.le_trans (extract_le s a j) (by omega)
      have PV := Lib.hid (fun w => rparseV_any u hul w)
      cases hp : parO u with
      | none =>
        rw [hp] at X
        have NR := Lib.hid (R2.out 3 X)
        have k2 : parOk u = false := by unfold parOk; rw [hp]; rfl
        clear X R1 R2 hp hu hul hnum hnp hja2
        rcases AL with rfl | ⟨rfl, c1⟩ | ⟨rfl, c1, c2, c3⟩
        all_goals
          go_enter Tryd.func29, Tryd.ntmps29
          go_wp2_with fail
          refine W1.out.mono ?_
          rintro e w3 ⟨rfl, hb⟩
          have W3 := Lib.hid (W2.out.all hb)
          clear hb W2 W1
          go_wp2_with fail
          refine (RU.out w3).mono ?_
          rintro e w4 ⟨rfl, rfl⟩
          go_wp2_with fail
          refine (DG.out w3).mono ?_
          rintro e w4 ⟨rfl, rfl⟩
          go_wp2_with fail
          refine (PV.out w3).mono ?_
          rintro e w4 ⟨rfl, rfl⟩
          obtain ⟨v', hv', t2, b2⟩ := two_bad W3.out (by omega)
          obtain ⟨g0, g1, g2, g3, -⟩ := t2.cells
          obtain ⟨m0, m1, m2, m3, mf⟩ := W3.out.t.cells
          obtain ⟨p0, p1, p2, p3, pf⟩ := W3.out.r.cells
          have F : Hid (Below w.heap.size w v') := by rw [HN.out]; exact b2
          clear t2 b2 W3
          go_wp2
          refine bodyPost_ret (v := R) ?_ rfl ⟨rfl, F.out⟩
          rw [NR.out]
          simp [results, Tryd.results29, go_sem, g0, g1, g2, g3]
          rfl
      | some x =>
        rw [hp] at X
        have N0 := R1.out _ _ _ _ X
        rw [hja2] at N0
        have NR := Lib.hid N0
        have k2 : parOk u = true := by unfold parOk; rw [hp]; rfl
        have k3 : parV u = x := by unfold parV; rw [hp]; rfl
        rw [k3] at PV
        clear X R1 R2 hp hu hul hnum hnp hja2 N0 k3
        rcases AL with rfl | ⟨rfl, c1⟩ | ⟨rfl, c1, c2, c3⟩
        all_goals
          go_enter Tryd.func29, Tryd.ntmps29
          go_wp2_with fail
          refine W1.out.mono ?_
          rintro e w3 ⟨rfl, hb⟩
          have W3 := Lib.hid (W2.out.all hb)
          clear hb W2 W1
          go_wp2_with fail
          refine (RU.out w3).mono ?_
          rintro e w4 ⟨rfl, rfl⟩
          go_wp2_with fail
          refine (DG.out w3).mono ?_
          rintro e w4 ⟨rfl, rfl⟩
          go_wp2_with fail
          refine (PV.out w3).mono ?_
          rintro e w4 ⟨rfl, rfl⟩
          obtain ⟨v1, v', hv1, t1, r1, hv', t2, b2⟩ := two_num W3.out (by omega) 2 x
          obtain ⟨g0, g1, g2, g3, -⟩ := t2.cells
          obtain ⟨h0, h1, h2, h3, hf⟩ := t1.cells
          obtain ⟨q0, q1, q2, q3, qf⟩ := r1.cells
          obtain ⟨m0, m1, m2, m3, mf⟩ := W3.out.t.cells
          obtain ⟨p0, p1, p2, p3, pf⟩ := W3.out.r.cells
          have F : Hid (Below w.heap.size w v') := by rw [HN.out]; exact b2
          clear t1 r1 t2 b2 W3
          go_wp2
          refine bodyPost_ret (v := R) ?_ rfl ⟨rfl, F.out⟩
          rw [NR.out]
          simp [results, Tryd.results29, go_sem, g0, g1, g2, g3]
          rfl
    · by_cases hmk : s[a] = 34 ∨ s[a] = 39
      · have X := nx_quo (m := s[a]) (r := rst s (a + 1)) (by rw [← HCC.out]; exact hE) (by rw [← HCC.out]; exact hW0.out) (by rw [← HCC.out]; exact hnum) hmk
        rw [← HCC.out] at X
        have QQ0 := fun w => rquoted_any s a hs ha w
        unfold RQ at QQ0
        have k34 := beq_u8 s[a] 34
        have k39 := beq_u8 s[a] 39
        have MK : ((s[a].toNat : Int) == 34) = true ∨ ((s[a].toNat : Int) == 34) = false ∧ ((s[a].toNat : Int) == 39) = true := by
          rcases hmk with h | h
          · exact .inl (k34.trans (decide_eq_true h))
          · exact .inr ⟨k34.trans (by rw [h]; rfl), k39.trans (decide_eq_true h)⟩
        clear k34 k39 hmk
        cases hq : quoN s[a] (rst s (a + 1)) with
        | none =>
          rw [hq] at X QQ0
          have NR := Lib.hid (R2.out 3 X)
          have QQ := Lib.hid QQ0
          clear X R1 R2 hq QQ0 hnum
          rcases AL with ⟨rfl, c1, c2, c3⟩ | ⟨rfl, c1, c2⟩
          all_goals
            rcases MK with d1 | ⟨d1, d2⟩
            all_goals
              go_enter Tryd.func29, Tryd.ntmps29
              go_wp2_with fail
              refine W1.out.mono ?_
              rintro e w3 ⟨rfl, hb⟩
              have W3 := Lib.hid (W2.out.all hb)
              clear hb W2 W1
              go_wp2_with fail
              refine (RU.out w3).mono ?_
              rintro e w4 ⟨rfl, rfl⟩
              go_wp2_with fail
              refine (DG.out w3).mono ?_
              rintro e w4 ⟨rfl, rfl⟩
              go_wp2_with fail
              refine (QQ.out w3).mono ?_
              rintro e w4 ⟨rfl, rfl⟩
              obtain ⟨v', hv', t2, b2⟩ := two_bad W3.out (by omega)
              obtain ⟨g0, g1, g2, g3, -⟩ := t2.cells
              obtain ⟨m0, m1, m2, m3, mf⟩ := W3.out.t.cells
              obtain ⟨p0, p1, p2, p3, pf⟩ := W3.out.r.cells
              have F : Hid (Below w.heap.size w v') := by rw [HN.out]; exact b2
              clear t2 b2 W3
              go_wp2
              refine bodyPost_ret (v := R) ?_ rfl ⟨rfl, F.out⟩
              rw [NR.out]
              simp [results, Tryd.results29, go_sem, g0, g1, g2, g3]
              rfl
        | some x =>
          rw [hq] at X QQ0
          have N0 := R1.out _ _ _ _ X
          obtain ⟨j2, hj2⟩ : ∃ j2, a + 1 + x.2 = j2 := ⟨_, rfl⟩
          rw [show a + (x.2 + 1) = j2 by omega] at N0
          have QQ1 : ∀ w, Calls Tryd.prog 54 #[.string s, .int .i64 a] w fun e w' => e = .returned (.tuple #[.string (sOf x.1), .int .i64 (j2 : Int)]) ∧ w = w' := by rw [← hj2]; exact QQ0
          have NR := Lib.hid N0
          have QQ := Lib.hid QQ1
          obtain ⟨T, hT⟩ : ∃ T, sOf x.1 = T := ⟨_, rfl⟩
          rw [hT] at NR QQ
          clear X R1 R2 hq QQ0 QQ1 N0 hnum hT hj2
          rcases AL with ⟨rfl, c1, c2, c3⟩ | ⟨rfl, c1, c2⟩
          all_goals
            rcases MK with d1 | ⟨d1, d2⟩
            all_goals
              go_enter Tryd.func29, Tryd.ntmps29
              go_wp2_with fail
              refine W1.out.mono ?_
              rintro e w3 ⟨rfl, hb⟩
              have W3 := Lib.hid (W2.out.all hb)
              clear hb W2 W1
              go_wp2_with fail
              refine (RU.out w3).mono ?_
              rintro e w4 ⟨rfl, rfl⟩
              go_wp2_with fail
              refine (DG.out w3).mono ?_
              rintro e w4 ⟨rfl, rfl⟩
              go_wp2_with fail
              refine (QQ.out w3).mono ?_
              rintro e w4 ⟨rfl, rfl⟩
              obtain ⟨v1, v', hv1, t1, r1, hv', t2, b2⟩ := two_text W3.out (by omega) 3 T
              obtain ⟨g0, g1, g2, g3, -⟩ := t2.cells
              obtain ⟨h0, h1, h2, h3, hf⟩ := t1.cells
              obtain ⟨q0, q1, q2, q3, qf⟩ := r1.cells
              obtain ⟨m0, m1, m2, m3, mf⟩ := W3.out.t.cells
              obtain ⟨p0, p1, p2, p3, pf⟩ := W3.out.r.cells
              have F : Hid (Below w.heap.size w v') := by rw [HN.out]; exact b2
              clear t1 r1 t2 b2 W3
              go_wp2
              refine bodyPost_ret (v := R) ?_ rfl ⟨rfl, F.out⟩
              rw [NR.out]
              simp [results, Tryd.results29, go_sem, g0, g1, g2, g3]
      · have hmb : mkB (rst s a) = false := by
          rw [HCC.out]
          unfold mkB
          simp
          exact ⟨fun h => hmk (.inl h), fun h => hmk (.inr h)⟩
        have X := nx_sign hE hW0.out hnum hmb
        have d1 : ((s[a].toNat : Int) == 34) = false := (beq_u8 s[a] 34).trans (decide_eq_false fun h => hmk (.inl h))
        have d2 : ((s[a].toNat : Int) == 39) = false := (beq_u8 s[a] 39).trans (decide_eq_false fun h => hmk (.inr h))
        have SG0 := fun w => rsign16_any s a hs ha w
        unfold sgnN at SG0
        cases hq : signO (rst s a) with
        | none =>
          rw [hq] at X SG0
          have NR := Lib.hid (R2.out 20 X)
          have SG := Lib.hid SG0
          clear X R1 R2 hq SG0 hnum hmb hmk
          rcases AL with ⟨rfl, c1, c2, c3⟩ | ⟨rfl, c1, c2⟩
          all_goals
            go_enter Tryd.func29, Tryd.ntmps29
            go_wp2_with fail
            refine W1.out.mono ?_
            rintro e w3 ⟨rfl, hb⟩
            have W3 := Lib.hid (W2.out.all hb)
            clear hb W2 W1
            go_wp2_with fail
            refine (RU.out w3).mono ?_
            rintro e w4 ⟨rfl, rfl⟩
            go_wp2_with fail
            refine (DG.out w3).mono ?_
            rintro e w4 ⟨rfl, rfl⟩
            go_wp2_with fail
            refine (SG.out w3).mono ?_
            rintro e w4 ⟨rfl, hb⟩
            have W3 := Lib.hid (W3.out.all hb)
            clear hb
            obtain ⟨v', hv', t2, b2⟩ := two_bad W3.out (by omega)
            obtain ⟨g0, g1, g2, g3, -⟩ := t2.cells
            obtain ⟨m0, m1, m2, m3, mf⟩ := W3.out.t.cells
            obtain ⟨p0, p1, p2, p3, pf⟩ := W3.out.r.cells
            have F : Hid (Below w.heap.size w v') := by rw [HN.out]; exact b2
            clear t2 b2 W3
            go_wp2
            refine bodyPost_ret (v := R) ?_ rfl ⟨rfl, F.out⟩
            rw [NR.out]
            simp [results, Tryd.results29, go_sem, g0, g1, g2, g3]
            rfl
        | some x =>
          rw [hq] at X SG0
          have N0 := R1.out _ _ _ _ X
          have hxp := sign_pos hq
          obtain ⟨r', hr'⟩ := sign_pre hq
          have hxl := congrArg List.length hr'
          rw [rst_len, List.length_append] at hxl
          have ex : s.extract a (a + x.length) = sOf x := by rw [sOf_ext]; show sOf ((rst s a).take x.length) = _; rw [hr', List.take_left]
          obtain ⟨q, hqq⟩ : ∃ q, x.length = q := ⟨_, rfl⟩
          rw [hqq] at hxp hxl ex N0
          have SG1 : ∀ w, Calls Tryd.prog 55 #[.string s, .int .i64 a] w fun e w' => e = .returned (.int .i64 (q : Int)) ∧ Below w.heap.size w w' := by rw [← hqq]; exact SG0
          have NR := Lib.hid N0
          have SG := Lib.hid SG1
          obtain ⟨T, hT⟩ : ∃ T, sOf x = T := ⟨_, rfl⟩
          rw [hT] at NR ex
          have hfit : a + q ≤ s.size := by omega
          have kq : ((q : Int) == 0) = false := beq_eq_false_iff_ne.2 (by omega)
          clear X R1 R2 hq SG0 SG1 N0 hnum hmb hmk hT hxl hr' hqq
          rcases AL with ⟨rfl, c1, c2, c3⟩ | ⟨rfl, c1, c2⟩
          all_goals
            go_enter Tryd.func29, Tryd.ntmps29
            go_wp2_with fail
            refine W1.out.mono ?_
            rintro e w3 ⟨rfl, hb⟩
            have W3 := Lib.hid (W2.out.all hb)
            clear hb W2 W1
            go_wp2_with fail
            refine (RU.out w3).mono ?_
            rintro e w4 ⟨rfl, rfl⟩
            go_wp2_with fail
            refine (DG.out w3).mono ?_
            rintro e w4 ⟨rfl, rfl⟩
            go_wp2_with fail
            refine (SG.out w3).mono ?_
            rintro e w4 ⟨rfl, hb⟩
            have W3 := Lib.hid (W3.out.all hb)
            clear hb
            obtain ⟨v1, v', hv1, t1, r1, hv', t2, b2⟩ := two_text W3.out (by omega) 4 T
            obtain ⟨g0, g1, g2, g3, -⟩ := t2.cells
            obtain ⟨h0, h1, h2, h3, hf⟩ := t1.cells
            obtain ⟨q0, q1, q2, q3, qf⟩ := r1.cells
            obtain ⟨m0, m1, m2, m3, mf⟩ := W3.out.t.cells
            obtain ⟨p0, p1, p2, p3, pf⟩ := W3.out.r.cells
            have F : Hid (Below w.heap.size w v') := by rw [HN.out]; exact b2
            clear t1 r1 t2 b2 W3
            go_wp2
            refine bodyPost_ret (v := R) ?_ rfl ⟨rfl, F.out⟩
            rw [NR.out]
            simp [results, Tryd.results29, go_sem, g0, g1, g2, g3]
end Go.Proofs.YtcmcikcagpkocaaDoor
