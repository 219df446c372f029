/-
  OperandOnce, for all operands: valid operands of the same kind with the same form are equal, and each name denotes its operand; the law returns true, and its arguments read as they did.
  Conditions: none.
-/
import Derived.Test.YtbcbhdhhinopaaaDoorOpP
import Derived.Test.YtbcbhdhhinopaaaDoorOpQ
import Derived.Test.YtbcbhdhhinopaaaDoorMixG
import Derived.Test.YtbcbhdhhinopaaaDoorCards
import Derived.Test.YtbcbhdhhinopaaaDoorTie
import Derived.ProofKit
import Derived.OpenShut
import Derived.Lay
import Derived.LaidOnce
import Derived.SevenTiedAt
import Derived.Below
namespace Go.Proofs.YtbcbhdhhinopaaaDoor.operandOnceDone
open Go.ChangeShapes Go.WideShapes Go.ChangeAt Go.RowKit
open Go.ChangeMaps (open_string shut_string)
set_option linter.unusedVariables false

theorem own : ownKnob Tryd.prog.godebug = none := by kernel_rfl
theorem laidOut : laidOutB Tryd.prog = true := by kernel_rfl
/-- A slice of integers that came in: nil, or a row of 'cap' cells that hold the numbers 'zs'. -/
def IsRow (k : IntKind) (w : World) (a : Option Addr) (len cap : Nat) (zs : List Int) : Prop :=
  (a = none ∧ len = 0 ∧ cap = 0 ∧ zs = []) ∨
  ∃ x, a = some x ∧ len ≤ cap ∧ cap ≤ maxLen ∧ zs.length = cap ∧ (∀ i, i < zs.length → w.cell? (x.add i) = some (.int k (zs.getD i 0))) ∧ ∀ n ∈ zs, (Lit.int k n).wf = true

theorem txt_size (k r n : Int) : (txtS k r n).size ≤ maxLen := by
  cases hv : vldB k r n
  · rw [txt_no k r n hv]; decide
  · have hk := vld_kind k r n hv
    have q : ∀ j : Fin 11, (nmS j.val r).size ≤ 50 := fun j => nmS_le j r
    have q1 := q 1
    have q2 := q 2
    have q3 := q 3
    have q4 := q 4
    have q5 := q 5
    have q8 := q 8
    have q9 := q 9
    have z1 := offS_le n
    have z2 := offS_le (n + 2)
    have z3 := textS_le n
    have br : ∀ s : ByteArray, (brS s).size = 1 + s.size + 1 := fun s => by unfold brS; rw [ByteArray.size_append, ByteArray.size_append]; rfl
    unfold maxLen
    rw [txt_yes k r n hv]
    rcases hk with rfl | rfl | rfl | rfl | rfl | rfl | rfl | rfl | rfl | rfl
    · show (nmS 1 r).size ≤ _; exact Nat.le_trans q1 (by decide)
    · show (nmS 2 r).size ≤ _; exact Nat.le_trans q2 (by decide)
    · show (nmS 3 r).size ≤ _; exact Nat.le_trans q3 (by decide)
    · show (brS (nmS 4 r)).size ≤ _; rw [br]; have : (nmS 4 r).size ≤ 50 := q4; omega
    · show (brS (nmS 5 r ++ offS n)).size ≤ _; rw [br, ByteArray.size_append]; have : (nmS 5 r).size ≤ 50 := q5; omega
    · show (if n < 0 then offS n else textS n).size ≤ _; split <;> omega
    · show (brS (textS n)).size ≤ _; rw [br]; omega
    · show (nmS 8 r).size ≤ _; exact Nat.le_trans q8 (by decide)
    · show (nmS 9 r).size ≤ _; exact Nat.le_trans q9 (by decide)
    · show (⟨#[36]⟩ ++ offS (n + 2)).size ≤ _; rw [ByteArray.size_append]; show 1 + _ ≤ _; omega
theorem namedL_le (s : ByteArray) : (namedL s).length ≤ maxLen := by
  have h1 := selL_le (upB s) nmAll
  have h2 : nmAll.length ≤ 40 := nmP_le 5 (by omega)
  unfold namedL maxLen
  omega
theorem nmdB_cases (k : Int) : k = 1 ∨ k = 2 ∨ k = 3 ∨ k = 8 ∨ k = 9 ∨ ((k == 1) = false ∧ (k == 2) = false ∧ (k == 3) = false ∧ (k == 8) = false ∧ (k == 9) = false) := by
  by_cases h : k = 1 ∨ k = 2 ∨ k = 3 ∨ k = 8 ∨ k = 9
  · omega
  · refine .inr (.inr (.inr (.inr (.inr ⟨?_, ?_, ?_, ?_, ?_⟩)))) <;> exact beq_eq_false_iff_ne.2 (by omega)
theorem nmdB_no {k : Int} (h : (k == 1) = false ∧ (k == 2) = false ∧ (k == 3) = false ∧ (k == 8) = false ∧ (k == 9) = false) : nmdB k = false := by
  obtain ⟨h1, h2, h3, h4, h5⟩ := h
  unfold nmdB; rw [h1, h2, h3, h4, h5]; rfl
theorem vv_bool {a b : Bool} (h : a = b) : Value.bool a = Value.bool b := by rw [h]
theorem same_yes (s : ByteArray) : (s.toList == s.toList) = true := beq_self_eq_true _
theorem same_no {s t : ByteArray} (h : s ≠ t) : (s.toList == t.toList) = false := beq_eq_false_iff_ne.2 fun e => h (by
  rw [ByteArray.toList_eq, ByteArray.toList_eq] at e
  exact ba_list e)
attribute [local irreducible] Go.Mixed.wpMix
set_option maxRecDepth 100000 in
set_option maxHeartbeats 8000000 in
theorem walk (k r n k' r' n' : Int) (w : World) :
    Calls Tryd.prog 5 #[.agg #[.int .i64 k, .int .i64 r, .int .i64 n], .agg #[.int .i64 k', .int .i64 r', .int .i64 n']] w fun e w' => e = .returned (.bool true) ∧ Below w.heap.size w w' := by
  have V1 := Lib.hid (rvalid_any k r n)
  have V2 := Lib.hid (rvalid_any k' r' n')
  have hb1 : Below w.heap.size w (w.alloc (.cells #[.int .i64 k, .int .i64 r, .int .i64 n] 23)) := (Below.refl _ _).alloc (Nat.le_refl _) _
  have hx1 := Box.new w k r n 23
  have hb2 : Below (w.alloc (.cells #[.int .i64 k, .int .i64 r, .int .i64 n] 23)).heap.size (w.alloc (.cells #[.int .i64 k, .int .i64 r, .int .i64 n] 23)) ((w.alloc (.cells #[.int .i64 k, .int .i64 r, .int .i64 n] 23)).alloc (.cells #[.int .i64 k', .int .i64 r', .int .i64 n'] 23)) := (Below.refl _ _).alloc (Nat.le_refl _) _
  have hx2 := Box.new (w.alloc (.cells #[.int .i64 k, .int .i64 r, .int .i64 n] 23)) k' r' n' 23
  have X0 : Hid (Box ((w.alloc (.cells #[.int .i64 k, .int .i64 r, .int .i64 n] 23)).alloc (.cells #[.int .i64 k', .int .i64 r', .int .i64 n'] 23)) w.heap.size k r n ∧ Box ((w.alloc (.cells #[.int .i64 k, .int .i64 r, .int .i64 n] 23)).alloc (.cells #[.int .i64 k', .int .i64 r', .int .i64 n'] 23)) (w.heap.size + 1) k' r' n') := ⟨hx1.below hb2, by have h := hx2; simp only [World.size_alloc] at h; exact h⟩
  have N0 := Lib.hid (hb1.trans (hb2.mono hb1.size))
  clear hb1 hb2 hx1 hx2
  cases h1 : vldB k r n
  · rw [h1] at V1
    clear h1
    go_enter Tryd.func5, Tryd.ntmps5
    go_wp2_with fail
    refine (V1.out _).mono ?_
    rintro e w1 ⟨rfl, hh⟩
    have N1 := Lib.hid (N0.out.trans (hh.mono N0.out.size))
    clear hh
    go_wp2_with fail
    refine (alive_any _).mono ?_
    rintro e w2 ⟨rfl, hh⟩
    have N2 := Lib.hid (N1.out.trans (hh.mono N1.out.size))
    clear hh
    go_wp2
    go_ret
    exact ⟨rfl, N2.out⟩
  have OK := once_ok k r n h1
  have INJ := Lib.hid (txt_inj k r n r' n' h1)
  rw [h1] at V1
  clear h1
  cases h2 : vldB k' r' n'
  · rw [h2] at V2
    clear h2 OK
    go_enter Tryd.func5, Tryd.ntmps5
    go_wp2_with fail
    refine (V1.out _).mono ?_
    rintro e w1 ⟨rfl, hh⟩
    have N1 := Lib.hid (N0.out.trans (hh.mono N0.out.size))
    have X1 : Hid (Box w1 w.heap.size k r n ∧ Box w1 (w.heap.size + 1) k' r' n') := ⟨X0.out.1.below hh, X0.out.2.below hh⟩
    obtain ⟨⟨a0, a1, a2⟩, b0, b1, b2⟩ := X1.out
    clear hh
    go_wp2_with fail
    refine (V2.out _).mono ?_
    rintro e w2 ⟨rfl, hh⟩
    have N2 := Lib.hid (N1.out.trans (hh.mono N1.out.size))
    clear hh a0 a1 a2 b0 b1 b2
    go_wp2_with fail
    refine (alive_any _).mono ?_
    rintro e w3 ⟨rfl, hh⟩
    have N3 := Lib.hid (N2.out.trans (hh.mono N2.out.size))
    clear hh
    go_wp2
    go_ret
    exact ⟨rfl, N3.out⟩
  have INJ2 : Hid (k = k' → txtS k r n = txtS k' r' n' → r = r' ∧ n = n') := fun hk he => by
    subst hk
    exact INJ.out h2 he
  rw [h2] at V2
  clear h2 INJ
  have T1 := Lib.hid (otext_any k r n)
  have T2 := Lib.hid (otext_any k' r' n')
  have NM := Lib.hid (named_any (txtS k r n) (txt_size k r n))
  have LE := namedL_le (txtS k r n)
  obtain ⟨s, hs⟩ : ∃ s, txtS k r n = s := ⟨_, rfl⟩
  have HS := Lib.hid hs
  unfold OnceOk at OK
  rw [hs] at T1 NM LE OK
  obtain ⟨L, hL⟩ : ∃ L, namedL s = L := ⟨_, rfl⟩
  rw [hL] at NM LE OK
  obtain ⟨ok1, ok2⟩ := OK
  have O1 := Lib.hid ok1
  have O2 := Lib.hid ok2
  clear hs hL ok1 ok2
  go_enter Tryd.func5, Tryd.ntmps5
  go_wp2_with fail
  refine (V1.out _).mono ?_
  rintro e w1 ⟨rfl, hh⟩
  have N1 := Lib.hid (N0.out.trans (hh.mono N0.out.size))
  have X1 : Hid (Box w1 w.heap.size k r n ∧ Box w1 (w.heap.size + 1) k' r' n') := ⟨X0.out.1.below hh, X0.out.2.below hh⟩
  obtain ⟨⟨a0, a1, a2⟩, b0, b1, b2⟩ := X1.out
  clear hh X0 N0 V1
  go_wp2_with fail
  refine (V2.out _).mono ?_
  rintro e w2 ⟨rfl, hh⟩
  have N2 := Lib.hid (N1.out.trans (hh.mono N1.out.size))
  have X2 : Hid (Box w2 w.heap.size k r n ∧ Box w2 (w.heap.size + 1) k' r' n') := ⟨X1.out.1.below hh, X1.out.2.below hh⟩
  clear hh a0 a1 a2 b0 b1 b2 X1 N1 V2
  obtain ⟨⟨a0, a1, a2⟩, -⟩ := X2.out
  go_wp2_with fail
  refine (T1.out _).mono ?_
  rintro e w3 ⟨rfl, hh⟩
  have N3 := Lib.hid (N2.out.trans (hh.mono N2.out.size))
  have X3 : Hid (Box w3 w.heap.size k r n ∧ Box w3 (w.heap.size + 1) k' r' n') := ⟨X2.out.1.below hh, X2.out.2.below hh⟩
  clear hh a0 a1 a2 X2 N2 T1
  go_wp2_with fail
  refine (NM.out _).mono ?_
  rintro e w4 ⟨A, cap, rfl, hO, hh⟩
  have N4 := Lib.hid (N3.out.trans (hh.mono N3.out.size))
  have X4 : Hid (Box w4 w.heap.size k r n ∧ Box w4 (w.heap.size + 1) k' r' n') := ⟨X3.out.1.below hh, X3.out.2.below hh⟩
  have O4 := Lib.hid hO
  clear hh X3 N3 NM hO
  obtain ⟨m, hm⟩ : ∃ m, L.length = m := ⟨_, rfl⟩
  have HM := Lib.hid hm
  rw [hm]
  clear hm
  go_upto_region 5 with fail
  obtain ⟨⟨a0, a1, a2⟩, -⟩ := X4.out
  go_cut [7] (fun t wx => t = .bool (nmdB k) ∧ w4 = wx)
  case first =>
    have hk := nmdB_cases k
    rcases hk with rfl | rfl | rfl | rfl | rfl | hk
    · go_wp2
      go_meet
      exact ⟨vv_bool rfl, rfl⟩
    · go_wp2
      go_meet
      exact ⟨vv_bool rfl, rfl⟩
    · go_wp2
      go_meet
      exact ⟨vv_bool rfl, rfl⟩
    · go_wp2
      go_meet
      exact ⟨vv_bool rfl, rfl⟩
    · go_wp2
      go_meet
      exact ⟨vv_bool rfl, rfl⟩
    · have T := Lib.hid (nmdB_no hk)
      obtain ⟨g1, g2, g3, g4, g5⟩ := hk
      go_wp2
      go_meet
      exact ⟨vv_bool T.out.symm, rfl⟩
  case rest =>
    obtain ⟨rfl, rfl⟩ := hcut
    have CT := containsO_any A cap L LE (k, r, n) w4 O4.out
    rw [O1.out, HM.out] at CT
    obtain ⟨nb, hnb⟩ : ∃ nb, nmdB k = nb := ⟨_, rfl⟩
    rw [hnb] at CT ⊢
    have CTH := Lib.hid CT
    have LE2 : m ≤ maxLen := by rw [← HM.out]; exact LE
    unfold maxLen at LE2
    clear LE CT hnb O1
    go_upto_region 6 with fail
    go_cut [57] (fun t wx => t = .bool false ∧ Below w4.heap.size w4 wx)
    case first =>
      by_cases hl : 1 < m
      · have hsc : s = ⟨#[67]⟩ := O2.out (by rw [HM.out]; exact hl)
        subst hsc
        have hl' : (1 : Int) < (m : Int) := by omega
        clear O2 HS INJ2
        go_wp2_with fail
        refine CTH.out.mono ?_
        rintro e w5 ⟨rfl, hh⟩
        have H5 := Lib.hid hh
        clear hh a0 a1 a2
        cases nb
        all_goals
          go_wp2
          go_meet
          exact ⟨vv_bool rfl, H5.out⟩
      · have hl' : decide ((1 : Int) < (m : Int)) = false := decide_eq_false (by omega)
        clear O2 HS INJ2
        go_wp2_with fail
        refine CTH.out.mono ?_
        rintro e w5 ⟨rfl, hh⟩
        have H5 := Lib.hid hh
        clear hh a0 a1 a2
        cases nb
        all_goals
          go_wp2
          go_meet
          exact ⟨vv_bool rfl, H5.out⟩
    case rest =>
      obtain ⟨rfl, hh⟩ := hcut
      have N5 := Lib.hid (N4.out.trans (hh.mono N4.out.size))
      have P5 : Hid (Box wc w.heap.size k r n ∧ Box wc (w.heap.size + 1) k' r' n') := ⟨X4.out.1.below hh, X4.out.2.below hh⟩
      clear hh a0 a1 a2 X4 N4 CTH O4 O2
      by_cases hk : k = k'
      · subst hk
        by_cases hr : r = r'
        · subst hr
          by_cases hn : n = n'
          · subst hn
            rw [HS.out] at T2
            have q1 := same_yes s
            clear INJ2 HS
            go_wp2
            refine Mixed.wp_region_mixed (fun w' => Box w' w.heap.size k r n ∧ Box w' (w.heap.size + 1) k r n) 18 [(0, false), (1, true), (2, true), (3, true), (4, true), (5, true), (6, true), (7, true), (8, true), (9, true), (12, true), (13, true), (14, true), (10, false), (11, true), (15, true), (16, true), (17, true)] (by kernel_rfl) (by kernel_rfl) ⟨P5.out.1.below (Below.refl _ _).drew, P5.out.2.below (Below.refl _ _).drew⟩ ?_
            refine Mixed.wpMix_loudG rfl (by kernel_rfl) ?_
            go_wp2_with fail
            refine (alive_any _).mono ?_
            rintro e w6 ⟨rfl, h6⟩
            have h6' : Below wc.heap.size wc w6 := (below_drewN wc _ 1).trans h6
            have P6 : Hid (Box w6 w.heap.size k r n ∧ Box w6 (w.heap.size + 1) k r n) := ⟨P5.out.1.below h6', P5.out.2.below h6'⟩
            have N6 := Lib.hid (N5.out.trans (h6'.mono N5.out.size))
            have xx := P6.out
            clear h6 h6' N5 P5
            go_wp2
            refine ⟨xx, ?_⟩
            clear xx
            refine Mixed.wpMix_move rfl (by kernel_rfl) _ rfl _ rfl ?_
            refine Mixed.wpMix_pure rfl (by kernel_rfl) (.pointer (some ⟨w.heap.size, 0, none⟩)) (fun w h => by clear h; go_simp; try rfl) ?_
            refine Mixed.wpMix_pure rfl (by kernel_rfl) (.int .i64 k) (fun w h => by obtain ⟨⟨a0, a1, a2⟩, b0, b1, b2⟩ := h; go_simp; try rfl) ?_
            refine Mixed.wpMix_pure rfl (by kernel_rfl) (.pointer (some ⟨w.heap.size + 1, 0, none⟩)) (fun w h => by clear h; go_simp; try rfl) ?_
            refine Mixed.wpMix_pure rfl (by kernel_rfl) (.int .i64 k) (fun w h => by obtain ⟨⟨a0, a1, a2⟩, b0, b1, b2⟩ := h; go_simp; try rfl) ?_
            refine Mixed.wpMix_pure rfl (by kernel_rfl) (.bool false) (fun w h => by clear h; go_simp; try rfl) ?_
            refine Mixed.wpMix_move rfl (by kernel_rfl) _ rfl _ rfl ?_
            refine Mixed.wpMix_move rfl (by kernel_rfl) _ rfl _ rfl ?_
            refine Mixed.wpMix_pure rfl (by kernel_rfl) (.agg #[.int .i64 k, .int .i64 r, .int .i64 n]) (fun w h => by obtain ⟨⟨a0, a1, a2⟩, b0, b1, b2⟩ := h; go_simp; try rfl) ?_
            refine Mixed.wpMix_pure rfl (by kernel_rfl) (.agg #[.int .i64 k, .int .i64 r, .int .i64 n]) (fun w h => by obtain ⟨⟨a0, a1, a2⟩, b0, b1, b2⟩ := h; go_simp; try rfl) ?_
            refine Mixed.wpMix_pure rfl (by kernel_rfl) (.agg #[.int .i64 k, .int .i64 r, .int .i64 n]) (fun w h => by obtain ⟨⟨a0, a1, a2⟩, b0, b1, b2⟩ := h; go_simp; try rfl) ?_
            refine Mixed.wpMix_pure rfl (by kernel_rfl) (.bool true) (fun w h => by clear h; go_simp; try rfl) ?_
            refine Mixed.wpMix_loudG rfl (by kernel_rfl) ?_
            go_wp2_with fail
            refine (T2.out _).mono ?_
            rintro e w7 ⟨rfl, h7⟩
            have P7 : Hid (Box w7 w.heap.size k r n ∧ Box w7 (w.heap.size + 1) k r n) := ⟨P6.out.1.below h7, P6.out.2.below h7⟩
            have N7 := Lib.hid (N6.out.trans (h7.mono N6.out.size))
            have xx := P7.out
            clear h7 N6 P6
            go_wp2
            refine ⟨xx, ?_⟩
            clear xx
            refine Mixed.wpMix_pure rfl (by kernel_rfl) (.bool true) (fun w h => by clear h; go_simp; try rfl) ?_
            refine Mixed.wpMix_pure rfl (by kernel_rfl) (.bool true) (fun w h => by clear h; go_simp; try rfl) ?_
            refine Mixed.wpMix_pure rfl (by kernel_rfl) (.bool true) (fun w h => by clear h; go_simp; try rfl) ?_
            refine Mixed.wpMix_pure rfl (by kernel_rfl) (.bool true) (fun w h => by clear h; go_simp; try rfl) ?_
            simp only [Mixed.wpMix, List.drop_succ_cons, List.drop_zero]
            go_wp2
            go_ret
            exact ⟨rfl, N7.out⟩
          · have hne : s ≠ txtS k r n' := fun e => hn (INJ2.out rfl (HS.out.trans e)).2
            have q1 := same_no hne
            obtain ⟨s2, hs2⟩ : ∃ s2, txtS k r n' = s2 := ⟨_, rfl⟩
            rw [hs2] at T2 q1
            clear INJ2 HS hne hs2
            go_wp2
            refine Mixed.wp_region_mixed (fun w' => Box w' w.heap.size k r n ∧ Box w' (w.heap.size + 1) k r n') 18 [(0, false), (1, true), (2, true), (3, true), (4, true), (5, true), (6, true), (7, true), (8, true), (9, true), (12, true), (13, true), (14, true), (10, false), (11, true), (15, true), (16, true), (17, true)] (by kernel_rfl) (by kernel_rfl) ⟨P5.out.1.below (Below.refl _ _).drew, P5.out.2.below (Below.refl _ _).drew⟩ ?_
            refine Mixed.wpMix_loudG rfl (by kernel_rfl) ?_
            go_wp2_with fail
            refine (alive_any _).mono ?_
            rintro e w6 ⟨rfl, h6⟩
            have h6' : Below wc.heap.size wc w6 := (below_drewN wc _ 1).trans h6
            have P6 : Hid (Box w6 w.heap.size k r n ∧ Box w6 (w.heap.size + 1) k r n') := ⟨P5.out.1.below h6', P5.out.2.below h6'⟩
            have N6 := Lib.hid (N5.out.trans (h6'.mono N5.out.size))
            have xx := P6.out
            clear h6 h6' N5 P5
            go_wp2
            refine ⟨xx, ?_⟩
            clear xx
            refine Mixed.wpMix_move rfl (by kernel_rfl) _ rfl _ rfl ?_
            refine Mixed.wpMix_pure rfl (by kernel_rfl) (.pointer (some ⟨w.heap.size, 0, none⟩)) (fun w h => by clear h; go_simp; try rfl) ?_
            refine Mixed.wpMix_pure rfl (by kernel_rfl) (.int .i64 k) (fun w h => by obtain ⟨⟨a0, a1, a2⟩, b0, b1, b2⟩ := h; go_simp; try rfl) ?_
            refine Mixed.wpMix_pure rfl (by kernel_rfl) (.pointer (some ⟨w.heap.size + 1, 0, none⟩)) (fun w h => by clear h; go_simp; try rfl) ?_
            refine Mixed.wpMix_pure rfl (by kernel_rfl) (.int .i64 k) (fun w h => by obtain ⟨⟨a0, a1, a2⟩, b0, b1, b2⟩ := h; go_simp; try rfl) ?_
            refine Mixed.wpMix_pure rfl (by kernel_rfl) (.bool false) (fun w h => by clear h; go_simp; try rfl) ?_
            refine Mixed.wpMix_move rfl (by kernel_rfl) _ rfl _ rfl ?_
            refine Mixed.wpMix_move rfl (by kernel_rfl) _ rfl _ rfl ?_
            refine Mixed.wpMix_pure rfl (by kernel_rfl) (.agg #[.int .i64 k, .int .i64 r, .int .i64 n']) (fun w h => by obtain ⟨⟨a0, a1, a2⟩, b0, b1, b2⟩ := h; go_simp; try rfl) ?_
            refine Mixed.wpMix_pure rfl (by kernel_rfl) (.agg #[.int .i64 k, .int .i64 r, .int .i64 n]) (fun w h => by obtain ⟨⟨a0, a1, a2⟩, b0, b1, b2⟩ := h; go_simp; try rfl) ?_
            refine Mixed.wpMix_pure rfl (by kernel_rfl) (.agg #[.int .i64 k, .int .i64 r, .int .i64 n']) (fun w h => by obtain ⟨⟨a0, a1, a2⟩, b0, b1, b2⟩ := h; go_simp; try rfl) ?_
            refine Mixed.wpMix_pure rfl (by kernel_rfl) (.bool false) (fun w h => by clear h; go_simp; try rfl) ?_
            refine Mixed.wpMix_loudG rfl (by kernel_rfl) ?_
            go_wp2_with fail
            refine (T2.out _).mono ?_
            rintro e w7 ⟨rfl, h7⟩
            have P7 : Hid (Box w7 w.heap.size k r n ∧ Box w7 (w.heap.size + 1) k r n') := ⟨P6.out.1.below h7, P6.out.2.below h7⟩
            have N7 := Lib.hid (N6.out.trans (h7.mono N6.out.size))
            have xx := P7.out
            clear h7 N6 P6
            go_wp2
            refine ⟨xx, ?_⟩
            clear xx
            refine Mixed.wpMix_pure rfl (by kernel_rfl) (.bool false) (fun w h => by clear h; go_simp; try rfl) ?_
            refine Mixed.wpMix_pure rfl (by kernel_rfl) (.bool true) (fun w h => by clear h; go_simp; try rfl) ?_
            refine Mixed.wpMix_pure rfl (by kernel_rfl) (.bool true) (fun w h => by clear h; go_simp; try rfl) ?_
            refine Mixed.wpMix_pure rfl (by kernel_rfl) (.bool true) (fun w h => by clear h; go_simp; try rfl) ?_
            simp only [Mixed.wpMix, List.drop_succ_cons, List.drop_zero]
            go_wp2
            go_ret
            exact ⟨rfl, N7.out⟩
        · have hne : s ≠ txtS k r' n' := fun e => hr (INJ2.out rfl (HS.out.trans e)).1
          have q1 := same_no hne
          obtain ⟨s2, hs2⟩ : ∃ s2, txtS k r' n' = s2 := ⟨_, rfl⟩
          rw [hs2] at T2 q1
          clear INJ2 HS hne hs2
          go_wp2
          refine Mixed.wp_region_mixed (fun w' => Box w' w.heap.size k r n ∧ Box w' (w.heap.size + 1) k r' n') 18 [(0, false), (1, true), (2, true), (3, true), (4, true), (5, true), (6, true), (7, true), (8, true), (9, true), (12, true), (13, true), (14, true), (10, false), (11, true), (15, true), (16, true), (17, true)] (by kernel_rfl) (by kernel_rfl) ⟨P5.out.1.below (Below.refl _ _).drew, P5.out.2.below (Below.refl _ _).drew⟩ ?_
          refine Mixed.wpMix_loudG rfl (by kernel_rfl) ?_
          go_wp2_with fail
          refine (alive_any _).mono ?_
          rintro e w6 ⟨rfl, h6⟩
          have h6' : Below wc.heap.size wc w6 := (below_drewN wc _ 1).trans h6
          have P6 : Hid (Box w6 w.heap.size k r n ∧ Box w6 (w.heap.size + 1) k r' n') := ⟨P5.out.1.below h6', P5.out.2.below h6'⟩
          have N6 := Lib.hid (N5.out.trans (h6'.mono N5.out.size))
          have xx := P6.out
          clear h6 h6' N5 P5
          go_wp2
          refine ⟨xx, ?_⟩
          clear xx
          refine Mixed.wpMix_move rfl (by kernel_rfl) _ rfl _ rfl ?_
          refine Mixed.wpMix_pure rfl (by kernel_rfl) (.pointer (some ⟨w.heap.size, 0, none⟩)) (fun w h => by clear h; go_simp; try rfl) ?_
          refine Mixed.wpMix_pure rfl (by kernel_rfl) (.int .i64 k) (fun w h => by obtain ⟨⟨a0, a1, a2⟩, b0, b1, b2⟩ := h; go_simp; try rfl) ?_
          refine Mixed.wpMix_pure rfl (by kernel_rfl) (.pointer (some ⟨w.heap.size + 1, 0, none⟩)) (fun w h => by clear h; go_simp; try rfl) ?_
          refine Mixed.wpMix_pure rfl (by kernel_rfl) (.int .i64 k) (fun w h => by obtain ⟨⟨a0, a1, a2⟩, b0, b1, b2⟩ := h; go_simp; try rfl) ?_
          refine Mixed.wpMix_pure rfl (by kernel_rfl) (.bool false) (fun w h => by clear h; go_simp; try rfl) ?_
          refine Mixed.wpMix_move rfl (by kernel_rfl) _ rfl _ rfl ?_
          refine Mixed.wpMix_move rfl (by kernel_rfl) _ rfl _ rfl ?_
          refine Mixed.wpMix_pure rfl (by kernel_rfl) (.agg #[.int .i64 k, .int .i64 r', .int .i64 n']) (fun w h => by obtain ⟨⟨a0, a1, a2⟩, b0, b1, b2⟩ := h; go_simp; try rfl) ?_
          refine Mixed.wpMix_pure rfl (by kernel_rfl) (.agg #[.int .i64 k, .int .i64 r, .int .i64 n]) (fun w h => by obtain ⟨⟨a0, a1, a2⟩, b0, b1, b2⟩ := h; go_simp; try rfl) ?_
          refine Mixed.wpMix_pure rfl (by kernel_rfl) (.agg #[.int .i64 k, .int .i64 r', .int .i64 n']) (fun w h => by obtain ⟨⟨a0, a1, a2⟩, b0, b1, b2⟩ := h; go_simp; try rfl) ?_
          refine Mixed.wpMix_pure rfl (by kernel_rfl) (.bool false) (fun w h => by clear h; go_simp; try rfl) ?_
          refine Mixed.wpMix_loudG rfl (by kernel_rfl) ?_
          go_wp2_with fail
          refine (T2.out _).mono ?_
          rintro e w7 ⟨rfl, h7⟩
          have P7 : Hid (Box w7 w.heap.size k r n ∧ Box w7 (w.heap.size + 1) k r' n') := ⟨P6.out.1.below h7, P6.out.2.below h7⟩
          have N7 := Lib.hid (N6.out.trans (h7.mono N6.out.size))
          have xx := P7.out
          clear h7 N6 P6
          go_wp2
          refine ⟨xx, ?_⟩
          clear xx
          refine Mixed.wpMix_pure rfl (by kernel_rfl) (.bool false) (fun w h => by clear h; go_simp; try rfl) ?_
          refine Mixed.wpMix_pure rfl (by kernel_rfl) (.bool true) (fun w h => by clear h; go_simp; try rfl) ?_
          refine Mixed.wpMix_pure rfl (by kernel_rfl) (.bool true) (fun w h => by clear h; go_simp; try rfl) ?_
          refine Mixed.wpMix_pure rfl (by kernel_rfl) (.bool true) (fun w h => by clear h; go_simp; try rfl) ?_
          simp only [Mixed.wpMix, List.drop_succ_cons, List.drop_zero]
          go_wp2
          go_ret
          exact ⟨rfl, N7.out⟩
      · have q1 : (k == k') = false := beq_eq_false_iff_ne.2 hk
        have q2 : (k != k') = true := by rw [bne, q1]; rfl
        clear INJ2 HS
        go_wp2
        refine Mixed.wp_region_mixed (fun w' => Box w' w.heap.size k r n ∧ Box w' (w.heap.size + 1) k' r' n') 18 [(0, false), (1, true), (2, true), (3, true), (4, true), (5, true), (6, true), (7, true), (8, true), (9, true), (12, true), (13, true), (14, true), (10, false), (11, true), (15, true), (16, true), (17, true)] (by kernel_rfl) (by kernel_rfl) ⟨P5.out.1.below (Below.refl _ _).drew, P5.out.2.below (Below.refl _ _).drew⟩ ?_
        refine Mixed.wpMix_loudG rfl (by kernel_rfl) ?_
        go_wp2_with fail
        refine (alive_any _).mono ?_
        rintro e w6 ⟨rfl, h6⟩
        have h6' : Below wc.heap.size wc w6 := (below_drewN wc _ 1).trans h6
        have P6 : Hid (Box w6 w.heap.size k r n ∧ Box w6 (w.heap.size + 1) k' r' n') := ⟨P5.out.1.below h6', P5.out.2.below h6'⟩
        have N6 := Lib.hid (N5.out.trans (h6'.mono N5.out.size))
        have xx := P6.out
        clear h6 h6' N5 P5
        go_wp2
        refine ⟨xx, ?_⟩
        clear xx
        refine Mixed.wpMix_move rfl (by kernel_rfl) _ rfl _ rfl ?_
        refine Mixed.wpMix_pure rfl (by kernel_rfl) (.pointer (some ⟨w.heap.size, 0, none⟩)) (fun w h => by clear h; go_simp; try rfl) ?_
        refine Mixed.wpMix_pure rfl (by kernel_rfl) (.int .i64 k) (fun w h => by obtain ⟨⟨a0, a1, a2⟩, b0, b1, b2⟩ := h; go_simp; try rfl) ?_
        refine Mixed.wpMix_pure rfl (by kernel_rfl) (.pointer (some ⟨w.heap.size + 1, 0, none⟩)) (fun w h => by clear h; go_simp; try rfl) ?_
        refine Mixed.wpMix_pure rfl (by kernel_rfl) (.int .i64 k') (fun w h => by obtain ⟨⟨a0, a1, a2⟩, b0, b1, b2⟩ := h; go_simp; try rfl) ?_
        refine Mixed.wpMix_pure rfl (by kernel_rfl) (.bool true) (fun w h => by clear h; go_simp; try rfl) ?_
        refine Mixed.wpMix_move rfl (by kernel_rfl) _ rfl _ rfl ?_
        refine Mixed.wpMix_skip rfl (by kernel_rfl) ?_
        refine Mixed.wpMix_skip rfl (by kernel_rfl) ?_
        refine Mixed.wpMix_skip rfl (by kernel_rfl) ?_
        refine Mixed.wpMix_skip rfl (by kernel_rfl) ?_
        refine Mixed.wpMix_skip rfl (by kernel_rfl) ?_
        refine Mixed.wpMix_skipL rfl (by kernel_rfl) P6.out ?_
        refine Mixed.wpMix_skip rfl (by kernel_rfl) ?_
        refine Mixed.wpMix_skip rfl (by kernel_rfl) ?_
        refine Mixed.wpMix_pure rfl (by kernel_rfl) (.bool true) (fun w h => by clear h; go_simp; try rfl) ?_
        refine Mixed.wpMix_pure rfl (by kernel_rfl) (.bool true) (fun w h => by clear h; go_simp; try rfl) ?_
        simp only [Mixed.wpMix, List.drop_succ_cons, List.drop_zero]
        go_wp2
        go_ret
        exact ⟨rfl, N6.out⟩

set_option maxRecDepth 100000 in
theorem lifted (os : Os) (started : os.Started) (H : Type) (enc : TypeId × Value → H) :
    ReturnsInHanded {} Tryd.checked os 5 .any (fun w args => (Rows.operandOnceSpec.pre enc Tryd.prog Tryd.f5 [] false w args ∧ laidMetH Tryd.prog Rows.operandOnceRow.laid w) ∧ sizedMet enc Tryd.prog Tryd.f5 (OpenSpec.ofChange Rows.operandOnceSpec) false w args)
      (Rows.operandOnceSpec.post enc Tryd.prog Tryd.f5 false true false false) := by
  refine returnsInHanded_of_change_and (C := Tryd.checked) (X := fun w _ => laidMetH Tryd.prog Rows.operandOnceRow.laid w) (fun _ _ _ hh h => h.of_heap hh) own started (by kernel_rfl) Tryd.func5
    (ChangeSpec.witness_shaped (enc := enc) (C := Tryd.checked) (os := os) (X := fun w _ => laidMetH Tryd.prog Rows.operandOnceRow.laid w) false (World.laidAll Tryd.prog os Rows.operandOnceRow.laid) #[.agg #[.int .i64 0, .int .i64 0, .int .i64 0], .agg #[.int .i64 0, .int .i64 0, .int .i64 0]] 8 (World.laidAll_os _ _ _)
      (World.shaped_of_ZipB (by kernel_rfl) (by kernel_rfl)) (by kernel_rfl) (by kernel_rfl) (by kernel_rfl)
      (by rw [MakeChecks.laidMetH_plain _ _ _ (by kernel_rfl)]; exact laidMet_laidAll _ (by kernel_rfl) (by kernel_rfl))) ?_
  intro W base args ds gs before hval0 hW _ _ hL _
  have hval : ∀ (j : Nat) t v, Tryd.f5.params[j]? = some t → args[j]? = some v → Value.okWide Tryd.prog W .any base t v := hval0
  have hW' := hW
  obtain ⟨p, q, hA0, hV, rfl, _, _⟩ := hW
  have hA : DataW.TrodAll enc Tryd.prog W 0 (fun _ => true) true Tryd.f5.params.toList args.toList ds p := hA0
  rw [Tryd.params5] at hA hval
  obtain ⟨v0, vs0, d0, ds0, p0, q0, hargs, rfl, rfl, h0, r0⟩ := trodAll_cons hA
  obtain ⟨v1, vs1, d1, ds1, p1, q1, rfl, rfl, rfl, h1, r1⟩ := trodAll_cons r0
  obtain ⟨rfl, rfl, rfl⟩ := trodAll_nil r1
  obtain rfl : args = #[v0, v1] := by cases args; simp_all
  obtain ⟨rfl, rfl⟩ := trodVars_none hV
  have k0 := h0
  have lt0 : ∀ x ∈ p0, x.block < W.heap.size := by obtain ⟨m, hm⟩ := k0; exact DataW.trod_lt m _ _ _ hm
  obtain ⟨a0, b0, c0, rfl⟩ := open_opd (hval 0 23 v0 rfl rfl) h0
  have k1 := h1
  have lt1 : ∀ x ∈ p1, x.block < W.heap.size := by obtain ⟨m, hm⟩ := k1; exact DataW.trod_lt m _ _ _ hm
  obtain ⟨a1, b1, c1, rfl⟩ := open_opd (hval 1 23 v1 rfl rfl) h1
  clear hA0 hval0
  refine (walk a0 b0 c0 a1 b1 c1 W ).mono fun e W' ⟨he, bel⟩ => ?_
  subst he
  exact ⟨_, rfl, _, _, _, [], _, [], hW', trodAll_mk1 (shut_bool Tryd.underlying4 _), (trodAll_cons_mk (Below.trod laidOut (by kernel_rfl) (of_decide_eq_true (by kernel_rfl)) k0 bel lt0) (trodAll_cons_mk (Below.trod laidOut (by kernel_rfl) (of_decide_eq_true (by kernel_rfl)) k1 bel lt1) trodAll_mk0)), rfl, bel.frame _, fun h => by cases h⟩

theorem over : Rows.OperandOnceSaid :=
  OpenClaim.holds_of_wide 5 Tryd.f5 rfl rfl rfl rfl rfl rfl rfl ⟨rfl, rfl, rfl, rfl, rfl⟩ rfl rfl rfl rfl rfl (by kernel_rfl) Tryd.func5 (by kernel_rfl)
    (of_decide_eq_true (by kernel_rfl)) (by unfold Func.isWrapper; first | (rw [if_pos (by decide +kernel)]; kernel_rfl) | (rw [if_neg (by decide +kernel)]; exact ⟨rfl, rfl⟩))
    (fun os started H enc _ => lifted os started H enc)
theorem card_holds : Rows.OperandOnceCardSaid :=
  Claim7.holds_tied_plain_at .later [] [.data, .pinned] true Rows.operandOnceCard.stood.harness false over (fun _ h => by cases h) (by kernel_rfl) (fun _ h => by cases h) operandOnce_row_tie rfl ⟨rfl, rfl⟩ (by kernel_rfl) rfl
    (fun f fn hf hfn => by
      obtain rfl : f = 5 := Option.some.inj ((show Tryd.prog.funcNamed "breadboard/breadboardlaw06.OperandOnce" = some 5 by kernel_rfl).symm.trans hf) |>.symm
      obtain rfl : fn = Tryd.f5 := (Option.some.inj (Tryd.func5.symm.trans hfn)).symm
      exact ⟨by kernel_rfl, fun j t ht => by
        rw [Tryd.params5] at ht
        have hm : t ∈ [23, 23] := by simpa [or_assoc, or_comm, or_left_comm] using Array.mem_of_getElem? ht
        have hall : ([23, 23].all fun u => !Tryd.prog.wantsStandIn u) = true := by kernel_rfl
        exact (show Tryd.prog.wantsStandIn t = false by simpa using List.all_eq_true.1 hall t hm)⟩)
    (by kernel_rfl)
#print axioms card_holds
end Go.Proofs.YtbcbhdhhinopaaaDoor.operandOnceDone
