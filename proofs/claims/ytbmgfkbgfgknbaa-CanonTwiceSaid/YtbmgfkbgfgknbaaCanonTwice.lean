/-
  CanonTwice, for all instructions: the canonical form of a canonical form is the same, with the same width and mnemonic; the law returns true, and its argument reads as it did.
  Conditions: none.
-/
import Derived.Test.YtbmgfkbgfgknbaaInW
import Derived.Test.YtbmgfkbgfgknbaaCnE
import Derived.Test.YtbmgfkbgfgknbaaCnH
import Derived.Test.YtbmgfkbgfgknbaaCnV
import Derived.Test.YtbmgfkbgfgknbaaMixG
import Derived.Test.YtbmgfkbgfgknbaaRows
import Derived.ProofKit
import Derived.OpenShut
import Derived.Lay
import Derived.LaidOnce
import Derived.SevenTiedAt
import Derived.Below
namespace Go.Proofs.Ytbmgfkbgfgknbaa.canonTwiceDone
open Go.ChangeShapes Go.WideShapes Go.ChangeAt Go.RowKit
open Go.ChangeMaps (open_string shut_string)
set_option linter.unusedVariables false

theorem own : ownKnob Try.prog.godebug = none := by kernel_rfl
theorem laidOut : laidOutB Try.prog = true := by kernel_rfl
/-- A slice of integers that came in: nil, or a row of 'cap' cells that hold the numbers 'zs'. -/
def IsRow (k : IntKind) (w : World) (a : Option Addr) (len cap : Nat) (zs : List Int) : Prop :=
  (a = none ∧ len = 0 ∧ cap = 0 ∧ zs = []) ∨
  ∃ x, a = some x ∧ len ≤ cap ∧ cap ≤ maxLen ∧ zs.length = cap ∧ (∀ i, i < zs.length → w.cell? (x.add i) = some (.int k (zs.getD i 0))) ∧ ∀ n ∈ zs, (Lit.int k n).wf = true

attribute [local irreducible] Go.Mixed.wpMix
set_option maxRecDepth 100000 in
set_option maxHeartbeats 8000000 in
theorem walk (s : ByteArray) (A : Option Addr) (cap : Nat) (L : List Tr) (w : World) (hs : s.size ≤ maxLen) (hL : L.length ≤ maxLen) (H : OpsP w A L) :
    Calls Try.prog 3 #[.agg #[.string s, .slice A L.length cap]] w fun e w' => e = .returned (.bool true) ∧ Below w.heap.size w w' := by
  have SH := Lib.hid (fun w' => short_any s hs A cap L.length hL w')
  have T0 := Lib.hid (Bx.new w s A L.length cap 24)
  have B0 : Hid (Below w.heap.size w (w.alloc (.cells #[.string s, .slice A L.length cap] 24))) := (Below.refl _ _).alloc (Nat.le_refl _) _
  have X0 := Lib.hid (H.below B0.out)
  obtain ⟨b, hb⟩ : ∃ b, (decide (s.size ≤ 100) && decide (L.length ≤ 20)) = b := ⟨_, rfl⟩
  rw [hb] at SH
  cases b with
  | true =>
    have hl20 : L.length ≤ 20 := by
      rw [Bool.and_eq_true, decide_eq_true_eq, decide_eq_true_eq] at hb
      exact hb.2
    have hm21 := canL_len (opc s) L
    have OF1 := Lib.hid (fun w' h => of_any s A cap L (by omega) w' h)
    have OF2 : Hid (∀ A2 c2 w', OpsP w' A2 (canL (opc s) L) → Calls Try.prog 7 #[.agg #[.string s, .slice A2 (canL (opc s) L).length c2]] w' (RetC w' s (canL (opc s) L))) := fun A2 c2 w' h => by
      have h1 := of_any s A2 c2 (canL (opc s) L) (by omega) w' h
      rw [can_can] at h1
      exact h1
    have IS : Hid (∀ A2 c2 w', OpsP w' A2 (canL (opc s) L) → Calls Try.prog 8 #[.agg #[.string s, .slice A2 (canL (opc s) L).length c2]] w' fun e w2 => e = .returned (.bool true) ∧ Below w'.heap.size w' w2) := fun A2 c2 w' h => by
      have h1 := is_any s A2 c2 (canL (opc s) L) (by omega) w' h
      rw [can_can, decide_eq_true rfl] at h1
      exact h1
    have SM : Hid (∀ A1 A2 c1 c2 w', OpsP w' A1 (canL (opc s) L) → OpsP w' A2 (canL (opc s) L) → Calls Try.prog 9 #[.agg #[.string s, .slice A1 (canL (opc s) L).length c1], .agg #[.string s, .slice A2 (canL (opc s) L).length c2]] w' fun e w2 => e = .returned (.bool true) ∧ Below w'.heap.size w' w2) := fun A1 A2 c1 c2 w' h1 h2 => by
      have h3 := isame_any s A1 A2 c1 c2 (canL (opc s) L) (canL (opc s) L) (by omega) (by omega) w' h1 h2
      rw [decide_eq_true rfl] at h3
      exact h3
    have WD : Hid (∀ A2 c2 w', OpsP w' A2 (canL (opc s) L) → Calls Try.prog 10 #[.agg #[.string s, .slice A2 (canL (opc s) L).length c2]] w' fun e w2 => e = .returned (.int .i64 (widL (opc s) L)) ∧ Below w'.heap.size w' w2) := fun A2 c2 w' h => by
      have h1 := width_any s A2 c2 (canL (opc s) L) (by omega) w' h
      rw [widL_can] at h1
      exact h1
    have RW := Lib.hid (fun w' h => rwidth_any s A cap L (by omega) w' h)
    have hcs := widL_cases (opc s) L
    have hqs := strB_eq s
    obtain ⟨x, hx⟩ : ∃ x, widL (opc s) L = x := ⟨_, rfl⟩
    obtain ⟨M, hM⟩ : ∃ M, canL (opc s) L = M := ⟨_, rfl⟩
    obtain ⟨n, hn⟩ : ∃ n, L.length = n := ⟨_, rfl⟩
    obtain ⟨m, hm⟩ : ∃ m, M.length = m := ⟨_, rfl⟩
    rw [hx] at WD RW hcs
    rw [hM] at OF1 OF2 IS SM WD
    rw [hm] at OF2 IS SM WD
    rw [hn] at SH T0 B0 X0 OF1 RW ⊢
    have HM := Lib.hid hm
    clear H hb hx hM hn hm hl20 hm21 hL
    go_enter Try.func3, Try.ntmps3
    go_wp2_with fail
    refine (SH.out _).mono ?_
    rintro e w1 ⟨rfl, hb⟩
    have T1 := Lib.hid (T0.out.all hb)
    have X1 := Lib.hid (X0.out.below hb)
    have B1 := Lib.hid (B0.out.trans (hb.mono B0.out.size))
    clear hb T0 X0 B0 SH
    obtain ⟨t0, t1⟩ := T1.out
    go_wp2_with fail
    refine (OF1.out _ X1.out).mono ?_
    rintro e w2 ⟨v, rfl, hO, hb⟩
    obtain ⟨A2, c2, rfl, hP, -⟩ := hO.ops
    rw [HM.out]
    have hal : ∀ o, Below w2.heap.size w2 (w2.alloc o) := fun o => (Below.refl _ _).alloc (Nat.le_refl _) o
    have T2 := fun o => Lib.hid ((T1.out.all hb).all (hal o))
    have X2 := fun o => Lib.hid ((X1.out.below hb).below (hal o))
    have Y2 := fun o => Lib.hid (hP.below (hal o))
    have B2 := fun o => Lib.hid ((B1.out.trans (hb.mono B1.out.size)).alloc (Nat.le_trans B1.out.size hb.size) o)
    have C2 := Lib.hid (Bx.new w2 s A2 m c2 24)
    clear hb hal hO hP T1 X1 B1 OF1 t0 t1
    go_wp2
    obtain ⟨b3, hb3⟩ : ∃ b3, w2.heap.size = b3 := ⟨_, rfl⟩
    obtain ⟨w3, hw3⟩ : ∃ w3, w2.alloc (.cells #[.string s, .slice A2 m c2] 24) = w3 := ⟨_, rfl⟩
    have T3 : Hid (Bx w3 w.heap.size s A n cap) := by rw [← hw3]; exact (T2 _).out
    have X3 : Hid (OpsP w3 A L) := by rw [← hw3]; exact (X2 _).out
    have Y3 : Hid (OpsP w3 A2 M) := by rw [← hw3]; exact (Y2 _).out
    have B3 : Hid (Below w.heap.size w w3) := by rw [← hw3]; exact (B2 _).out
    have C3 : Hid (Bx w3 b3 s A2 m c2) := by rw [← hw3, ← hb3]; exact C2.out
    rw [hw3, hb3]
    clear hw3 hb3 T2 X2 Y2 B2 C2
    have I3 : Hid (Bx w3.drew w.heap.size s A n cap ∧ Bx w3.drew b3 s A2 m c2) := ⟨T3.out, C3.out⟩
    refine Mixed.wp_region_mixed (fun w' => Bx w' w.heap.size s A n cap ∧ Bx w' b3 s A2 m c2) 25 [(0, false), (1, true), (2, true), (3, false), (4, true), (5, true), (6, true), (8, true), (7, false), (9, false), (10, true), (11, true), (12, true), (14, true), (13, false), (15, false), (16, true), (17, true), (18, true), (19, true), (20, true), (21, true), (22, true), (23, true), (24, true)] (by kernel_rfl) (by kernel_rfl) I3.out ?_
    clear I3
    obtain ⟨w4, hw4⟩ : ∃ w4, w3.drew = w4 := ⟨_, rfl⟩
    have hd : Below w3.heap.size w3 w4 := by rw [← hw4]; exact below_drewN w3 _ 1
    rw [hw4]
    have T4 := Lib.hid (T3.out.all hd)
    have X4 := Lib.hid (X3.out.below hd)
    have Y4 := Lib.hid (Y3.out.below hd)
    have C4 := Lib.hid (C3.out.all hd)
    have B4 := Lib.hid (B3.out.trans (hd.mono B3.out.size))
    clear hd hw4 T3 X3 Y3 C3 B3
    refine Mixed.wpMix_loudG rfl (by kernel_rfl) ?_
    go_wp2_with fail
    refine (alive_any _).mono ?_
    rintro e w5 ⟨rfl, hb⟩
    have T5 := Lib.hid (T4.out.all hb)
    have X5 := Lib.hid (X4.out.below hb)
    have Y5 := Lib.hid (Y4.out.below hb)
    have C5 := Lib.hid (C4.out.all hb)
    have B5 := Lib.hid (B4.out.trans (hb.mono B4.out.size))
    have xx : Bx w5 w.heap.size s A n cap ∧ Bx w5 b3 s A2 m c2 := ⟨T5.out, C5.out⟩
    clear hb T4 X4 Y4 C4 B4
    go_wp2
    refine ⟨xx, ?_⟩
    clear xx
    refine Mixed.wpMix_pure rfl (by kernel_rfl) (.bool true) (fun w h => by clear h; go_simp; try rfl) ?_
    refine Mixed.wpMix_pure rfl (by kernel_rfl) (.agg #[.string s, .slice A2 m c2]) (fun w h => by obtain ⟨⟨h1, h2⟩, h3, h4⟩ := h; go_simp; try rfl) ?_
    refine Mixed.wpMix_loudG rfl (by kernel_rfl) ?_
    go_wp2_with fail
    refine (IS.out A2 c2 _ Y5.out).mono ?_
    rintro e w6 ⟨rfl, hb⟩
    have T6 := Lib.hid (T5.out.all hb)
    have X6 := Lib.hid (X5.out.below hb)
    have Y6 := Lib.hid (Y5.out.below hb)
    have C6 := Lib.hid (C5.out.all hb)
    have B6 := Lib.hid (B5.out.trans (hb.mono B5.out.size))
    have xx : Bx w6 w.heap.size s A n cap ∧ Bx w6 b3 s A2 m c2 := ⟨T6.out, C6.out⟩
    clear hb T5 X5 Y5 C5 B5
    go_wp2
    refine ⟨xx, ?_⟩
    clear xx
    refine Mixed.wpMix_pure rfl (by kernel_rfl) (.bool true) (fun w h => by clear h; go_simp; try rfl) ?_
    refine Mixed.wpMix_pure rfl (by kernel_rfl) (.bool true) (fun w h => by clear h; go_simp; try rfl) ?_
    refine Mixed.wpMix_pure rfl (by kernel_rfl) (.agg #[.string s, .slice A2 m c2]) (fun w h => by obtain ⟨⟨h1, h2⟩, h3, h4⟩ := h; go_simp; try rfl) ?_
    refine Mixed.wpMix_pure rfl (by kernel_rfl) (.agg #[.string s, .slice A2 m c2]) (fun w h => by obtain ⟨⟨h1, h2⟩, h3, h4⟩ := h; go_simp; try rfl) ?_
    refine Mixed.wpMix_loudG rfl (by kernel_rfl) ?_
    go_wp2_with fail
    refine (OF2.out A2 c2 _ Y6.out).mono ?_
    rintro e w7 ⟨v, rfl, hO, hb⟩
    obtain ⟨A7, c7, rfl, hP, -⟩ := hO.ops
    rw [HM.out]
    have Z7 := Lib.hid hP
    clear hO hP
    have T7 := Lib.hid (T6.out.all hb)
    have X7 := Lib.hid (X6.out.below hb)
    have Y7 := Lib.hid (Y6.out.below hb)
    have C7 := Lib.hid (C6.out.all hb)
    have B7 := Lib.hid (B6.out.trans (hb.mono B6.out.size))
    have xx : Bx w7 w.heap.size s A n cap ∧ Bx w7 b3 s A2 m c2 := ⟨T7.out, C7.out⟩
    clear hb T6 X6 Y6 C6 B6
    go_wp2
    refine ⟨xx, ?_⟩
    clear xx
    refine Mixed.wpMix_loudG rfl (by kernel_rfl) ?_
    go_wp2_with fail
    refine (SM.out A7 A2 c7 c2 _ Z7.out Y7.out).mono ?_
    rintro e w8 ⟨rfl, hb⟩
    have T8 := Lib.hid (T7.out.all hb)
    have X8 := Lib.hid (X7.out.below hb)
    have Y8 := Lib.hid (Y7.out.below hb)
    have C8 := Lib.hid (C7.out.all hb)
    have B8 := Lib.hid (B7.out.trans (hb.mono B7.out.size))
    have xx : Bx w8 w.heap.size s A n cap ∧ Bx w8 b3 s A2 m c2 := ⟨T8.out, C8.out⟩
    clear hb T7 X7 Y7 C7 B7
    go_wp2
    refine ⟨xx, ?_⟩
    clear xx
    refine Mixed.wpMix_pure rfl (by kernel_rfl) (.bool true) (fun w h => by clear h; go_simp; try rfl) ?_
    refine Mixed.wpMix_pure rfl (by kernel_rfl) (.bool true) (fun w h => by clear h; go_simp; try rfl) ?_
    refine Mixed.wpMix_pure rfl (by kernel_rfl) (.agg #[.string s, .slice A2 m c2]) (fun w h => by obtain ⟨⟨h1, h2⟩, h3, h4⟩ := h; go_simp; try rfl) ?_
    refine Mixed.wpMix_pure rfl (by kernel_rfl) (.agg #[.string s, .slice A n cap]) (fun w h => by obtain ⟨⟨h1, h2⟩, h3, h4⟩ := h; go_simp; try rfl) ?_
    refine Mixed.wpMix_loudG rfl (by kernel_rfl) ?_
    go_wp2_with fail
    refine (WD.out A2 c2 _ Y8.out).mono ?_
    rintro e w9 ⟨rfl, hb⟩
    have T9 := Lib.hid (T8.out.all hb)
    have X9 := Lib.hid (X8.out.below hb)
    have Y9 := Lib.hid (Y8.out.below hb)
    have C9 := Lib.hid (C8.out.all hb)
    have B9 := Lib.hid (B8.out.trans (hb.mono B8.out.size))
    have xx : Bx w9 w.heap.size s A n cap ∧ Bx w9 b3 s A2 m c2 := ⟨T9.out, C9.out⟩
    clear hb T8 X8 Y8 C8 B8
    go_wp2
    refine ⟨xx, ?_⟩
    clear xx
    refine Mixed.wpMix_loudG rfl (by kernel_rfl) ?_
    go_wp2_with fail
    refine (RW.out _ X9.out).mono ?_
    rintro e w10 ⟨rfl, hb⟩
    have T10 := Lib.hid (T9.out.all hb)
    have X10 := Lib.hid (X9.out.below hb)
    have Y10 := Lib.hid (Y9.out.below hb)
    have C10 := Lib.hid (C9.out.all hb)
    have B10 := Lib.hid (B9.out.trans (hb.mono B9.out.size))
    have xx : Bx w10 w.heap.size s A n cap ∧ Bx w10 b3 s A2 m c2 := ⟨T10.out, C10.out⟩
    clear hb T9 X9 Y9 C9 B9
    go_wp2
    refine ⟨xx, ?_⟩
    clear xx
    have hxx : (x == x) = true := beq_self_eq_true x
    refine Mixed.wpMix_pure rfl (by kernel_rfl) (.bool true) (fun w h => by clear h; go_simp; try rfl) ?_
    refine Mixed.wpMix_pure rfl (by kernel_rfl) (.bool true) (fun w h => by clear h; go_simp; try rfl) ?_
    refine Mixed.wpMix_pure rfl (by kernel_rfl) (.bool true) (fun w h => by clear h; go_simp; try rfl) ?_
    refine Mixed.wpMix_pure rfl (by kernel_rfl) (.pointer (some ⟨b3, 0, none⟩)) (fun w h => by clear h; go_simp; try rfl) ?_
    refine Mixed.wpMix_pure rfl (by kernel_rfl) (.string s) (fun w h => by obtain ⟨⟨h1, h2⟩, h3, h4⟩ := h; go_simp; try rfl) ?_
    refine Mixed.wpMix_pure rfl (by kernel_rfl) (.pointer (some ⟨w.heap.size, 0, none⟩)) (fun w h => by clear h; go_simp; try rfl) ?_
    refine Mixed.wpMix_pure rfl (by kernel_rfl) (.string s) (fun w h => by obtain ⟨⟨h1, h2⟩, h3, h4⟩ := h; go_simp; try rfl) ?_
    refine Mixed.wpMix_pure rfl (by kernel_rfl) (.bool true) (fun w h => by clear h; go_simp; try rfl) ?_
    refine Mixed.wpMix_pure rfl (by kernel_rfl) (.bool true) (fun w h => by clear h; go_simp; try rfl) ?_
    simp only [Mixed.wpMix, List.drop_succ_cons, List.drop_zero]
    go_wp2
    go_ret
    exact ⟨rfl, B10.out⟩
  | false =>
    obtain ⟨n, hn⟩ : ∃ n, L.length = n := ⟨_, rfl⟩
    rw [hn] at SH T0 B0 ⊢
    clear H hb hn hL X0
    go_enter Try.func3, Try.ntmps3
    go_wp2_with fail
    refine (SH.out _).mono ?_
    rintro e w1 ⟨rfl, hb⟩
    have B1 := Lib.hid (B0.out.trans (hb.mono B0.out.size))
    clear hb T0 B0 SH
    go_wp2_with fail
    refine (alive_any _).mono ?_
    rintro e w2 ⟨rfl, hb⟩
    have B2 := Lib.hid (B1.out.trans (hb.mono B1.out.size))
    clear hb
    go_wp2
    go_ret
    exact ⟨rfl, B2.out⟩

set_option maxRecDepth 100000 in
theorem lifted (os : Os) (started : os.Started) (H : Type) (enc : TypeId × Value → H) :
    ReturnsInHanded {} Try.checked os 3 .any (Rows.canonTwiceSpec.pre6 enc Try.prog Try.f3 Rows.canonTwiceRow.domain false) (Rows.canonTwiceSpec.post enc Try.prog Try.f3 false true false false) := by
  refine returnsInHanded_of_change (C := Try.checked) own started (by kernel_rfl) Try.func3
    (ChangeSpec.witness6 (enc := enc) (C := Try.checked) false ⟨#[], #[.agg #[.string ⟨#[]⟩, .slice none 0 0]], []⟩ 8 (by kernel_rfl) (by kernel_rfl) (by kernel_rfl) (by kernel_rfl)) ?_
  intro W base args ds gs before hval0 hW _ _
  have hval : ∀ (j : Nat) t v, Try.f3.params[j]? = some t → args[j]? = some v → Value.okWide Try.prog W .any base t v := hval0
  have hW' := hW
  obtain ⟨p, q, hA0, hV, rfl, _, _⟩ := hW
  have hA : DataW.TrodAll enc Try.prog W 0 (fun _ => true) true Try.f3.params.toList args.toList ds p := hA0
  rw [Try.params3] at hA hval
  obtain ⟨v0, vs0, d0, ds0, p0, q0, hargs, rfl, rfl, h0, r0⟩ := trodAll_cons hA
  obtain ⟨rfl, rfl, rfl⟩ := trodAll_nil r0
  obtain rfl : args = #[v0] := by cases args; simp_all
  obtain ⟨rfl, rfl⟩ := trodVars_none hV
  have k0 := h0
  have lt0 : ∀ x ∈ p0, x.block < W.heap.size := by obtain ⟨m, hm⟩ := k0; exact DataW.trod_lt m _ _ _ hm
  obtain ⟨s0, a0, cap0, z0, rfl, c0, hm0, w0⟩ := open_ins (hval 0 24 v0 rfl rfl) h0
  clear hA0 hval0
  refine (walk s0 a0 cap0 z0 W c0 hm0 w0).mono fun e W' ⟨he, bel⟩ => ?_
  subst he
  exact ⟨_, rfl, _, _, _, [], _, [], hW', trodAll_mk1 (shut_bool Try.underlying4 _), (trodAll_cons_mk (Below.trod laidOut (by kernel_rfl) (of_decide_eq_true (by kernel_rfl)) k0 bel lt0) trodAll_mk0), rfl, bel.frame _, fun h => by cases h⟩

theorem over : Rows.CanonTwiceSaid :=
  OpenClaim.holds_of_wide 3 Try.f3 rfl rfl rfl rfl rfl rfl rfl ⟨rfl, rfl, rfl, rfl, rfl⟩ rfl rfl rfl rfl rfl (by kernel_rfl) Try.func3 (by kernel_rfl)
    (of_decide_eq_true (by kernel_rfl)) (by unfold Func.isWrapper; first | (rw [if_pos (by decide +kernel)]; kernel_rfl) | (rw [if_neg (by decide +kernel)]; exact ⟨rfl, rfl⟩))
    (fun os started H enc _ => lifted os started H enc)
#print axioms over
end Go.Proofs.Ytbmgfkbgfgknbaa.canonTwiceDone
