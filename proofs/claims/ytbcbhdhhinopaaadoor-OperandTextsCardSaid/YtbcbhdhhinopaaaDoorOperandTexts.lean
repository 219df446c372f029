/-
  OperandTexts, for all operands: Valid and Text return the results of the reference; the law returns true, and its argument reads as it did.
  Conditions: none.
-/
import Derived.Test.YtbcbhdhhinopaaaDoorOpN
import Derived.Test.YtbcbhdhhinopaaaDoorMixG
import Derived.Test.YtbcbhdhhinopaaaDoorCards
import Derived.Test.YtbcbhdhhinopaaaDoorTie
import Derived.ProofKit
import Derived.OpenShut
import Derived.Lay
import Derived.LaidOnce
import Derived.SevenTiedAt
import Derived.Below
namespace Go.Proofs.YtbcbhdhhinopaaaDoor.operandTextsDone
open Go.ChangeShapes Go.WideShapes Go.ChangeAt Go.RowKit
open Go.ChangeMaps (open_string shut_string)
set_option linter.unusedVariables false

theorem own : ownKnob Tryd.prog.godebug = none := by kernel_rfl
theorem laidOut : laidOutB Tryd.prog = true := by kernel_rfl
/-- A slice of integers that came in: nil, or a row of 'cap' cells that hold the numbers 'zs'. -/
def IsRow (k : IntKind) (w : World) (a : Option Addr) (len cap : Nat) (zs : List Int) : Prop :=
  (a = none ∧ len = 0 ∧ cap = 0 ∧ zs = []) ∨
  ∃ x, a = some x ∧ len ≤ cap ∧ cap ≤ maxLen ∧ zs.length = cap ∧ (∀ i, i < zs.length → w.cell? (x.add i) = some (.int k (zs.getD i 0))) ∧ ∀ n ∈ zs, (Lit.int k n).wf = true

attribute [local irreducible] Go.Mixed.wpMix
set_option maxRecDepth 100000 in
set_option maxHeartbeats 4000000 in
theorem walk (k r n : Int) (w : World) :
    Calls Tryd.prog 3 #[.agg #[.int .i64 k, .int .i64 r, .int .i64 n]] w fun e w' => e = .returned (.bool true) ∧ Below w.heap.size w w' := by
  have VV := Lib.hid (valid_any k r n)
  have RV := Lib.hid (rvalid_any k r n)
  have TT := Lib.hid (otext_any k r n)
  have RT := Lib.hid (rtxt_any k r n)
  have hne := txt_ne k r n
  obtain ⟨vb, hvb⟩ : ∃ vb, vldB k r n = vb := ⟨_, rfl⟩
  obtain ⟨s, hs⟩ : ∃ s, txtS k r n = s := ⟨_, rfl⟩
  rw [hvb] at VV RV hne
  rw [hs] at TT RT hne
  clear hvb hs
  have hb : s.toList.isEmpty = !vb := by
    have h : (!s.toList.isEmpty) = vb := hne
    rw [← h]; simp
  clear hne
  have B0 := Box.new w k r n 23
  have N0' : Below w.heap.size w (w.alloc (.cells #[.int .i64 k, .int .i64 r, .int .i64 n] 23)) := (Below.refl _ _).alloc (Nat.le_refl _) _
  have X0 := Lib.hid (B0.below ((Below.refl _ _).drew))
  have N0 := Lib.hid (N0'.trans (below_drewN _ _ 1))
  clear B0 N0'
  go_enter Tryd.func3, Tryd.ntmps3
  go_wp2
  refine Mixed.wp_region_mixed (fun w' => Box w' w.heap.size k r n) 23 [(0, false), (1, true), (2, true), (4, true), (3, false), (5, false), (6, true), (7, true), (8, true), (9, true), (11, true), (10, false), (12, false), (13, true), (14, true), (15, true), (16, true), (19, true), (17, false), (18, true), (20, false), (21, true), (22, true)] (by kernel_rfl) (by kernel_rfl) X0.out ?_
  refine Mixed.wpMix_loudG rfl (by kernel_rfl) ?_
  go_wp2_with fail
  refine (alive_any _).mono ?_
  rintro e w1 ⟨rfl, h1⟩
  have X1 := Lib.hid (X0.out.below h1)
  have N1 := Lib.hid (N0.out.trans (h1.mono N0.out.size))
  have xx := X1.out
  clear h1 X0 N0
  go_wp2
  refine ⟨xx, ?_⟩
  clear xx
  refine Mixed.wpMix_move rfl (by kernel_rfl) _ rfl _ rfl ?_
  refine Mixed.wpMix_pure rfl (by kernel_rfl) (.agg #[.int .i64 k, .int .i64 r, .int .i64 n]) (fun w h => by obtain ⟨h1, h2, h3⟩ := h; go_simp; try rfl) ?_
  refine Mixed.wpMix_pure rfl (by kernel_rfl) (.agg #[.int .i64 k, .int .i64 r, .int .i64 n]) (fun w h => by obtain ⟨h1, h2, h3⟩ := h; go_simp; try rfl) ?_
  refine Mixed.wpMix_loudG rfl (by kernel_rfl) ?_
  go_wp2_with fail
  refine (VV.out _).mono ?_
  rintro e w2 ⟨rfl, h2⟩
  have X2 := Lib.hid (X1.out.below h2)
  have N2 := Lib.hid (N1.out.trans (h2.mono N1.out.size))
  have xx := X2.out
  clear h2 X1 N1
  go_wp2
  refine ⟨xx, ?_⟩
  clear xx
  refine Mixed.wpMix_loudG rfl (by kernel_rfl) ?_
  go_wp2_with fail
  refine (RV.out _).mono ?_
  rintro e w3 ⟨rfl, h3⟩
  have X3 := Lib.hid (X2.out.below h3)
  have N3 := Lib.hid (N2.out.trans (h3.mono N2.out.size))
  have xx := X3.out
  clear h3 X2 N2
  go_wp2
  refine ⟨xx, ?_⟩
  clear xx
  refine Mixed.wpMix_pure rfl (by kernel_rfl) (.bool true) (fun w h => by clear h; go_simp; try rfl) ?_
  refine Mixed.wpMix_pure rfl (by kernel_rfl) (.bool true) (fun w h => by clear h; go_simp; try rfl) ?_
  refine Mixed.wpMix_move rfl (by kernel_rfl) _ rfl _ rfl ?_
  refine Mixed.wpMix_pure rfl (by kernel_rfl) (.agg #[.int .i64 k, .int .i64 r, .int .i64 n]) (fun w h => by obtain ⟨h1, h2, h3⟩ := h; go_simp; try rfl) ?_
  refine Mixed.wpMix_pure rfl (by kernel_rfl) (.agg #[.int .i64 k, .int .i64 r, .int .i64 n]) (fun w h => by obtain ⟨h1, h2, h3⟩ := h; go_simp; try rfl) ?_
  refine Mixed.wpMix_loudG rfl (by kernel_rfl) ?_
  go_wp2_with fail
  refine (TT.out _).mono ?_
  rintro e w4 ⟨rfl, h4⟩
  have X4 := Lib.hid (X3.out.below h4)
  have N4 := Lib.hid (N3.out.trans (h4.mono N3.out.size))
  have xx := X4.out
  clear h4 X3 N3
  go_wp2
  refine ⟨xx, ?_⟩
  clear xx
  refine Mixed.wpMix_loudG rfl (by kernel_rfl) ?_
  go_wp2_with fail
  refine (RT.out _).mono ?_
  rintro e w5 ⟨rfl, h5⟩
  have X5 := Lib.hid (X4.out.below h5)
  have N5 := Lib.hid (N4.out.trans (h5.mono N4.out.size))
  have xx := X5.out
  clear h5 X4 N4
  go_wp2
  refine ⟨xx, ?_⟩
  clear xx
  refine Mixed.wpMix_pure rfl (by kernel_rfl) (.bool true) (fun w h => by clear h; go_simp; try rfl) ?_
  refine Mixed.wpMix_pure rfl (by kernel_rfl) (.bool true) (fun w h => by clear h; go_simp; try rfl) ?_
  refine Mixed.wpMix_move rfl (by kernel_rfl) _ rfl _ rfl ?_
  refine Mixed.wpMix_pure rfl (by kernel_rfl) (.agg #[.int .i64 k, .int .i64 r, .int .i64 n]) (fun w h => by obtain ⟨h1, h2, h3⟩ := h; go_simp; try rfl) ?_
  refine Mixed.wpMix_pure rfl (by kernel_rfl) (.agg #[.int .i64 k, .int .i64 r, .int .i64 n]) (fun w h => by obtain ⟨h1, h2, h3⟩ := h; go_simp; try rfl) ?_
  refine Mixed.wpMix_loudG rfl (by kernel_rfl) ?_
  go_wp2_with fail
  refine (TT.out _).mono ?_
  rintro e w6 ⟨rfl, h6⟩
  have X6 := Lib.hid (X5.out.below h6)
  have N6 := Lib.hid (N5.out.trans (h6.mono N5.out.size))
  have xx := X6.out
  clear h6 X5 N5
  go_wp2
  refine ⟨xx, ?_⟩
  clear xx
  refine Mixed.wpMix_pure rfl (by kernel_rfl) (.bool vb) (fun w h => by clear h; go_simp; try rfl) ?_
  refine Mixed.wpMix_loudG rfl (by kernel_rfl) ?_
  go_wp2_with fail
  refine (VV.out _).mono ?_
  rintro e w7 ⟨rfl, h7⟩
  have X7 := Lib.hid (X6.out.below h7)
  have N7 := Lib.hid (N6.out.trans (h7.mono N6.out.size))
  have xx := X7.out
  clear h7 X6 N6
  go_wp2
  refine ⟨xx, ?_⟩
  clear xx
  refine Mixed.wpMix_pure rfl (by kernel_rfl) (.bool true) (fun w h => by clear h; go_simp; try rfl) ?_
  refine Mixed.wpMix_pure rfl (by kernel_rfl) (.bool true) (fun w h => by clear h; go_simp; try rfl) ?_
  simp only [Mixed.wpMix, List.drop_succ_cons, List.drop_zero]
  go_wp2
  go_ret
  exact ⟨rfl, N7.out⟩

set_option maxRecDepth 100000 in
theorem lifted (os : Os) (started : os.Started) (H : Type) (enc : TypeId × Value → H) :
    ReturnsInHanded {} Tryd.checked os 3 .any (fun w args => (Rows.operandTextsSpec.pre enc Tryd.prog Tryd.f3 [] false w args ∧ laidMetH Tryd.prog Rows.operandTextsRow.laid w) ∧ sizedMet enc Tryd.prog Tryd.f3 (OpenSpec.ofChange Rows.operandTextsSpec) false w args)
      (Rows.operandTextsSpec.post enc Tryd.prog Tryd.f3 false true false false) := by
  refine returnsInHanded_of_change_and (C := Tryd.checked) (X := fun w _ => laidMetH Tryd.prog Rows.operandTextsRow.laid w) (fun _ _ _ hh h => h.of_heap hh) own started (by kernel_rfl) Tryd.func3
    (ChangeSpec.witness_shaped (enc := enc) (C := Tryd.checked) (os := os) (X := fun w _ => laidMetH Tryd.prog Rows.operandTextsRow.laid w) false (World.laidAll Tryd.prog os Rows.operandTextsRow.laid) #[.agg #[.int .i64 0, .int .i64 0, .int .i64 0]] 8 (World.laidAll_os _ _ _)
      (World.shaped_of_ZipB (by kernel_rfl) (by kernel_rfl)) (by kernel_rfl) (by kernel_rfl) (by kernel_rfl)
      (by rw [MakeChecks.laidMetH_plain _ _ _ (by kernel_rfl)]; exact laidMet_laidAll _ (by kernel_rfl) (by kernel_rfl))) ?_
  intro W base args ds gs before hval0 hW _ _ hL _
  have hval : ∀ (j : Nat) t v, Tryd.f3.params[j]? = some t → args[j]? = some v → Value.okWide Tryd.prog W .any base t v := hval0
  have hW' := hW
  obtain ⟨p, q, hA0, hV, rfl, _, _⟩ := hW
  have hA : DataW.TrodAll enc Tryd.prog W 0 (fun _ => true) true Tryd.f3.params.toList args.toList ds p := hA0
  rw [Tryd.params3] at hA hval
  obtain ⟨v0, vs0, d0, ds0, p0, q0, hargs, rfl, rfl, h0, r0⟩ := trodAll_cons hA
  obtain ⟨rfl, rfl, rfl⟩ := trodAll_nil r0
  obtain rfl : args = #[v0] := by cases args; simp_all
  obtain ⟨rfl, rfl⟩ := trodVars_none hV
  have k0 := h0
  have lt0 : ∀ x ∈ p0, x.block < W.heap.size := by obtain ⟨m, hm⟩ := k0; exact DataW.trod_lt m _ _ _ hm
  obtain ⟨a0, b0, c0, rfl⟩ := open_opd (hval 0 23 v0 rfl rfl) h0
  clear hA0 hval0
  refine (walk a0 b0 c0 W ).mono fun e W' ⟨he, bel⟩ => ?_
  subst he
  exact ⟨_, rfl, _, _, _, [], _, [], hW', trodAll_mk1 (shut_bool Tryd.underlying4 _), (trodAll_cons_mk (Below.trod laidOut (by kernel_rfl) (of_decide_eq_true (by kernel_rfl)) k0 bel lt0) trodAll_mk0), rfl, bel.frame _, fun h => by cases h⟩

theorem over : Rows.OperandTextsSaid :=
  OpenClaim.holds_of_wide 3 Tryd.f3 rfl rfl rfl rfl rfl rfl rfl ⟨rfl, rfl, rfl, rfl, rfl⟩ rfl rfl rfl rfl rfl (by kernel_rfl) Tryd.func3 (by kernel_rfl)
    (of_decide_eq_true (by kernel_rfl)) (by unfold Func.isWrapper; first | (rw [if_pos (by decide +kernel)]; kernel_rfl) | (rw [if_neg (by decide +kernel)]; exact ⟨rfl, rfl⟩))
    (fun os started H enc _ => lifted os started H enc)
theorem card_holds : Rows.OperandTextsCardSaid :=
  Claim7.holds_tied_plain_at .later [] [.data, .pinned] true Rows.operandTextsCard.stood.harness false over (fun _ h => by cases h) (by kernel_rfl) (fun _ h => by cases h) operandTexts_row_tie rfl ⟨rfl, rfl⟩ (by kernel_rfl) rfl
    (fun f fn hf hfn => by
      obtain rfl : f = 3 := Option.some.inj ((show Tryd.prog.funcNamed "breadboard/breadboardlaw06.OperandTexts" = some 3 by kernel_rfl).symm.trans hf) |>.symm
      obtain rfl : fn = Tryd.f3 := (Option.some.inj (Tryd.func3.symm.trans hfn)).symm
      exact ⟨by kernel_rfl, fun j t ht => by
        rw [Tryd.params3] at ht
        have hm : t ∈ [23] := by simpa [or_assoc, or_comm, or_left_comm] using Array.mem_of_getElem? ht
        have hall : ([23].all fun u => !Tryd.prog.wantsStandIn u) = true := by kernel_rfl
        exact (show Tryd.prog.wantsStandIn t = false by simpa using List.all_eq_true.1 hall t hm)⟩)
    (by kernel_rfl)
#print axioms card_holds
end Go.Proofs.YtbcbhdhhinopaaaDoor.operandTextsDone
