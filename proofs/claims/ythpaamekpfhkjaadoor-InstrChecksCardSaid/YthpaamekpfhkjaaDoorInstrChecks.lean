/-
  InstrChecks, for all instructions: Check, Shape and Numbers return the results of the reference; the law returns true, and its argument reads as it did.
  Conditions: none.
-/
import Derived.Test.YthpaamekpfhkjaaDoorInZ
import Derived.Test.YthpaamekpfhkjaaDoorMixG
import Derived.Test.YthpaamekpfhkjaaDoorCards
import Derived.Test.YthpaamekpfhkjaaDoorTie
import Derived.ProofKit
import Derived.OpenShut
import Derived.Lay
import Derived.LaidOnce
import Derived.SevenTiedAt
import Derived.Below
namespace Go.Proofs.YthpaamekpfhkjaaDoor.instrChecksDone
open Go.ChangeShapes Go.WideShapes Go.ChangeAt Go.RowKit
open Go.ChangeMaps (open_string shut_string)
set_option linter.unusedVariables false

theorem own : ownKnob Tryd.prog.godebug = none := by kernel_rfl
theorem laidOut : laidOutB Tryd.prog = true := by kernel_rfl
/-- A slice of integers that came in: nil, or a row of 'cap' cells that hold the numbers 'zs'. -/
def IsRow (k : IntKind) (w : World) (a : Option Addr) (len cap : Nat) (zs : List Int) : Prop :=
  (a = none ∧ len = 0 ∧ cap = 0 ∧ zs = []) ∨
  ∃ x, a = some x ∧ len ≤ cap ∧ cap ≤ maxLen ∧ zs.length = cap ∧ (∀ i, i < zs.length → w.cell? (x.add i) = some (.int k (zs.getD i 0))) ∧ ∀ n ∈ zs, (Lit.int k n).wf = true

attribute [local irreducible] Go.Mixed.wpMix
set_option maxRecDepth 100000 in
set_option maxHeartbeats 4000000 in
theorem walk (s : ByteArray) (A : Option Addr) (cap : Nat) (L : List Tr) (w : World) (hs : s.size ≤ maxLen) (hL : L.length ≤ maxLen) (H : OpsP w A L) :
    Calls Tryd.prog 3 #[.agg #[.string s, .slice A L.length cap]] w fun e w' => e = .returned (.bool true) ∧ Below w.heap.size w w' := by
  have SH := Lib.hid (short_any s hs A cap L.length hL)
  have X := Lib.hid H
  obtain ⟨n, hn⟩ : ∃ n, L.length = n := ⟨_, rfl⟩
  have HN := Lib.hid hn
  rw [hn] at hL SH ⊢
  have T0 := Lib.hid (Bx.new w s A n cap 24)
  have B0 : Hid (Below w.heap.size w (w.alloc (.cells #[.string s, .slice A n cap] 24))) := (Below.refl _ _).alloc (Nat.le_refl _) _
  obtain ⟨t0, t1⟩ := T0.out
  clear H hn
  go_enter Tryd.func3, Tryd.ntmps3
  go_wp2_with fail
  refine (SH.out _).mono ?_
  rintro e w1 ⟨rfl, h1⟩
  have T1 := Lib.hid (T0.out.all h1)
  have B1 := Lib.hid (B0.out.trans (h1.mono B0.out.size))
  clear h1 T0 B0 t0 t1 SH
  by_cases hsh : s.size ≤ 100 ∧ n ≤ 20
  · obtain ⟨hs1, hn1⟩ := hsh
    rw [decide_eq_true hs1, decide_eq_true hn1]
    have CK := Lib.hid (fun w' h => check_any s A cap L hs (by rw [HN.out]; omega) w' h)
    have RC := Lib.hid (fun w' h => rcheck_any s A cap L (by rw [HN.out]; omega) w' h)
    have SP := Lib.hid (fun w' h => shape_any s A cap L (by omega) (by rw [HN.out]; omega) w' h)
    have RS := Lib.hid (fun w' h => rshape_any s A cap L (by omega) (by rw [HN.out]; omega) w' h)
    have NB := Lib.hid (fun w' h => numbers_any s A cap L (by rw [HN.out]; omega) w' h)
    have RN := Lib.hid (fun w' h => rnumbers_any s A cap L (by rw [HN.out]; omega) w' h)
    have NLE : Hid ((numsL L).length ≤ maxLen) := by have := nums_le L; rw [HN.out] at this; unfold maxLen; show _ ≤ _; omega
    rw [HN.out] at CK RC SP RS NB RN
    obtain ⟨c, hc⟩ : ∃ c, codeI s L = c := ⟨_, rfl⟩
    rw [hc] at CK RC
    obtain ⟨z, hz⟩ : ∃ z, shpS s L = z := ⟨_, rfl⟩
    rw [hz] at SP RS
    obtain ⟨l, hl⟩ : ∃ l, numsL L = l := ⟨_, rfl⟩
    rw [hl] at NB RN NLE
    have hzz := strB_eq z
    clear hc hz hl
    have P1 := Lib.hid (X.out.below B1.out)
    have T2 : Hid (Bx w1.drew w.heap.size s A n cap) := T1.out
    have P2 : Hid (OpsP w1.drew A L) := P1.out
    have B2 : Hid (Below w.heap.size w w1.drew) := B1.out.trans ((below_drewN _ _ 1).mono B1.out.size)
    clear T1 P1 B1
    go_wp2
    refine Mixed.wp_region_mixed (fun w' => Bx w' w.heap.size s A n cap) 22 [(0, false), (1, true), (2, true), (4, true), (3, false), (5, false), (6, true), (7, true), (8, true), (9, true), (11, true), (10, false), (12, false), (13, true), (14, true), (15, true), (16, true), (18, true), (17, false), (19, false), (20, false), (21, true)] (by kernel_rfl) (by kernel_rfl) T2.out ?_
    refine Mixed.wpMix_loudG rfl (by kernel_rfl) ?_
    go_wp2_with fail
    refine (alive_any _).mono ?_
    rintro e w3 ⟨rfl, hb⟩
    have T3 := Lib.hid (T2.out.all hb)
    have P3 := Lib.hid (P2.out.below hb)
    have B3 := Lib.hid (B2.out.trans (hb.mono B2.out.size))
    have xx := T3.out
    clear hb T2 P2 B2
    go_wp2
    refine ⟨xx, ?_⟩
    clear xx
    refine Mixed.wpMix_move rfl (by kernel_rfl) _ rfl _ rfl ?_
    refine Mixed.wpMix_pure rfl (by kernel_rfl) (.agg #[.string s, .slice A n cap]) (fun w h => by obtain ⟨h1, h2⟩ := h; go_simp; try rfl) ?_
    refine Mixed.wpMix_pure rfl (by kernel_rfl) (.agg #[.string s, .slice A n cap]) (fun w h => by obtain ⟨h1, h2⟩ := h; go_simp; try rfl) ?_
    refine Mixed.wpMix_loudG rfl (by kernel_rfl) ?_
    go_wp2_with fail
    refine (CK.out _ P3.out).mono ?_
    rintro e w4 ⟨rfl, hb⟩
    have T4 := Lib.hid (T3.out.all hb)
    have P4 := Lib.hid (P3.out.below hb)
    have B4 := Lib.hid (B3.out.trans (hb.mono B3.out.size))
    have xx := T4.out
    clear hb T3 P3 B3
    go_wp2
    refine ⟨xx, ?_⟩
    clear xx
    refine Mixed.wpMix_loudG rfl (by kernel_rfl) ?_
    go_wp2_with fail
    refine (RC.out _ P4.out).mono ?_
    rintro e w5 ⟨rfl, hb⟩
    have T5 := Lib.hid (T4.out.all hb)
    have P5 := Lib.hid (P4.out.below hb)
    have B5 := Lib.hid (B4.out.trans (hb.mono B4.out.size))
    have xx := T5.out
    clear hb T4 P4 B4
    go_wp2
    refine ⟨xx, ?_⟩
    clear xx
    refine Mixed.wpMix_pure rfl (by kernel_rfl) (.bool true) (fun w h => by clear h; go_simp; try rfl) ?_
    refine Mixed.wpMix_pure rfl (by kernel_rfl) (.bool true) (fun w h => by clear h; go_simp; try rfl) ?_
    refine Mixed.wpMix_move rfl (by kernel_rfl) _ rfl _ rfl ?_
    refine Mixed.wpMix_pure rfl (by kernel_rfl) (.agg #[.string s, .slice A n cap]) (fun w h => by obtain ⟨h1, h2⟩ := h; go_simp; try rfl) ?_
    refine Mixed.wpMix_pure rfl (by kernel_rfl) (.agg #[.string s, .slice A n cap]) (fun w h => by obtain ⟨h1, h2⟩ := h; go_simp; try rfl) ?_
    refine Mixed.wpMix_loudG rfl (by kernel_rfl) ?_
    go_wp2_with fail
    refine (SP.out _ P5.out).mono ?_
    rintro e w6 ⟨rfl, hb⟩
    have T6 := Lib.hid (T5.out.all hb)
    have P6 := Lib.hid (P5.out.below hb)
    have B6 := Lib.hid (B5.out.trans (hb.mono B5.out.size))
    have xx := T6.out
    clear hb T5 P5 B5
    go_wp2
    refine ⟨xx, ?_⟩
    clear xx
    refine Mixed.wpMix_loudG rfl (by kernel_rfl) ?_
    go_wp2_with fail
    refine (RS.out _ P6.out).mono ?_
    rintro e w7 ⟨rfl, hb⟩
    have T7 := Lib.hid (T6.out.all hb)
    have P7 := Lib.hid (P6.out.below hb)
    have B7 := Lib.hid (B6.out.trans (hb.mono B6.out.size))
    have xx := T7.out
    clear hb T6 P6 B6
    go_wp2
    refine ⟨xx, ?_⟩
    clear xx
    refine Mixed.wpMix_pure rfl (by kernel_rfl) (.bool true) (fun w h => by clear h; go_simp; try rfl) ?_
    refine Mixed.wpMix_pure rfl (by kernel_rfl) (.bool true) (fun w h => by clear h; go_simp; try rfl) ?_
    refine Mixed.wpMix_move rfl (by kernel_rfl) _ rfl _ rfl ?_
    refine Mixed.wpMix_pure rfl (by kernel_rfl) (.agg #[.string s, .slice A n cap]) (fun w h => by obtain ⟨h1, h2⟩ := h; go_simp; try rfl) ?_
    refine Mixed.wpMix_pure rfl (by kernel_rfl) (.agg #[.string s, .slice A n cap]) (fun w h => by obtain ⟨h1, h2⟩ := h; go_simp; try rfl) ?_
    refine Mixed.wpMix_loudG rfl (by kernel_rfl) ?_
    go_wp2_with fail
    refine (NB.out _ P7.out).mono ?_
    rintro e w8 ⟨v1, rfl, hI⟩
    obtain ⟨A1, cap1, rfl, hA1, -⟩ := hI.ints
    have hb := hI.2
    have I1 := Lib.hid hA1
    clear hI hA1
    have T8 := Lib.hid (T7.out.all hb)
    have P8 := Lib.hid (P7.out.below hb)
    have B8 := Lib.hid (B7.out.trans (hb.mono B7.out.size))
    have xx := T8.out
    clear hb T7 P7 B7
    go_wp2
    refine ⟨xx, ?_⟩
    clear xx
    refine Mixed.wpMix_loudG rfl (by kernel_rfl) ?_
    go_wp2_with fail
    refine (RN.out _ P8.out).mono ?_
    rintro e w9 ⟨v2, rfl, hI⟩
    obtain ⟨A2, cap2, rfl, hA2, -⟩ := hI.ints
    have hb := hI.2
    have I2 := Lib.hid hA2
    have I1 := Lib.hid (I1.out.below hb)
    clear hI hA2
    have T9 := Lib.hid (T8.out.all hb)
    have P9 := Lib.hid (P8.out.below hb)
    have B9 := Lib.hid (B8.out.trans (hb.mono B8.out.size))
    have xx := T9.out
    clear hb T8 P8 B8
    go_wp2
    refine ⟨xx, ?_⟩
    clear xx
    refine Mixed.wpMix_loudG rfl (by kernel_rfl) ?_
    go_wp2_with fail
    refine (equalI_any A1 A2 cap1 cap2 l NLE.out _ I1.out I2.out).mono ?_
    rintro e w10 ⟨rfl, hb⟩
    have T10 := Lib.hid (T9.out.all hb)
    have P10 := Lib.hid (P9.out.below hb)
    have B10 := Lib.hid (B9.out.trans (hb.mono B9.out.size))
    have xx := T10.out
    clear hb T9 P9 B9
    go_wp2
    refine ⟨xx, ?_⟩
    clear xx
    refine Mixed.wpMix_pure rfl (by kernel_rfl) (.bool true) (fun w h => by clear h; go_simp; try rfl) ?_
    simp only [Mixed.wpMix, List.drop_succ_cons, List.drop_zero]
    go_wp2
    go_ret
    exact ⟨rfl, B10.out⟩
  · have E : (decide (s.size ≤ 100) && decide (n ≤ 20)) = false := by
      rw [← Bool.not_eq_true, Bool.and_eq_true, decide_eq_true_eq, decide_eq_true_eq]
      exact hsh
    rw [E]
    clear E
    go_wp2_with fail
    refine (alive_any _).mono ?_
    rintro e w2 ⟨rfl, h2⟩
    have B2 := Lib.hid (B1.out.trans (h2.mono B1.out.size))
    clear h2
    go_wp2
    go_ret
    exact ⟨rfl, B2.out⟩

set_option maxRecDepth 100000 in
theorem lifted (os : Os) (started : os.Started) (H : Type) (enc : TypeId × Value → H) :
    ReturnsInHanded {} Tryd.checked os 3 .any (fun w args => (Rows.instrChecksSpec.pre enc Tryd.prog Tryd.f3 [] false w args ∧ laidMetH Tryd.prog Rows.instrChecksRow.laid w) ∧ sizedMet enc Tryd.prog Tryd.f3 (OpenSpec.ofChange Rows.instrChecksSpec) false w args)
      (Rows.instrChecksSpec.post enc Tryd.prog Tryd.f3 false true false false) := by
  refine returnsInHanded_of_change_and (C := Tryd.checked) (X := fun w _ => laidMetH Tryd.prog Rows.instrChecksRow.laid w) (fun _ _ _ hh h => h.of_heap hh) own started (by kernel_rfl) Tryd.func3
    (ChangeSpec.witness_shaped (enc := enc) (C := Tryd.checked) (os := os) (X := fun w _ => laidMetH Tryd.prog Rows.instrChecksRow.laid w) false (World.laidAll Tryd.prog os Rows.instrChecksRow.laid) #[.agg #[.string ⟨#[]⟩, .slice none 0 0]] 8 (World.laidAll_os _ _ _)
      (World.shaped_of_ZipB (by kernel_rfl) (by kernel_rfl)) (by kernel_rfl) (by kernel_rfl) (by kernel_rfl)
      (by rw [MakeChecks.laidMetH_plain _ _ _ (by kernel_rfl)]; exact laidMet_laidAll _ (by kernel_rfl) (by kernel_rfl))) ?_
  intro W base args ds gs before hval0 hW _ _ hL _
  have hval : ∀ (j : Nat) t v, Tryd.f3.params[j]? = some t → args[j]? = some v → Value.okWide Tryd.prog W .any base t v := hval0
  have hW' := hW
  obtain ⟨p, q, hA0, hV, rfl, _, _⟩ := hW
  have hA : DataW.TrodAll enc Tryd.prog W 0 (fun _ => true) true Tryd.f3.params.toList args.toList ds p := hA0
  rw [Tryd.params3] at hA hval
  obtain ⟨v0, vs0, d0, ds0, p0, q0, hargs, rfl, rfl, h0, r0⟩ := trodAll_cons hA
  obtain ⟨rfl, rfl, rfl⟩ := trodAll_nil r0
  obtain rfl : args = #[v0] := by cases args; simp_all
  obtain ⟨rfl, rfl⟩ := trodVars_none hV
  have k0 := h0
  have lt0 : ∀ x ∈ p0, x.block < W.heap.size := by obtain ⟨m, hm⟩ := k0; exact DataW.trod_lt m _ _ _ hm
  obtain ⟨s0, a0, cap0, z0, rfl, c0, hm0, w0⟩ := open_ins (hval 0 24 v0 rfl rfl) h0
  clear hA0 hval0
  refine (walk s0 a0 cap0 z0 W c0 hm0 w0).mono fun e W' ⟨he, bel⟩ => ?_
  subst he
  exact ⟨_, rfl, _, _, _, [], _, [], hW', trodAll_mk1 (shut_bool Tryd.underlying4 _), (trodAll_cons_mk (Below.trod laidOut (by kernel_rfl) (of_decide_eq_true (by kernel_rfl)) k0 bel lt0) trodAll_mk0), rfl, bel.frame _, fun h => by cases h⟩

theorem over : Rows.InstrChecksSaid :=
  OpenClaim.holds_of_wide 3 Tryd.f3 rfl rfl rfl rfl rfl rfl rfl ⟨rfl, rfl, rfl, rfl, rfl⟩ rfl rfl rfl rfl rfl (by kernel_rfl) Tryd.func3 (by kernel_rfl)
    (of_decide_eq_true (by kernel_rfl)) (by unfold Func.isWrapper; first | (rw [if_pos (by decide +kernel)]; kernel_rfl) | (rw [if_neg (by decide +kernel)]; exact ⟨rfl, rfl⟩))
    (fun os started H enc _ => lifted os started H enc)
theorem card_holds : Rows.InstrChecksCardSaid :=
  Claim7.holds_tied_plain_at .later [] [.data, .pinned] true Rows.instrChecksCard.stood.harness false over (fun _ h => by cases h) (by kernel_rfl) (fun _ h => by cases h) instrChecks_row_tie rfl ⟨rfl, rfl⟩ (by kernel_rfl) rfl
    (fun f fn hf hfn => by
      obtain rfl : f = 3 := Option.some.inj ((show Tryd.prog.funcNamed Tryd.f3.name = some 3 by kernel_rfl).symm.trans hf) |>.symm
      obtain rfl : fn = Tryd.f3 := (Option.some.inj (Tryd.func3.symm.trans hfn)).symm
      exact ⟨by kernel_rfl, fun j t ht => by
        rw [Tryd.params3] at ht
        have hm : t ∈ [24] := by simpa [or_assoc, or_comm, or_left_comm] using Array.mem_of_getElem? ht
        have hall : ([24].all fun u => !Tryd.prog.wantsStandIn u) = true := by kernel_rfl
        exact (show Tryd.prog.wantsStandIn t = false by simpa using List.all_eq_true.1 hall t hm)⟩)
    (by kernel_rfl)
#print axioms card_holds
end Go.Proofs.YthpaamekpfhkjaaDoor.instrChecksDone
