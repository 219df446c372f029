/-
  HexreadDiffs, for every two lists of runs: Diff returns the addresses of the reference, none exactly if the images are the same, the same the other way round, and all that are defined beside nil: the law returns true, and its arguments read as they did.
  Conditions: none.
-/
import Derived.Test.YtmeegpdjhcilkaaDoorRdY
import Derived.Test.YtmeegpdjhcilkaaDoorRdH
import Derived.Test.YtmeegpdjhcilkaaDoorCards
import Derived.Test.YtmeegpdjhcilkaaDoorTie
import Derived.ProofKit
import Derived.OpenShut
import Derived.Lay
import Derived.LaidOnce
import Derived.SevenTiedAt
import Derived.Below
namespace Go.Proofs.YtmeegpdjhcilkaaDoor.hexreadDiffsDone
open Go.ChangeShapes Go.WideShapes Go.ChangeAt Go.RowKit
open Go.ChangeMaps (open_string shut_string)
set_option linter.unusedVariables false

theorem own : ownKnob Tryd.prog.godebug = none := by kernel_rfl
theorem laidOut : laidOutB Tryd.prog = true := by kernel_rfl
/-- A slice of integers that came in: nil, or a row of 'cap' cells that hold the numbers 'zs'. -/
def IsRow (k : IntKind) (w : World) (a : Option Addr) (len cap : Nat) (zs : List Int) : Prop :=
  (a = none ∧ len = 0 ∧ cap = 0 ∧ zs = []) ∨
  ∃ x, a = some x ∧ len ≤ cap ∧ cap ≤ maxLen ∧ zs.length = cap ∧ (∀ i, i < zs.length → w.cell? (x.add i) = some (.int k (zs.getD i 0))) ∧ ∀ n ∈ zs, (Lit.int k n).wf = true

set_option maxRecDepth 100000 in
set_option maxHeartbeats 8000000 in
theorem walk (A : Option Addr) (cap : Nat) (ra : List Im.R) (B : Option Addr) (bcap : Nat) (rb : List Im.R) (w : World) (hm : ra.length ≤ maxLen) (hR : Im.RunsP (fun _ => True) (fun _ => True) w A ra) (hd : ∀ r ∈ ra, r.data.length ≤ maxLen) (hmb : rb.length ≤ maxLen) (hRb : Im.RunsP (fun _ => True) (fun _ => True) w B rb) (hdb : ∀ r ∈ rb, r.data.length ≤ maxLen) :
    Calls Tryd.prog 6 #[.slice A ra.length cap, .slice B rb.length bcap] w fun e w' => e = .returned (.bool true) ∧ Below w.heap.size w w' := by
  have hbd := build_any A cap ra hm w hR hd
  have Z := Lib.hid (And.intro hR hRb)
  have HD := Lib.hid (And.intro hd hdb)
  have HM := Lib.hid (And.intro hm hmb)
  clear hR hd hm hRb hdb hmb
  go_enter Tryd.func6, Tryd.ntmps6
  go_wp2_with fail
  refine hbd.mono ?_
  rintro e w1 ⟨h1, h2, h3⟩
  have hbd2 := build_any B bcap rb HM.out.2 w1 (Z.out.2.below h3) HD.out.2
  have B1 := Lib.hid h3
  cases hf : Im.fewB ra
  case false =>
    obtain rfl := h1 hf
    have FH := Lib.hid hf
    clear h1 h2 h3 hf hbd
    go_wp2_with fail
    refine hbd2.mono ?_
    rintro e w2 ⟨g1, g2, g3⟩
    have B2 : Hid (Below w.heap.size w w2) := B1.out.trans (g3.mono B1.out.size)
    cases hfb : Im.fewB rb
    case false =>
      obtain rfl := g1 hfb
      clear g1 g2 g3 hfb hbd2
      go_wp2_with fail
      refine (alive5_any _).mono ?_
      rintro e w3 ⟨rfl, hb3⟩
      have B3 : Hid (Below w.heap.size w w3) := B2.out.trans (hb3.mono B2.out.size)
      have hfw := Im.fewAll_any _ _ A cap ra HM.out.1 w3 (Z.out.1.below B3.out) HD.out.1
      rw [FH.out] at hfw
      clear hb3
      go_wp2_with fail
      refine hfw.mono ?_
      rintro e w4 ⟨rfl, rfl⟩
      clear hfw
      go_wp2
      go_ret
      exact ⟨rfl, B3.out⟩
    case true =>
      obtain ⟨c, A', cap', rfl, -, -, -⟩ := g2 hfb
      clear g1 g2 g3 hfb hbd2
      go_wp2_with fail
      refine (alive5_any _).mono ?_
      rintro e w3 ⟨rfl, hb3⟩
      have B3 : Hid (Below w.heap.size w w3) := B2.out.trans (hb3.mono B2.out.size)
      have hfw := Im.fewAll_any _ _ A cap ra HM.out.1 w3 (Z.out.1.below B3.out) HD.out.1
      rw [FH.out] at hfw
      clear hb3
      go_wp2_with fail
      refine hfw.mono ?_
      rintro e w4 ⟨rfl, rfl⟩
      clear hfw
      go_wp2
      go_ret
      exact ⟨rfl, B3.out⟩
  case true =>
    obtain ⟨b, A1, cap1, rfl, -, hI, hC⟩ := h2 hf
    have I1 := Lib.hid hI
    have C1 := Lib.hid hC
    have FA := Lib.hid hf
    clear h1 h2 h3 hf hbd hI hC
    obtain ⟨V, hV⟩ : ∃ V, allW ra = V := ⟨_, rfl⟩
    rw [hV] at I1 C1 ⊢
    clear hV
    go_wp2_with fail
    refine hbd2.mono ?_
    rintro e w2 ⟨g1, g2, g3⟩
    have B2 : Hid (Below w.heap.size w w2) := B1.out.trans (g3.mono B1.out.size)
    have I2 := Lib.hid (I1.out.below g3)
    have C2 := Lib.hid (C1.out.below g3)
    cases hfb : Im.fewB rb
    case false =>
      obtain rfl := g1 hfb
      have FB := Lib.hid hfb
      clear g1 g2 g3 hfb hbd2 I1 C1
      go_wp2_with fail
      refine (alive5_any _).mono ?_
      rintro e w3 ⟨rfl, hb3⟩
      have B3 : Hid (Below w.heap.size w w3) := B2.out.trans (hb3.mono B2.out.size)
      have hfw := Im.fewAll_any _ _ A cap ra HM.out.1 w3 (Z.out.1.below B3.out) HD.out.1
      have hfw2 := Im.fewAll_any _ _ B bcap rb HM.out.2 w3 (Z.out.2.below B3.out) HD.out.2
      rw [FA.out] at hfw
      rw [FB.out] at hfw2
      clear hb3
      go_wp2_with fail
      refine hfw.mono ?_
      rintro e w4 ⟨rfl, rfl⟩
      clear hfw
      go_wp2_with fail
      refine hfw2.mono ?_
      rintro e w4 ⟨rfl, rfl⟩
      clear hfw2
      go_wp2
      go_ret
      exact ⟨rfl, B3.out⟩
    case true =>
      obtain ⟨c, A2, cap2, rfl, -, hJ, hC'⟩ := g2 hfb
      have J2 := Lib.hid hJ
      have D2 := Lib.hid hC'
      clear g1 g2 g3 hfb hbd2 I1 C1 hJ hC' Z HD HM FA
      obtain ⟨W, hW⟩ : ∃ W, allW rb = W := ⟨_, rfl⟩
      rw [hW] at J2 D2 ⊢
      clear hW
      have VS := Lib.hid I2.out.1
      have WS := Lib.hid J2.out.1
      have X1 := hdiff_any (.pointer (some ⟨b, 0, none⟩)) (.pointer (some ⟨c, 0, none⟩)) V W w2 (.inr ⟨b, rfl, I2.out⟩) (.inr ⟨c, rfl, J2.out⟩)
      have SE := scan_empty VS.out WS.out
      have X3 := fun w h h' => hdiff_any (.pointer (some ⟨c, 0, none⟩)) (.pointer (some ⟨b, 0, none⟩)) W V w h h'
      rw [scan_comm V W] at X3
      have X4 := fun w h h' => hdiff_any (.pointer (some ⟨b, 0, none⟩)) (.pointer none) V [] w h h'
      have SN := scan_nil VS.out
      have X2 := fun w h h' => rdiff5_any (fun _ => True) (fun _ => True) A1 A2 cap1 cap2 V W VS.out WS.out w h h'
      rw [← scan_merge VS.out WS.out] at X2
      have SL := scan_le V W 65536
      obtain ⟨S, hS⟩ : ∃ S, scanD V W 65536 = S := ⟨_, rfl⟩
      obtain ⟨S0, hS0⟩ : ∃ S, scanD V [] 65536 = S := ⟨_, rfl⟩
      rw [hS] at X1 X2 X3 SE SL
      rw [hS0] at X4 SN
      have ZL : Hid ((natI S).length ≤ maxLen) := by show _ ≤ _; rw [natI_length]; unfold maxLen; omega
      have Q : Hid (decide (V = W) = ((natI S).length == 0)) := by
        show _ = _
        rw [natI_length]
        by_cases h : V = W
        · rw [decide_eq_true h, SE.2 h]; rfl
        · rw [decide_eq_false h]
          symm
          exact beq_eq_false_iff_ne.2 fun e => h (SE.1 (List.eq_nil_of_length_eq_zero e))
      have Q0 : Hid ((natI S0).length = V.length) := by show _ = _; rw [natI_length]; exact SN
      obtain ⟨zs, hz⟩ : ∃ zs, natI S = zs := ⟨_, rfl⟩
      obtain ⟨z0, hz0⟩ : ∃ zs, natI S0 = zs := ⟨_, rfl⟩
      rw [hz] at X1 X2 X3 ZL Q
      rw [hz0] at X4 Q0
      clear hS hS0 hz hz0 SE SN SL
      obtain ⟨n, hn⟩ : ∃ n, zs.length = n := ⟨_, rfl⟩
      have XE := fun A1 A2 c1 c2 w h1 h2 => equalI_any A1 A2 c1 c2 zs ZL.out w h1 h2
      rw [hn] at Q ZL
      have HN := Lib.hid hn
      obtain ⟨vl, hvl⟩ : ∃ vl, V.length = vl := ⟨_, rfl⟩
      have HVL := Lib.hid hvl
      clear hn hvl
      go_wp2_with fail
      refine X1.mono ?_
      rintro e w3 ⟨DA, dc, rfl, hd3, hb3⟩
      have K3 := Lib.hid hb3
      have D3 := Lib.hid hd3
      clear hd3 hb3 X1
      rw [HN.out]
      go_wp2_with fail
      refine (alive5_any _).mono ?_
      rintro e w4 ⟨rfl, hb4⟩
      have K4 : Hid (Below w2.heap.size w2 w4) := K3.out.trans (hb4.mono K3.out.size)
      have D4 := Lib.hid (IntsAt.below D3.out hb4)
      have X2' := X2 w4 ((C2.out.below K4.out).mono fun _ _ _ => trivial) ((D2.out.below K4.out).mono fun _ _ _ => trivial)
      clear hb4 K3 D3 X2
      go_wp2_with fail
      refine X2'.mono ?_
      rintro e w5 ⟨TA, tc, rfl, hd5, hb5⟩
      have K5 : Hid (Below w2.heap.size w2 w5) := K4.out.trans (hb5.mono K4.out.size)
      have D5 := Lib.hid (IntsAt.below D4.out hb5)
      have E5 := XE DA TA dc tc w5 D5.out hd5
      rw [HN.out] at E5 ⊢
      clear hd5 hb5 K4 D4 X2'
      go_wp2_with fail
      refine E5.mono ?_
      rintro e w6 h6
      obtain ⟨rfl, hb6⟩ := SomeDraws.below h6
      have K6 : Hid (Below w2.heap.size w2 w6) := K5.out.trans (hb6.mono K5.out.size)
      have D6 := Lib.hid (IntsAt.below D5.out hb6)
      have S6 := Im.isame_any b c V W w6 (I2.out.below K6.out) (J2.out.below K6.out)
      have dd : Below w6.heap.size w6 w6.drew := (Below.refl _ _).drew
      have K7 : Hid (Below w2.heap.size w2 w6.drew) := K6.out.trans (dd.mono K6.out.size)
      have D7 := Lib.hid (IntsAt.below D6.out dd)
      have X3' := X3 w6.drew (.inr ⟨c, rfl, J2.out.below K7.out⟩) (.inr ⟨b, rfl, I2.out.below K7.out⟩)
      rw [Q.out] at S6
      clear h6 hb6 E5 K5 D5 D6 dd X3
      have nb : ((n : Int) == 0) = (n == 0) := by
        by_cases h : n = 0
        · subst h; rfl
        · rw [beq_eq_false_iff_ne.2 h]; exact beq_eq_false_iff_ne.2 (by omega)
      obtain ⟨q, hq⟩ : ∃ q, (n == 0) = q := ⟨_, rfl⟩
      rw [hq] at S6 nb
      clear Q
      cases q
      all_goals
        have hqn := Lib.hid hq
        go_wp2_with fail
        refine S6.mono ?_
        rintro e w7 ⟨rfl, rfl⟩
        clear S6
        go_wp2_with fail
        refine X3'.mono ?_
        rintro e w8 ⟨UA, uc, rfl, hd8, hb8⟩
        have K8 : Hid (Below w2.heap.size w2 w8) := K7.out.trans (hb8.mono K7.out.size)
        have E8 := XE UA DA uc dc w8 hd8 (IntsAt.below D7.out hb8)
        rw [HN.out] at E8 ⊢
        clear hd8 hb8 X3' K7 D7
        go_wp2_with fail
        refine E8.mono ?_
        rintro e w9 h9
        obtain ⟨rfl, hb9⟩ := SomeDraws.below h9
        have K9 : Hid (Below w2.heap.size w2 w9) := K8.out.trans (hb9.mono K8.out.size)
        have X4' := X4 w9 (.inr ⟨b, rfl, I2.out.below K9.out⟩) (.inl ⟨rfl, rfl⟩)
        clear h9 hb9 E8 K8
        go_wp2_with fail
        refine X4'.mono ?_
        rintro e w10 ⟨YA, yc, rfl, -, hb10⟩
        have BF : Hid (Below w.heap.size w w10) := B2.out.trans ((K9.out.trans (hb10.mono K9.out.size)).mono B2.out.size)
        clear hb10 X4'
        rw [Q0.out]
        go_wp2
        go_ret
        exact ⟨rfl, BF.out⟩

set_option maxRecDepth 100000 in
theorem lifted (os : Os) (started : os.Started) (H : Type) (enc : TypeId × Value → H) :
    ReturnsInHanded {} Tryd.checked os 6 .any (fun w args => (Rows.hexreadDiffsSpec.pre enc Tryd.prog Tryd.f6 [] false w args ∧ laidMetH Tryd.prog Rows.hexreadDiffsRow.laid w) ∧ sizedMet enc Tryd.prog Tryd.f6 (OpenSpec.ofChange Rows.hexreadDiffsSpec) false w args)
      (Rows.hexreadDiffsSpec.post enc Tryd.prog Tryd.f6 false true false false) := by
  refine returnsInHanded_of_change_and (C := Tryd.checked) (X := fun w _ => laidMetH Tryd.prog Rows.hexreadDiffsRow.laid w) (fun _ _ _ hh h => h.of_heap hh) own started (by kernel_rfl) Tryd.func6
    (ChangeSpec.witness_shaped (enc := enc) (C := Tryd.checked) (os := os) (X := fun w _ => laidMetH Tryd.prog Rows.hexreadDiffsRow.laid w) false (World.laidAll Tryd.prog os Rows.hexreadDiffsRow.laid) #[.slice none 0 0, .slice none 0 0] 8 (World.laidAll_os _ _ _)
      (World.shaped_of_ZipB (by kernel_rfl) (by kernel_rfl)) (by kernel_rfl) (by kernel_rfl) (by kernel_rfl)
      (by rw [MakeChecks.laidMetH_plain _ _ _ (by kernel_rfl)]; exact laidMet_laidAll _ (by kernel_rfl) (by kernel_rfl))) ?_
  intro W base args ds gs before hval0 hW _ _ hL _
  have hval : ∀ (j : Nat) t v, Tryd.f6.params[j]? = some t → args[j]? = some v → Value.okWide Tryd.prog W .any base t v := hval0
  have hW' := hW
  obtain ⟨p, q, hA0, hV, rfl, _, _⟩ := hW
  have hA : DataW.TrodAll enc Tryd.prog W 0 (fun _ => true) true Tryd.f6.params.toList args.toList ds p := hA0
  rw [Tryd.params6] at hA hval
  obtain ⟨v0, vs0, d0, ds0, p0, q0, hargs, rfl, rfl, h0, r0⟩ := trodAll_cons hA
  obtain ⟨v1, vs1, d1, ds1, p1, q1, rfl, rfl, rfl, h1, r1⟩ := trodAll_cons r0
  obtain ⟨rfl, rfl, rfl⟩ := trodAll_nil r1
  obtain rfl : args = #[v0, v1] := by cases args; simp_all
  obtain ⟨rfl, rfl⟩ := trodVars_none hV
  have k0 := h0
  have lt0 : ∀ x ∈ p0, x.block < W.heap.size := by obtain ⟨m, hm⟩ := k0; exact DataW.trod_lt m _ _ _ hm
  obtain ⟨a0, len0, cap0, rfl⟩ := okWide_slice Tryd.underlying22 (hval 0 22 v0 rfl rfl)
  obtain ⟨z0, hz0, hm0, w0, d0'⟩ : ∃ rs, len0 = rs.length ∧ len0 ≤ maxLen ∧ Im.RunsP (fun _ => True) (fun _ => True) W a0 rs ∧ ∀ r ∈ rs, r.data.length ≤ maxLen := by
    obtain ⟨fuel, hf⟩ := h0
    have hf' : DataW.trod enc Tryd.prog W 0 (fun _ => true) true fuel 22 [.slice a0 len0 cap0] = some (d0, p0) := by simpa [Value.cells] using hf
    obtain ⟨A, len, cap, rs, e1, e2, e3, e4, e5⟩ := Im.open_runs hf'
    simp only [Value.slice.injEq] at e1
    obtain ⟨rfl, rfl, rfl⟩ := e1
    exact ⟨rs, e2, e3, e4, e5⟩
  subst hz0
  have k1 := h1
  have lt1 : ∀ x ∈ p1, x.block < W.heap.size := by obtain ⟨m, hm⟩ := k1; exact DataW.trod_lt m _ _ _ hm
  obtain ⟨a1, len1, cap1, rfl⟩ := okWide_slice Tryd.underlying22 (hval 1 22 v1 rfl rfl)
  obtain ⟨z1, hz1, hm1, w1, d1'⟩ : ∃ rs, len1 = rs.length ∧ len1 ≤ maxLen ∧ Im.RunsP (fun _ => True) (fun _ => True) W a1 rs ∧ ∀ r ∈ rs, r.data.length ≤ maxLen := by
    obtain ⟨fuel, hf⟩ := h1
    have hf' : DataW.trod enc Tryd.prog W 0 (fun _ => true) true fuel 22 [.slice a1 len1 cap1] = some (d1, p1) := by simpa [Value.cells] using hf
    obtain ⟨A, len, cap, rs, e1, e2, e3, e4, e5⟩ := Im.open_runs hf'
    simp only [Value.slice.injEq] at e1
    obtain ⟨rfl, rfl, rfl⟩ := e1
    exact ⟨rs, e2, e3, e4, e5⟩
  subst hz1
  clear hA0 hval0
  refine (walk a0 cap0 z0 a1 cap1 z1 W hm0 w0 d0' hm1 w1 d1').mono fun e W' ⟨he, bel⟩ => ?_
  subst he
  exact ⟨_, rfl, _, _, _, [], _, [], hW', trodAll_mk1 (shut_bool Tryd.underlying4 _), (trodAll_cons_mk (Below.trod laidOut (by kernel_rfl) (of_decide_eq_true (by kernel_rfl)) k0 bel lt0) (trodAll_cons_mk (Below.trod laidOut (by kernel_rfl) (of_decide_eq_true (by kernel_rfl)) k1 bel lt1) trodAll_mk0)), rfl, bel.frame _, fun h => by cases h⟩

theorem over : Rows.HexreadDiffsSaid :=
  OpenClaim.holds_of_wide 6 Tryd.f6 rfl rfl rfl rfl rfl rfl rfl ⟨rfl, rfl, rfl, rfl, rfl⟩ rfl rfl rfl rfl rfl (by kernel_rfl) Tryd.func6 (by kernel_rfl)
    (of_decide_eq_true (by kernel_rfl)) (by unfold Func.isWrapper; first | (rw [if_pos (by decide +kernel)]; kernel_rfl) | (rw [if_neg (by decide +kernel)]; exact ⟨rfl, rfl⟩))
    (fun os started H enc _ => lifted os started H enc)
theorem card_holds : Rows.HexreadDiffsCardSaid :=
  Claim7.holds_tied_plain_at .later [] [.data, .pinned] true Rows.hexreadDiffsCard.stood.harness false over (fun _ h => by cases h) (by kernel_rfl) (fun _ h => by cases h) hexreadDiffs_row_tie rfl ⟨rfl, rfl⟩ (by kernel_rfl) rfl
    (fun f fn hf hfn => by
      obtain rfl : f = 6 := Option.some.inj ((show Tryd.prog.funcNamed "breadboard/breadboardlaw05.HexreadDiffs" = some 6 by kernel_rfl).symm.trans hf) |>.symm
      obtain rfl : fn = Tryd.f6 := (Option.some.inj (Tryd.func6.symm.trans hfn)).symm
      exact ⟨by kernel_rfl, fun j t ht => by
        rw [Tryd.params6] at ht
        have hm : t ∈ [22, 22] := by simpa [or_assoc, or_comm, or_left_comm] using Array.mem_of_getElem? ht
        have hall : ([22, 22].all fun u => !Tryd.prog.wantsStandIn u) = true := by kernel_rfl
        exact (show Tryd.prog.wantsStandIn t = false by simpa using List.all_eq_true.1 hall t hm)⟩)
    (by kernel_rfl)
#print axioms card_holds
end Go.Proofs.YtmeegpdjhcilkaaDoor.hexreadDiffsDone
