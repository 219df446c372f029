/-
  lex.Is reports whether a token is a sign with one of the texts: the statement LexSigns holds for every input; what was there before the call is left as it was. It reads the variable lex.signs.
-/
import Derived.Test.YtcmcikcagpkocaaDoorLxSi
import Derived.Test.YtcmcikcagpkocaaDoorLxZ
import Derived.Test.YtcmcikcagpkocaaDoorCards
import Derived.Test.YtcmcikcagpkocaaDoorTie
import Derived.ProofKit
import Derived.OpenShut
import Derived.Lay
import Derived.LaidOnce
import Derived.SevenTiedAt
import Derived.Below
namespace Go.Proofs.YtcmcikcagpkocaaDoor.lexSignsDone
open Go.ChangeShapes Go.WideShapes Go.ChangeAt Go.RowKit
open Go.ChangeMaps (open_string shut_string)
set_option linter.unusedVariables false

theorem own : ownKnob Tryd.prog.godebug = none := by kernel_rfl
theorem laidOut : laidOutB Tryd.prog = true := by kernel_rfl
/-- A slice of integers that came in: nil, or a row of 'cap' cells that hold the numbers 'zs'. -/
def IsRow (k : IntKind) (w : World) (a : Option Addr) (len cap : Nat) (zs : List Int) : Prop :=
  (a = none ∧ len = 0 ∧ cap = 0 ∧ zs = []) ∨
  ∃ x, a = some x ∧ len ≤ cap ∧ cap ≤ maxLen ∧ zs.length = cap ∧ (∀ i, i < zs.length → w.cell? (x.add i) = some (.int k (zs.getD i 0))) ∧ ∀ n ∈ zs, (Lit.int k n).wf = true

attribute [local go_sem] Oper.semAt_some
attribute [local irreducible] Go.Mixed.wpMix
set_option maxRecDepth 100000 in
set_option maxHeartbeats 4000000 in
theorem walk (k : Int) (t : ByteArray) (n q : Int) (A : Option Addr) (cap : Nat) (ss : List ByteArray) (w : World) (wt : t.size ≤ maxLen) (hm : ss.length ≤ maxLen) (K : StrsP (fun _ => True) w A ss) (hc : ∀ s ∈ ss, s.size ≤ maxLen) (M : MaxAt w) (SG : SgAt w) :
    Calls Tryd.prog 8 #[.agg #[.int .i64 k, .string t, .int .i64 n, .int .i64 q], .slice A ss.length cap] w fun e w' => e = .returned (.bool true) ∧ Below w.heap.size w w' := by
  unfold maxLen at wt hm
  obtain ⟨m, hl⟩ : ∃ m, ss.length = m := ⟨_, rfl⟩
  rw [hl] at hm ⊢
  obtain ⟨b, hb⟩ : ∃ b, w.heap.size = b := ⟨_, rfl⟩
  obtain ⟨w1, hw1, T1, y1, z1⟩ := tk_start 34 w b hb k t n q
  have SG1 := SG.up y1
  have AL : ∀ w', Below w1.heap.size w1 w' → Calls Tryd.prog 9 #[] w' fun e w'' => e = .returned (.bool true) ∧ Below w'.heap.size w' w'' := fun w' h => lalive_any w' (SG1.up h)
  have AL1 := Lib.hid AL
  have Y1 : Hid (Below b w w1) := by rw [← hb]; exact y1
  have K1 := K.below y1
  have zz : b ≤ w1.heap.size := by omega
  obtain ⟨c0, c1, c2, c3, cf⟩ := T1.cells
  have A0 := Lib.hid (AL w1 (Below.refl _ _))
  have TK : ∀ w', Below w1.heap.size w1 w' → TkB 34 w' b k t n q := fun w' h => T1.all h
  have TK1 := Lib.hid TK
  clear M SG hc SG1 K AL y1 T1 TK
  by_cases h30 : 30 < m
  · clear hl K1 TK1
    go_enter Tryd.func8, Tryd.ntmps8
    go_wp2_with fail
    refine A0.out.mono ?_
    rintro e w2 ⟨rfl, hb2⟩
    have B := Lib.hid (Y1.out.trans (hb2.mono zz))
    clear hb2
    go_wp2
    go_ret
    exact ⟨rfl, by first | exact B.out | (rw [hb]; exact B.out)⟩
  by_cases h100 : 100 < t.size
  · clear hl K1 TK1
    go_enter Tryd.func8, Tryd.ntmps8
    go_wp2_with fail
    refine A0.out.mono ?_
    rintro e w2 ⟨rfl, hb2⟩
    have B := Lib.hid (Y1.out.trans (hb2.mono zz))
    clear hb2
    go_wp2
    go_ret
    exact ⟨rfl, by first | exact B.out | (rw [hb]; exact B.out)⟩
  have IS := fun w' (h : Below w1.heap.size w1 w') => is_any k n q t A cap m ss hl (by omega) w' (K1.below h)
  have CT := fun w' (h : Below w1.heap.size w1 w') => contains_strs A cap m ss hl (by omega) t w' (K1.below h)
  obtain ⟨mb, hmb⟩ : ∃ mb, Lib.containsS ss t = mb := ⟨_, rfl⟩
  rw [hmb] at IS CT
  have CT1 := Lib.hid CT
  clear hl K1 CT hmb A0
  by_cases hk : k = 4
  · have ke : ((k : Int) == 4) = true := by rw [hk]; rfl
    rw [decide_eq_true hk, Bool.true_and] at IS
    have IS1 := Lib.hid IS
    clear IS hk
    go_enter Tryd.func8, Tryd.ntmps8
    go_wp2
    clear c0 c1 c2 c3 cf
    refine Mixed.wp_region_mixed (fun w' => Below w1.heap.size w1 w') 16 [(0, false), (1, true), (2, true), (3, true), (5, true), (6, true), (7, true), (4, false), (8, true), (9, true), (10, true), (11, true), (12, false), (13, true), (14, true), (15, true)] (by kernel_rfl) (by kernel_rfl) (below_dq (Below.refl _ _) 1) ?_
    have B1 : Hid (Below w1.heap.size w1 w1.drew) := below_dq (Below.refl _ _) 1
    refine Mixed.wpMix_loud rfl ?_
    go_wp2_with fail
    refine (AL1.out _ B1.out).mono ?_
    rintro e w3 ⟨rfl, hb⟩
    have C2 := B1.out.trans (hb.mono B1.out.size)
    have B2 := Lib.hid C2
    go_wp2
    refine ⟨C2, ?_⟩
    clear hb C2
    refine Mixed.mo rfl (.bool true) (fun w h => by clear h; go_simp; try rfl) ?_
    refine Mixed.mo rfl (.agg #[.int .i64 k, .string t, .int .i64 n, .int .i64 q]) (fun w h => by obtain ⟨h0, h1, h2, h3, hf⟩ := (TK1.out w h).cells; clear h; go_simp; try rfl) ?_
    refine Mixed.mo rfl (.slice A m cap) (fun w h => by clear h; go_simp; try rfl) ?_
    refine Mixed.mo rfl (.pointer (some ⟨b, 0, none⟩)) (fun w h => by clear h; go_simp; try rfl) ?_
    refine Mixed.mo rfl (.int .i64 k) (fun w h => by obtain ⟨h0, h1, h2, h3, hf⟩ := (TK1.out w h).cells; clear h; go_simp; try rfl) ?_
    refine Mixed.mo rfl (.bool true) (fun w h => by clear h; go_simp; try rfl) ?_
    refine Mixed.wpMix_loud rfl ?_
    go_wp2_with fail
    refine (IS1.out _ B2.out).mono ?_
    rintro e w4 ⟨rfl, hb⟩
    have C3 := B2.out.trans (hb.mono B2.out.size)
    have B3 := Lib.hid C3
    go_wp2
    refine ⟨C3, ?_⟩
    clear hb C3
    refine Mixed.mo rfl (.bool true) (fun w h => by clear h; go_simp; try rfl) ?_
    refine Mixed.mo rfl (.slice A m cap) (fun w h => by clear h; go_simp; try rfl) ?_
    refine Mixed.mo rfl (.pointer (some ⟨b, 1, none⟩)) (fun w h => by clear h; go_simp; try rfl) ?_
    refine Mixed.mo rfl (.string t) (fun w h => by obtain ⟨h0, h1, h2, h3, hf⟩ := (TK1.out w h).cells; clear h; go_simp; try rfl) ?_
    refine Mixed.wpMix_loud rfl ?_
    go_wp2_with fail
    refine (CT1.out _ B3.out).mono ?_
    rintro e w6 ⟨rfl, rfl⟩
    have C4 := B3.out
    go_wp2
    refine ⟨C4, ?_⟩
    clear C4
    refine Mixed.mo rfl (.bool mb) (fun w h => by clear h; go_simp; try rfl) ?_
    refine Mixed.mo rfl (.bool true) (fun w h => by clear h; go_simp; try rfl) ?_
    refine Mixed.mo rfl (.bool true) (fun w h => by clear h; go_simp; try rfl) ?_
    simp only [Mixed.wpMix, List.drop_succ_cons, List.drop_zero]
    go_wp2
    go_ret
    exact ⟨rfl, by first | exact Y1.out.trans (B3.out.mono zz) | (rw [hb]; exact Y1.out.trans (B3.out.mono zz))⟩
  · have ke : ((k : Int) == 4) = false := beq_eq_false_iff_ne.2 hk
    rw [decide_eq_false hk, Bool.false_and] at IS
    have IS1 := Lib.hid IS
    clear IS hk
    go_enter Tryd.func8, Tryd.ntmps8
    go_wp2
    clear c0 c1 c2 c3 cf
    refine Mixed.wp_region_mixed (fun w' => Below w1.heap.size w1 w') 16 [(0, false), (1, true), (2, true), (3, true), (5, true), (6, true), (7, true), (4, false), (8, true), (9, true), (10, true), (11, true), (12, false), (13, true), (14, true), (15, true)] (by kernel_rfl) (by kernel_rfl) (below_dq (Below.refl _ _) 1) ?_
    have B1 : Hid (Below w1.heap.size w1 w1.drew) := below_dq (Below.refl _ _) 1
    refine Mixed.wpMix_loud rfl ?_
    go_wp2_with fail
    refine (AL1.out _ B1.out).mono ?_
    rintro e w3 ⟨rfl, hb⟩
    have C2 := B1.out.trans (hb.mono B1.out.size)
    have B2 := Lib.hid C2
    go_wp2
    refine ⟨C2, ?_⟩
    clear hb C2
    refine Mixed.mo rfl (.bool true) (fun w h => by clear h; go_simp; try rfl) ?_
    refine Mixed.mo rfl (.agg #[.int .i64 k, .string t, .int .i64 n, .int .i64 q]) (fun w h => by obtain ⟨h0, h1, h2, h3, hf⟩ := (TK1.out w h).cells; clear h; go_simp; try rfl) ?_
    refine Mixed.mo rfl (.slice A m cap) (fun w h => by clear h; go_simp; try rfl) ?_
    refine Mixed.mo rfl (.pointer (some ⟨b, 0, none⟩)) (fun w h => by clear h; go_simp; try rfl) ?_
    refine Mixed.mo rfl (.int .i64 k) (fun w h => by obtain ⟨h0, h1, h2, h3, hf⟩ := (TK1.out w h).cells; clear h; go_simp; try rfl) ?_
    refine Mixed.mo rfl (.bool false) (fun w h => by clear h; go_simp; try rfl) ?_
    refine Mixed.wpMix_loud rfl ?_
    go_wp2_with fail
    refine (IS1.out _ B2.out).mono ?_
    rintro e w4 ⟨rfl, hb⟩
    have C3 := B2.out.trans (hb.mono B2.out.size)
    have B3 := Lib.hid C3
    go_wp2
    refine ⟨C3, ?_⟩
    clear hb C3
    refine Mixed.mo rfl (.bool false) (fun w h => by clear h; go_simp; try rfl) ?_
    iterate 3 refine Mixed.ms rfl ?_
    refine Mixed.wpMix_loud rfl ?_
    have C4 := B3.out
    go_wp2
    refine ⟨C4, ?_⟩
    clear C4
    refine Mixed.mo rfl (.bool false) (fun w h => by clear h; go_simp; try rfl) ?_
    refine Mixed.mo rfl (.bool true) (fun w h => by clear h; go_simp; try rfl) ?_
    refine Mixed.mo rfl (.bool true) (fun w h => by clear h; go_simp; try rfl) ?_
    simp only [Mixed.wpMix, List.drop_succ_cons, List.drop_zero]
    go_wp2
    go_ret
    exact ⟨rfl, by first | exact Y1.out.trans (B3.out.mono zz) | (rw [hb]; exact Y1.out.trans (B3.out.mono zz))⟩

set_option maxRecDepth 100000 in
theorem lifted (os : Os) (started : os.Started) (H : Type) (enc : TypeId × Value → H) :
    ReturnsInHanded {} Tryd.checked os 8 .any (fun w args => (Rows.lexSignsSpec.pre enc Tryd.prog Tryd.f8 [] false w args ∧ laidMetH Tryd.prog Rows.lexSignsRow.laid w) ∧ sizedMet enc Tryd.prog Tryd.f8 (OpenSpec.ofChange Rows.lexSignsSpec) false w args)
      (Rows.lexSignsSpec.post enc Tryd.prog Tryd.f8 false true false false) := by
  refine wrap_shaped (C := Tryd.checked) (X := fun w _ => laidMetH Tryd.prog Rows.lexSignsRow.laid w) (fun _ _ _ hh h => h.of_heap hh) own started (by kernel_rfl) Tryd.func8
    (ChangeSpec.witness_shaped (enc := enc) (C := Tryd.checked) (os := os) (X := fun w _ => laidMetH Tryd.prog Rows.lexSignsRow.laid w) false (World.laidAll Tryd.prog os Rows.lexSignsRow.laid) #[.agg #[.int .i64 0, .string ⟨#[]⟩, .int .i64 0, .int .i64 0], .slice none 0 0] 8 (World.laidAll_os _ _ _)
      (World.shaped_of_ZipB (by kernel_rfl) (by kernel_rfl)) (by kernel_rfl) (by kernel_rfl) (by kernel_rfl)
      (by rw [MakeChecks.laidMetH_plain _ _ _ (by kernel_rfl)]; exact laidMet_laidAll _ (by kernel_rfl) (by kernel_rfl))) ?_
  intro W base args ds gs before hval0 hW hL hsh
  have hval : ∀ (j : Nat) t v, Tryd.f8.params[j]? = some t → args[j]? = some v → Value.okWide Tryd.prog W .any base t v := hval0
  have hW' := hW
  obtain ⟨p, q, hA0, hV, rfl, _, _⟩ := hW
  have hA : DataW.TrodAll enc Tryd.prog W 0 (fun _ => true) true Tryd.f8.params.toList args.toList ds p := hA0
  rw [Tryd.params8] at hA hval
  obtain ⟨v0, vs0, d0, ds0, p0, q0, hargs, rfl, rfl, h0, r0⟩ := trodAll_cons hA
  obtain ⟨v1, vs1, d1, ds1, p1, q1, rfl, rfl, rfl, h1, r1⟩ := trodAll_cons r0
  obtain ⟨rfl, rfl, rfl⟩ := trodAll_nil r1
  obtain rfl : args = #[v0, v1] := by cases args; simp_all
  obtain ⟨rfl, rfl⟩ := trodVars_none hV
  have k0 := h0
  have lt0 : ∀ x ∈ p0, x.block < W.heap.size := by obtain ⟨m, hm⟩ := k0; exact DataW.trod_lt m _ _ _ hm
  obtain ⟨a0, t0, b0, c0, rfl, w0⟩ := open_tok (hval 0 34 v0 rfl rfl) h0
  have k1 := h1
  have lt1 : ∀ x ∈ p1, x.block < W.heap.size := by obtain ⟨m, hm⟩ := k1; exact DataW.trod_lt m _ _ _ hm
  obtain ⟨a1, len1, cap1, rfl⟩ := okWide_slice Tryd.underlying47 (hval 1 47 v1 rfl rfl)
  obtain ⟨z1, hz1, hm1, w1, c1⟩ : ∃ xs, len1 = xs.length ∧ len1 ≤ maxLen ∧ StrsP (fun _ => True) W a1 xs ∧ ∀ s ∈ xs, s.size ≤ maxLen := by
    obtain ⟨fuel, hf⟩ := h1
    have hf' : DataW.trod enc Tryd.prog W 0 (fun _ => true) true fuel 47 [.slice a1 len1 cap1] = some (d1, p1) := by simpa [Value.cells] using hf
    obtain ⟨A, len, cap, xs, e1, e2, e3, e4, e5⟩ := open_strs hf'
    simp only [Value.slice.injEq] at e1
    obtain ⟨rfl, rfl, rfl⟩ := e1
    exact ⟨xs, e2, e3, e4, e5⟩
  subst hz1
  clear hA0 hval0
  refine (walk a0 t0 b0 c0 a1 cap1 z1 W w0 hm1 w1 c1 (max_of_shape hsh) (sg_of_laid hL (by kernel_rfl) (.tail _ (.head _)))).mono fun e W' ⟨he, bel⟩ => ?_
  subst he
  exact ⟨_, rfl, _, _, _, [], _, [], hW', trodAll_mk1 (shut_bool Tryd.underlying4 _), (trodAll_cons_mk (Below.trod laidOut (by kernel_rfl) (of_decide_eq_true (by kernel_rfl)) k0 bel lt0) (trodAll_cons_mk (Below.trod laidOut (by kernel_rfl) (of_decide_eq_true (by kernel_rfl)) k1 bel lt1) trodAll_mk0)), rfl, bel.frame _, fun h => by cases h⟩

theorem over : Rows.LexSignsSaid :=
  OpenClaim.holds_of_wide 8 Tryd.f8 rfl rfl rfl rfl rfl rfl rfl ⟨rfl, rfl, rfl, rfl, rfl⟩ rfl rfl rfl rfl rfl (by kernel_rfl) Tryd.func8 (by kernel_rfl)
    (of_decide_eq_true (by kernel_rfl)) (by unfold Func.isWrapper; first | (rw [if_pos (by decide +kernel)]; kernel_rfl) | (rw [if_neg (by decide +kernel)]; exact ⟨rfl, rfl⟩))
    (fun os started H enc _ => lifted os started H enc)
theorem card_holds : Rows.LexSignsCardSaid :=
  Claim7.holds_tied_plain_at .later [] [.data, .data, .pinned] true Rows.lexSignsCard.stood.harness false over (fun _ h => by cases h) (by kernel_rfl) (fun _ h => by cases h) lexSigns_row_tie rfl ⟨rfl, rfl⟩ (by kernel_rfl) rfl
    (fun f fn hf hfn => by
      obtain rfl : f = 8 := Option.some.inj ((show Tryd.prog.funcNamed Tryd.f8.name = some 8 by kernel_rfl).symm.trans hf) |>.symm
      obtain rfl : fn = Tryd.f8 := (Option.some.inj (Tryd.func8.symm.trans hfn)).symm
      exact ⟨by kernel_rfl, fun j t ht => by
        rw [Tryd.params8] at ht
        have hm : t ∈ [34, 47] := by simpa [or_assoc, or_comm, or_left_comm] using Array.mem_of_getElem? ht
        have hall : ([34, 47].all fun u => !Tryd.prog.wantsStandIn u) = true := by kernel_rfl
        exact (show Tryd.prog.wantsStandIn t = false by simpa using List.all_eq_true.1 hall t hm)⟩)
    (by kernel_rfl)
#print axioms card_holds
end Go.Proofs.YtcmcikcagpkocaaDoor.lexSignsDone
