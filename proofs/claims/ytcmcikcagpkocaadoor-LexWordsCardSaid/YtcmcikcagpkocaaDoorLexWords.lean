/-
  For all strings, lex.IsWord returns the result of the reference, and a word is a token as a whole: the statement LexWords holds for every input; what was there before the call is left as it was. It reads the variable lex.signs.
-/
import Derived.Test.YtcmcikcagpkocaaDoorLxW
import Derived.Test.YtcmcikcagpkocaaDoorLxZ
import Derived.Test.YtcmcikcagpkocaaDoorCards
import Derived.Test.YtcmcikcagpkocaaDoorTie
import Derived.ProofKit
import Derived.OpenShut
import Derived.Lay
import Derived.LaidOnce
import Derived.SevenTiedAt
import Derived.Below
namespace Go.Proofs.YtcmcikcagpkocaaDoor.lexWordsDone
open Go.ChangeShapes Go.WideShapes Go.ChangeAt Go.RowKit
open Go.ChangeMaps (open_string shut_string)
set_option linter.unusedVariables false

theorem own : ownKnob Tryd.prog.godebug = none := by kernel_rfl
theorem laidOut : laidOutB Tryd.prog = true := by kernel_rfl
/-- A slice of integers that came in: nil, or a row of 'cap' cells that hold the numbers 'zs'. -/
def IsRow (k : IntKind) (w : World) (a : Option Addr) (len cap : Nat) (zs : List Int) : Prop :=
  (a = none ∧ len = 0 ∧ cap = 0 ∧ zs = []) ∨
  ∃ x, a = some x ∧ len ≤ cap ∧ cap ≤ maxLen ∧ zs.length = cap ∧ (∀ i, i < zs.length → w.cell? (x.add i) = some (.int k (zs.getD i 0))) ∧ ∀ n ∈ zs, (Lit.int k n).wf = true

attribute [local go_sem] Oper.semAt_some
set_option maxRecDepth 100000 in
set_option maxHeartbeats 4000000 in
theorem walk (s : ByteArray) (w : World) (ws : s.size ≤ maxLen) (M : MaxAt w) (SG : SgAt w) :
    Calls Tryd.prog 5 #[.string s] w fun e w' => e = .returned (.bool true) ∧ Below w.heap.size w w' := by
  unfold maxLen at ws
  by_cases h : 300 < s.size
  · have AL := Lib.hid (lalive_any w SG)
    clear M SG
    go_enter Tryd.func5, Tryd.ntmps5
    go_wp2_with fail
    refine AL.out.mono ?_
    rintro e w2 ⟨rfl, hb⟩
    have B := Lib.hid hb
    clear hb
    go_wp2
    go_ret
    exact ⟨rfl, B.out⟩
  · have IW0 := isWord_any s (by omega) w
    obtain ⟨c, T, hT⟩ := tok_all s.data.toList 0
    have WH := word_whole hT
    obtain ⟨b, hb0⟩ : ∃ b, isWd s.data.toList = b := ⟨_, rfl⟩
    rw [hb0] at IW0 WH
    have HB := Lib.hid hb0
    have IW := Lib.hid IW0
    have HT := Lib.hid hT
    have HW := Lib.hid WH
    have SG1 := Lib.hid SG
    have hl : s.data.toList.length ≤ 1024 := by have : s.data.toList.length = s.size := by simp
                                                omega
    have HL := Lib.hid hl
    clear M SG IW0 WH hb0 hT hl
    go_enter Tryd.func5, Tryd.ntmps5
    go_wp2_with fail
    refine IW.out.mono ?_
    rintro e w2 ⟨rfl, hb⟩
    have B2 := Lib.hid hb
    have TK := Lib.hid (tokens_any s (by omega) w2 (SG1.out.up hb) (SG1.out.up hb).lt)
    clear hb IW
    go_wp2_with fail
    refine TK.out.mono ?_
    rintro e w3 hr
    obtain ⟨A, cap, rfl, K, hb⟩ := ret_read hr HL.out HT.out
    have B3 := Lib.hid (B2.out.trans (hb.mono B2.out.size))
    have AL := Lib.hid (lalive_any w3 (SG1.out.up B3.out))
    clear hr TK B2 SG1 HL hb
    obtain ⟨n, hn⟩ : ∃ n, T.length = n := ⟨_, rfl⟩
    rw [hn]
    by_cases h2 : n = 2
    · subst h2
      obtain ⟨t, u, rfl⟩ : ∃ t u, T = [t, u] := by
        match T, hn with
        | [t, u], _ => exact ⟨t, u, rfl⟩
      obtain ⟨g, off, rfl, -, c0, c1, -, -⟩ := K.at_ (k := 0) (show 0 < [t, u].length by simp)
      have d0 : w3.cell? ⟨g, off, none⟩ = some (.int .i64 t.k) := c0
      have d1 : w3.cell? ⟨g, off + 1, none⟩ = some (.string (sOf t.t)) := by rw [show off + 1 = off + 0 * 4 + 1 by omega]; exact c1
      have HW2 : (decide (t.k = 1) && decide (t.t = s.data.toList)) = b := HW.out
      clear HW HT c0 c1 K hn
      have hcase : (((t.k == 1) = false ∧ b = false) ∨ ((t.k == 1) = true ∧ ((sOf t.t).toList == s.toList) = b)) := by
        by_cases hk : t.k = 1
        · refine .inr ⟨by rw [hk]; rfl, ?_⟩
          rw [← HW2, hk, eq_list, sOf_list, ByteArray.toList_eq]
          rfl
        · exact .inl ⟨beq_eq_false_iff_ne.2 hk, by rw [← HW2, decide_eq_false hk]; rfl⟩
      obtain ⟨kk, hkk⟩ : ∃ kk, t.k = kk := ⟨_, rfl⟩
      obtain ⟨TT, hTT⟩ : ∃ TT, sOf t.t = TT := ⟨_, rfl⟩
      rw [hkk] at d0 hcase
      rw [hTT] at d1 hcase
      clear HW2 hkk hTT
      rcases hcase with ⟨e1, rfl⟩ | ⟨e1, e2⟩
      case inl =>
        go_wp2_with fail
        refine AL.out.mono ?_
        rintro e w5 ⟨rfl, hb⟩
        have RW := Lib.hid (risWord_any s (by omega) w5)
        have B5 := Lib.hid (B3.out.trans (hb.mono B3.out.size))
        clear hb AL B3
        rw [HB.out] at RW
        go_wp2_with fail
        refine RW.out.mono ?_
        rintro e w6 ⟨rfl, hb⟩
        have B6 := Lib.hid (B5.out.trans (hb.mono B5.out.size))
        clear hb RW B5
        go_wp2
        go_ret
        exact ⟨ret_bool (by simp), B6.out⟩
      case inr =>
        cases b
        all_goals
          go_wp2_with fail
          refine AL.out.mono ?_
          rintro e w5 ⟨rfl, hb⟩
          have RW := Lib.hid (risWord_any s (by omega) w5)
          have B5 := Lib.hid (B3.out.trans (hb.mono B3.out.size))
          clear hb AL B3
          rw [HB.out] at RW
          go_wp2_with fail
          refine RW.out.mono ?_
          rintro e w6 ⟨rfl, hb⟩
          have B6 := Lib.hid (B5.out.trans (hb.mono B5.out.size))
          clear hb RW B5
          go_wp2
          go_ret
          exact ⟨ret_bool (by simp), B6.out⟩
    · have hne : ((n : Int) == 2) = false := beq_eq_false_iff_ne.2 (by omega)
      have hbf : b = false := by
        rw [← HW.out]
        unfold wholeW
        split
        · next e => exact absurd hn.symm h2
        · rfl
      subst hbf
      clear HW HT K hn h2
      go_wp2_with fail
      refine AL.out.mono ?_
      rintro e w5 ⟨rfl, hb⟩
      have RW := Lib.hid (risWord_any s (by omega) w5)
      have B5 := Lib.hid (B3.out.trans (hb.mono B3.out.size))
      clear hb AL B3
      rw [HB.out] at RW
      go_wp2_with fail
      refine RW.out.mono ?_
      rintro e w6 ⟨rfl, hb⟩
      have B6 := Lib.hid (B5.out.trans (hb.mono B5.out.size))
      clear hb RW B5
      go_wp2
      go_ret
      exact ⟨ret_bool (by simp), B6.out⟩

set_option maxRecDepth 100000 in
theorem lifted (os : Os) (started : os.Started) (H : Type) (enc : TypeId × Value → H) :
    ReturnsInHanded {} Tryd.checked os 5 .any (fun w args => (Rows.lexWordsSpec.pre enc Tryd.prog Tryd.f5 [] false w args ∧ laidMetH Tryd.prog Rows.lexWordsRow.laid w) ∧ sizedMet enc Tryd.prog Tryd.f5 (OpenSpec.ofChange Rows.lexWordsSpec) false w args)
      (Rows.lexWordsSpec.post enc Tryd.prog Tryd.f5 false true false false) := by
  refine wrap_shaped (C := Tryd.checked) (X := fun w _ => laidMetH Tryd.prog Rows.lexWordsRow.laid w) (fun _ _ _ hh h => h.of_heap hh) own started (by kernel_rfl) Tryd.func5
    (ChangeSpec.witness_shaped (enc := enc) (C := Tryd.checked) (os := os) (X := fun w _ => laidMetH Tryd.prog Rows.lexWordsRow.laid w) false (World.laidAll Tryd.prog os Rows.lexWordsRow.laid) #[.string ⟨#[]⟩] 8 (World.laidAll_os _ _ _)
      (World.shaped_of_ZipB (by kernel_rfl) (by kernel_rfl)) (by kernel_rfl) (by kernel_rfl) (by kernel_rfl)
      (by rw [MakeChecks.laidMetH_plain _ _ _ (by kernel_rfl)]; exact laidMet_laidAll _ (by kernel_rfl) (by kernel_rfl))) ?_
  intro W base args ds gs before hval0 hW hL hsh
  have hval : ∀ (j : Nat) t v, Tryd.f5.params[j]? = some t → args[j]? = some v → Value.okWide Tryd.prog W .any base t v := hval0
  have hW' := hW
  obtain ⟨p, q, hA0, hV, rfl, _, _⟩ := hW
  have hA : DataW.TrodAll enc Tryd.prog W 0 (fun _ => true) true Tryd.f5.params.toList args.toList ds p := hA0
  rw [Tryd.params5] at hA hval
  obtain ⟨v0, vs0, d0, ds0, p0, q0, hargs, rfl, rfl, h0, r0⟩ := trodAll_cons hA
  obtain ⟨rfl, rfl, rfl⟩ := trodAll_nil r0
  obtain rfl : args = #[v0] := by cases args; simp_all
  obtain ⟨rfl, rfl⟩ := trodVars_none hV
  obtain ⟨s0, rfl, rfl, rfl, w0⟩ := open_string Tryd.underlying9 (hval 0 9 v0 rfl rfl) h0
  clear hA0 hval0
  refine (walk s0 W w0 (max_of_shape hsh) (sg_of_laid hL (by kernel_rfl) (.tail _ (.head _)))).mono fun e W' ⟨he, bel⟩ => ?_
  subst he
  exact ⟨_, rfl, _, _, _, [], _, [], hW', trodAll_mk1 (shut_bool Tryd.underlying4 _), (trodAll_cons_mk (shut_string Tryd.underlying9 w0) trodAll_mk0), rfl, bel.frame _, fun h => by cases h⟩

theorem over : Rows.LexWordsSaid :=
  OpenClaim.holds_of_wide 5 Tryd.f5 rfl rfl rfl rfl rfl rfl rfl ⟨rfl, rfl, rfl, rfl, rfl⟩ rfl rfl rfl rfl rfl (by kernel_rfl) Tryd.func5 (by kernel_rfl)
    (of_decide_eq_true (by kernel_rfl)) (by unfold Func.isWrapper; first | (rw [if_pos (by decide +kernel)]; kernel_rfl) | (rw [if_neg (by decide +kernel)]; exact ⟨rfl, rfl⟩))
    (fun os started H enc _ => lifted os started H enc)
theorem card_holds : Rows.LexWordsCardSaid :=
  Claim7.holds_tied_plain_at .later [] [.data, .data, .pinned] true Rows.lexWordsCard.stood.harness false over (fun _ h => by cases h) (by kernel_rfl) (fun _ h => by cases h) lexWords_row_tie rfl ⟨rfl, rfl⟩ (by kernel_rfl) rfl
    (fun f fn hf hfn => by
      obtain rfl : f = 5 := Option.some.inj ((show Tryd.prog.funcNamed Tryd.f5.name = some 5 by kernel_rfl).symm.trans hf) |>.symm
      obtain rfl : fn = Tryd.f5 := (Option.some.inj (Tryd.func5.symm.trans hfn)).symm
      exact ⟨by kernel_rfl, fun j t ht => by
        rw [Tryd.params5] at ht
        have hm : t ∈ [9] := by simpa [or_assoc, or_comm, or_left_comm] using Array.mem_of_getElem? ht
        have hall : ([9].all fun u => !Tryd.prog.wantsStandIn u) = true := by kernel_rfl
        exact (show Tryd.prog.wantsStandIn t = false by simpa using List.all_eq_true.1 hall t hm)⟩)
    (by kernel_rfl)
#print axioms card_holds
end Go.Proofs.YtcmcikcagpkocaaDoor.lexWordsDone
