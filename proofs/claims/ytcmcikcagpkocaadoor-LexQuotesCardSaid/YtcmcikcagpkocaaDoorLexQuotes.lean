/-
  The form of a string is a token as a whole, with this string as its text: the statement LexQuotes holds for every input; what was there before the call is left as it was. It reads the variables lex.signs and bytealg.MaxLen.
-/
import Derived.Test.YtcmcikcagpkocaaDoorLxX
import Derived.Test.YtcmcikcagpkocaaDoorLxZ
import Derived.Test.YtcmcikcagpkocaaDoorCards
import Derived.Test.YtcmcikcagpkocaaDoorTie
import Derived.ProofKit
import Derived.OpenShut
import Derived.Lay
import Derived.LaidOnce
import Derived.SevenTiedAt
import Derived.Below
namespace Go.Proofs.YtcmcikcagpkocaaDoor.lexQuotesDone
open Go.ChangeShapes Go.WideShapes Go.ChangeAt Go.RowKit
open Go.ChangeMaps (open_string shut_string)
set_option linter.unusedVariables false

theorem own : ownKnob Tryd.prog.godebug = none := by kernel_rfl
theorem laidOut : laidOutB Tryd.prog = true := by kernel_rfl
/-- A slice of integers that came in: nil, or a row of 'cap' cells that hold the numbers 'zs'. -/
def IsRow (k : IntKind) (w : World) (a : Option Addr) (len cap : Nat) (zs : List Int) : Prop :=
  (a = none ∧ len = 0 ∧ cap = 0 ∧ zs = []) ∨
  ∃ x, a = some x ∧ len ≤ cap ∧ cap ≤ maxLen ∧ zs.length = cap ∧ (∀ i, i < zs.length → w.cell? (x.add i) = some (.int k (zs.getD i 0))) ∧ ∀ n ∈ zs, (Lit.int k n).wf = true

attribute [local go_sem] Oper.semAt_some
/-- What the law reads of the tokens of a form. -/
theorem two_cells {w : World} {A : Option Addr} {l : List UInt8} {s : ByteArray} {q : Int} (hs : s.data.toList = l) (K : KsP w A [⟨3, l, 0, 0⟩, ⟨0, [], 0, q⟩]) :
    ∃ g off, A = some ⟨g, off, none⟩ ∧ w.cell? ⟨g, off, none⟩ = some (.int .i64 3) ∧ w.cell? ⟨g, off + 1, none⟩ = some (.string s) ∧ w.cell? ⟨g, off + 3, none⟩ = some (.int .i64 0) ∧ w.cell? ⟨g, off + 1 * 4 + 3, none⟩ = some (.int .i64 q) ∧ w.cell? ⟨g, off + 4 + 3, none⟩ = some (.int .i64 q) := by
  obtain ⟨g, off, rfl, -, c0, c1, -, c3⟩ := K.at_ (k := 0) (by simp)
  obtain ⟨g', off', e, -, -, -, -, d3⟩ := K.at_ (k := 1) (by simp)
  simp only [Option.some.injEq, Addr.mk.injEq, and_true] at e
  obtain ⟨rfl, rfl⟩ := e
  have e1 : sOf l = s := by rw [← hs]; exact sOf_of s
  refine ⟨g, off, rfl, c0, ?_, ?_, d3, d3⟩
  · have h : w.cell? ⟨g, off + 0 * 4 + 1, none⟩ = some (.string (sOf l)) := c1
    rw [e1, show off + 0 * 4 + 1 = off + 1 by omega] at h
    exact h
  · have h : w.cell? ⟨g, off + 0 * 4 + 3, none⟩ = some (.int .i64 0) := c3
    rw [show off + 0 * 4 + 3 = off + 3 by omega] at h
    exact h
set_option maxRecDepth 100000 in
set_option maxHeartbeats 4000000 in
theorem walk (s : ByteArray) (b : Bool) (w : World) (ws : s.size ≤ maxLen) (M : MaxAt w) (SG : SgAt w) :
    Calls Tryd.prog 6 #[.string s, .bool b] w fun e w' => e = .returned (.bool true) ∧ Below w.heap.size w w' := by
  unfold maxLen at ws
  by_cases h : 300 < s.size
  · have AL := Lib.hid (lalive_any w SG)
    clear M SG
    go_enter Tryd.func6, Tryd.ntmps6
    go_wp2_with fail
    refine AL.out.mono ?_
    rintro e w2 ⟨rfl, hb⟩
    have B := Lib.hid hb
    clear hb
    go_wp2
    go_ret
    exact ⟨rfl, B.out⟩
  · obtain ⟨l, hl⟩ : ∃ l, s.data.toList = l := ⟨_, rfl⟩
    have hll : l.length ≤ 300 := by have : s.data.toList.length = s.size := by simp
                                    rw [← hl]; omega
    have Q0 := quote_any s (by omega) w M
    rw [hl] at Q0
    have HL : Hid (s.data.toList = l ∧ l.length ≤ 300) := ⟨hl, hll⟩
    have M1 := Lib.hid M
    have SG1 := Lib.hid SG
    have Q1 := Lib.hid Q0
    obtain ⟨Q, hQ⟩ : ∃ Q, sOf (quoL 34 l) = Q := ⟨_, rfl⟩
    rw [hQ] at Q1
    have HQ := Lib.hid hQ
    have qq := strBx Q
    have qs := strBx s
    have qn : (Q.toList != Q.toList) = false := by rw [bne, qq]; rfl
    clear Q0 M SG hl hll hQ
    cases b
    · go_enter Tryd.func6, Tryd.ntmps6
      go_wp2_with fail
      refine Q1.out.mono ?_
      rintro e w2 ⟨rfl, hb⟩
      have B2 := Lib.hid hb
      have RQ0 := rquote_any s (by omega) w2
      rw [HL.out.1, HQ.out] at RQ0
      have RQ1 := Lib.hid RQ0
      clear hb RQ0
      go_wp2_with fail
      refine RQ1.out.mono ?_
      rintro e w3 ⟨rfl, hb⟩
      have B3 := Lib.hid (B2.out.trans (hb.mono B2.out.size))
      have SG3 := SG1.out.up B3.out
      have hq2 := quo_size 34 l
      have hql : (quoL 34 l).length ≤ 1024 := by have := HL.out.2; omega
      have hQs : Q.size = (quoL 34 l).length := by rw [← HQ.out, sOf_size]
      have hQl : Q.data.toList = quoL 34 l := by rw [← HQ.out, sOf_list]
      have TK0 := tokens_any Q (by omega) w3 SG3 SG3.lt
      rw [hQl] at TK0
      have TK := Lib.hid TK0
      have HQL := Lib.hid hql
      have HQS := Lib.hid hQs
      clear hb SG3 hq2 hql hQl TK0 B2 Q1 RQ1
      go_wp2_with fail
      refine TK.out.mono ?_
      rintro e w4 hr
      obtain ⟨c, T, hT⟩ := tok_all (quoL 34 l) 0
      obtain ⟨rfl, rfl⟩ := quote_whole 34 (.inl rfl) l hT
      obtain ⟨A, cap, rfl, K, hb⟩ := ret_read hr HQL.out hT
      obtain ⟨g, off, rfl, d0, d1, d3, d7, d7'⟩ := two_cells HL.out.1 K
      rw [← HQS.out] at d7 d7'
      have D : Hid (w4.cell? ⟨g, off, none⟩ = some (.int .i64 3) ∧ w4.cell? ⟨g, off + 1, none⟩ = some (.string s) ∧ w4.cell? ⟨g, off + 3, none⟩ = some (.int .i64 0) ∧ w4.cell? ⟨g, off + 1 * 4 + 3, none⟩ = some (.int .i64 (Q.size : Int)) ∧ w4.cell? ⟨g, off + 4 + 3, none⟩ = some (.int .i64 (Q.size : Int))) := ⟨d0, d1, d3, d7, d7'⟩
      have B4 := Lib.hid (B3.out.trans (hb.mono B3.out.size))
      have AL := Lib.hid (lalive_any w4 (SG1.out.up B4.out))
      have glt := World.block_lt_of_cell? w4 _ d0
      clear hr hT K hb d0 d1 d3 d7 d7' B3 TK
      go_wp2_with fail
      refine AL.out.mono ?_
      rintro e w5 ⟨rfl, hb⟩
      have ce : ∀ o v, w4.cell? ⟨g, o, none⟩ = some v → w5.cell? ⟨g, o, none⟩ = some v := fun o v hv => (hb.cell (p := ⟨g, o, none⟩) glt).trans hv
      have d0 := ce _ _ D.out.1
      have d1 := ce _ _ D.out.2.1
      have d3 := ce _ _ D.out.2.2.1
      have d7 := ce _ _ D.out.2.2.2.1
      have d7' := ce _ _ D.out.2.2.2.2
      have B5 := Lib.hid (B4.out.trans (hb.mono B4.out.size))
      clear hb ce AL B4 D
      go_wp2
      go_ret
      exact ⟨ret_bool (by simp), B5.out⟩
    · go_enter Tryd.func6, Tryd.ntmps6
      go_wp2_with fail
      refine Q1.out.mono ?_
      rintro e w2 ⟨rfl, hb⟩
      have B2 := Lib.hid hb
      have RQ0 := rquote_any s (by omega) w2
      rw [HL.out.1, HQ.out] at RQ0
      have RQ1 := Lib.hid RQ0
      clear hb RQ0
      go_wp2_with fail
      refine RQ1.out.mono ?_
      rintro e w3 ⟨rfl, hb⟩
      have B3 := Lib.hid (B2.out.trans (hb.mono B2.out.size))
      have RA0 := repAll_any 39 s (by omega) w3 (M1.out.up B3.out)
      rw [HL.out.1] at RA0
      have hq2 := quo_size 39 l
      have hql : (quoL 39 l).length ≤ 1024 := by have := HL.out.2; omega
      have hX2 : (sOf (dblL 39 l)).size ≤ 600 := by have := HL.out.2; omega
      have hc := cat_quo 39 l
      obtain ⟨X, hX⟩ : ∃ X, sOf (dblL 39 l) = X := ⟨_, rfl⟩
      rw [hX] at RA0 hX2 hc
      have RA := Lib.hid RA0
      obtain ⟨P, hP⟩ : ∃ P, sOf (quoL 39 l) = P := ⟨_, rfl⟩
      rw [hP] at hc
      have HP := Lib.hid hP
      have HQL := Lib.hid hql
      clear hb hq2 hql hX RA0 hP B2 Q1 RQ1
      go_wp2_with fail
      refine RA.out.mono ?_
      rintro e w4 ⟨rfl, hb⟩
      have B4 := Lib.hid (B3.out.trans (hb.mono B3.out.size))
      have SG4 := SG1.out.up B4.out
      have hPs : P.size = (quoL 39 l).length := by rw [← HP.out, sOf_size]
      have hPl : P.data.toList = quoL 39 l := by rw [← HP.out, sOf_list]
      have TK0 := tokens_any P (by have := HQL.out; omega) w4 SG4 SG4.lt
      rw [hPl] at TK0
      have TK := Lib.hid TK0
      have HPS := Lib.hid hPs
      clear hb SG4 hPs hPl TK0 B3 RA
      go_wp2_with fail
      refine TK.out.mono ?_
      rintro e w5 hr
      obtain ⟨c, T, hT⟩ := tok_all (quoL 39 l) 0
      obtain ⟨rfl, rfl⟩ := quote_whole 39 (.inr rfl) l hT
      obtain ⟨A, cap, rfl, K, hb⟩ := ret_read hr HQL.out hT
      obtain ⟨g, off, rfl, d0, d1, d3, d7, d7'⟩ := two_cells HL.out.1 K
      rw [← HPS.out] at d7 d7'
      have D : Hid (w5.cell? ⟨g, off, none⟩ = some (.int .i64 3) ∧ w5.cell? ⟨g, off + 1, none⟩ = some (.string s) ∧ w5.cell? ⟨g, off + 3, none⟩ = some (.int .i64 0) ∧ w5.cell? ⟨g, off + 1 * 4 + 3, none⟩ = some (.int .i64 (P.size : Int)) ∧ w5.cell? ⟨g, off + 4 + 3, none⟩ = some (.int .i64 (P.size : Int))) := ⟨d0, d1, d3, d7, d7'⟩
      have B5 := Lib.hid (B4.out.trans (hb.mono B4.out.size))
      have AL := Lib.hid (lalive_any w5 (SG1.out.up B5.out))
      have glt := World.block_lt_of_cell? w5 _ d0
      clear hr hT K hb d0 d1 d3 d7 d7' B4 TK
      go_wp2_with fail
      refine AL.out.mono ?_
      rintro e w6 ⟨rfl, hb⟩
      have ce : ∀ o v, w5.cell? ⟨g, o, none⟩ = some v → w6.cell? ⟨g, o, none⟩ = some v := fun o v hv => (hb.cell (p := ⟨g, o, none⟩) glt).trans hv
      have d0 := ce _ _ D.out.1
      have d1 := ce _ _ D.out.2.1
      have d3 := ce _ _ D.out.2.2.1
      have d7 := ce _ _ D.out.2.2.2.1
      have d7' := ce _ _ D.out.2.2.2.2
      have B6 := Lib.hid (B5.out.trans (hb.mono B5.out.size))
      clear hb ce AL B5 D
      go_wp2
      go_ret
      exact ⟨ret_bool (by simp), B6.out⟩

set_option maxRecDepth 100000 in
theorem lifted (os : Os) (started : os.Started) (H : Type) (enc : TypeId × Value → H) :
    ReturnsInHanded {} Tryd.checked os 6 .any (fun w args => (Rows.lexQuotesSpec.pre enc Tryd.prog Tryd.f6 [] false w args ∧ laidMetH Tryd.prog Rows.lexQuotesRow.laid w) ∧ sizedMet enc Tryd.prog Tryd.f6 (OpenSpec.ofChange Rows.lexQuotesSpec) false w args)
      (Rows.lexQuotesSpec.post enc Tryd.prog Tryd.f6 false true false false) := by
  refine wrap_shaped (C := Tryd.checked) (X := fun w _ => laidMetH Tryd.prog Rows.lexQuotesRow.laid w) (fun _ _ _ hh h => h.of_heap hh) own started (by kernel_rfl) Tryd.func6
    (ChangeSpec.witness_shaped (enc := enc) (C := Tryd.checked) (os := os) (X := fun w _ => laidMetH Tryd.prog Rows.lexQuotesRow.laid w) false (World.laidAll Tryd.prog os Rows.lexQuotesRow.laid) #[.string ⟨#[]⟩, .bool false] 8 (World.laidAll_os _ _ _)
      (World.shaped_of_ZipB (by kernel_rfl) (by kernel_rfl)) (by kernel_rfl) (by kernel_rfl) (by kernel_rfl)
      (by rw [MakeChecks.laidMetH_plain _ _ _ (by kernel_rfl)]; exact laidMet_laidAll _ (by kernel_rfl) (by kernel_rfl))) ?_
  intro W base args ds gs before hval0 hW hL hsh
  have hval : ∀ (j : Nat) t v, Tryd.f6.params[j]? = some t → args[j]? = some v → Value.okWide Tryd.prog W .any base t v := hval0
  have hW' := hW
  obtain ⟨p, q, hA0, hV, rfl, _, _⟩ := hW
  have hA : DataW.TrodAll enc Tryd.prog W 0 (fun _ => true) true Tryd.f6.params.toList args.toList ds p := hA0
  rw [Tryd.params6] at hA hval
  obtain ⟨v0, vs0, d0, ds0, p0, q0, hargs, rfl, rfl, h0, r0⟩ := trodAll_cons hA
  obtain ⟨v1, vs1, d1, ds1, p1, q1, rfl, rfl, rfl, h1, r1⟩ := trodAll_cons r0
  obtain ⟨rfl, rfl, rfl⟩ := trodAll_nil r1
  obtain rfl : args = #[v0, v1] := by cases args; simp_all
  obtain ⟨rfl, rfl⟩ := trodVars_none hV
  obtain ⟨s0, rfl, rfl, rfl, w0⟩ := open_string Tryd.underlying9 (hval 0 9 v0 rfl rfl) h0
  obtain ⟨b1, rfl, rfl, rfl⟩ := open_bool Tryd.underlying4 (hval 1 4 v1 rfl rfl) h1
  clear hA0 hval0
  refine (walk s0 b1 W w0 (max_of_shape hsh) (sg_of_laid hL (by kernel_rfl) (.tail _ (.head _)))).mono fun e W' ⟨he, bel⟩ => ?_
  subst he
  exact ⟨_, rfl, _, _, _, [], _, [], hW', trodAll_mk1 (shut_bool Tryd.underlying4 _), (trodAll_cons_mk (shut_string Tryd.underlying9 w0) (trodAll_cons_mk (shut_bool Tryd.underlying4 b1) trodAll_mk0)), rfl, bel.frame _, fun h => by cases h⟩

theorem over : Rows.LexQuotesSaid :=
  OpenClaim.holds_of_wide 6 Tryd.f6 rfl rfl rfl rfl rfl rfl rfl ⟨rfl, rfl, rfl, rfl, rfl⟩ rfl rfl rfl rfl rfl (by kernel_rfl) Tryd.func6 (by kernel_rfl)
    (of_decide_eq_true (by kernel_rfl)) (by unfold Func.isWrapper; first | (rw [if_pos (by decide +kernel)]; kernel_rfl) | (rw [if_neg (by decide +kernel)]; exact ⟨rfl, rfl⟩))
    (fun os started H enc _ => lifted os started H enc)
theorem card_holds : Rows.LexQuotesCardSaid :=
  Claim7.holds_tied_plain_at .later [] [.data, .data, .pinned] true Rows.lexQuotesCard.stood.harness false over (fun _ h => by cases h) (by kernel_rfl) (fun _ h => by cases h) lexQuotes_row_tie rfl ⟨rfl, rfl⟩ (by kernel_rfl) rfl
    (fun f fn hf hfn => by
      obtain rfl : f = 6 := Option.some.inj ((show Tryd.prog.funcNamed Tryd.f6.name = some 6 by kernel_rfl).symm.trans hf) |>.symm
      obtain rfl : fn = Tryd.f6 := (Option.some.inj (Tryd.func6.symm.trans hfn)).symm
      exact ⟨by kernel_rfl, fun j t ht => by
        rw [Tryd.params6] at ht
        have hm : t ∈ [9, 4] := by simpa [or_assoc, or_comm, or_left_comm] using Array.mem_of_getElem? ht
        have hall : ([9, 4].all fun u => !Tryd.prog.wantsStandIn u) = true := by kernel_rfl
        exact (show Tryd.prog.wantsStandIn t = false by simpa using List.all_eq_true.1 hall t hm)⟩)
    (by kernel_rfl)
#print axioms card_holds
end Go.Proofs.YtcmcikcagpkocaaDoor.lexQuotesDone
