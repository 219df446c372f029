/-
  OperandNames, for all strings: Named, Reserved and Names return the results of the reference; the law returns true, and its argument reads as it did.
  Conditions: none.
-/
import Derived.Test.YtbcbhdhhinopaaaDoorOpV
import Derived.Test.YtbcbhdhhinopaaaDoorOpT
import Derived.Test.YtbcbhdhhinopaaaDoorCards
import Derived.Test.YtbcbhdhhinopaaaDoorTie
import Derived.ProofKit
import Derived.OpenShut
import Derived.Lay
import Derived.LaidOnce
import Derived.SevenTiedAt
import Derived.Below
namespace Go.Proofs.YtbcbhdhhinopaaaDoor.operandNamesDone
open Go.ChangeShapes Go.WideShapes Go.ChangeAt Go.RowKit
open Go.ChangeMaps (open_string shut_string)
set_option linter.unusedVariables false

theorem own : ownKnob Tryd.prog.godebug = none := by kernel_rfl
theorem laidOut : laidOutB Tryd.prog = true := by kernel_rfl
/-- A slice of integers that came in: nil, or a row of 'cap' cells that hold the numbers 'zs'. -/
def IsRow (k : IntKind) (w : World) (a : Option Addr) (len cap : Nat) (zs : List Int) : Prop :=
  (a = none ∧ len = 0 ∧ cap = 0 ∧ zs = []) ∨
  ∃ x, a = some x ∧ len ≤ cap ∧ cap ≤ maxLen ∧ zs.length = cap ∧ (∀ i, i < zs.length → w.cell? (x.add i) = some (.int k (zs.getD i 0))) ∧ ∀ n ∈ zs, (Lit.int k n).wf = true

set_option maxRecDepth 100000 in
set_option maxHeartbeats 4000000 in
theorem walk (s : ByteArray) (w : World) (hs : s.size ≤ maxLen) :
    Calls Tryd.prog 4 #[.string s] w fun e w' => e = .returned (.bool true) ∧ Below w.heap.size w w' := by
  have hs0 := hs
  unfold maxLen at hs
  by_cases hl : 200 < s.size
  · have hl' : (200 : Int) < (s.size : Int) := by omega
    go_enter Tryd.func4, Tryd.ntmps4
    go_wp2_with fail
    refine (alive_any _).mono ?_
    rintro e w1 ⟨rfl, hh⟩
    have N := Lib.hid hh
    clear hh
    go_wp2
    go_ret
    exact ⟨rfl, N.out⟩
  · have hl' : decide ((200 : Int) < (s.size : Int)) = false := decide_eq_false (by omega)
    have NM := Lib.hid (fun w => named_any s hs0 w)
    have RM := Lib.hid (fun w => rnamed_any s (by omega) w)
    have RS := Lib.hid (fun w => reserved_any s hs0 w)
    have UP := Lib.hid (fun w => upper_any s hs0 w)
    have hlen := named_len s
    have CT := Lib.hid (fun A cap w (H : StrsA w A namesL) => containsS_any A cap namesL (by rw [names_len]; decide) (upB s) _ (in_names s) w H)
    obtain ⟨L, hL⟩ : ∃ L, namedL s = L := ⟨_, rfl⟩
    rw [hL] at NM RM RS hlen CT
    rw [names_len] at CT
    obtain ⟨n, hn⟩ : ∃ n, L.length = n := ⟨_, rfl⟩
    have EO := Lib.hid (fun A1 A2 c1 c2 w (H1 : OpsP w A1 L) (H2 : OpsP w A2 L) => equalO_any A1 A2 c1 c2 L L (by unfold maxLen; omega) (by unfold maxLen; omega) w H1 H2)
    have ES := Lib.hid (fun A1 A2 c1 c2 w (H1 : StrsA w A1 namesL) (H2 : StrsA w A2 namesL) => equalS_any A1 A2 c1 c2 namesL namesL (by rw [names_len]; decide) (by rw [names_len]; decide) w H1 H2)
    rw [decide_eq_true rfl] at EO ES
    rw [names_len] at ES
    rw [hn] at RS CT EO hlen
    have HN := Lib.hid hn
    obtain ⟨q, hq⟩ : ∃ q, decide (0 < n) = q := ⟨_, rfl⟩
    rw [hq] at RS CT
    clear hL hn hl
    go_enter Tryd.func4, Tryd.ntmps4
    go_wp2_with fail
    refine (NM.out _).mono ?_
    rintro e w1 ⟨A1, c1, rfl, hO1, hb⟩
    have N1 := Lib.hid hb
    have O1 := Lib.hid hO1
    rw [HN.out]
    clear hb hO1 NM
    go_wp2_with fail
    refine (alive_any _).mono ?_
    rintro e w2 ⟨rfl, hb⟩
    have N2 := Lib.hid (N1.out.trans (hb.mono N1.out.size))
    have O2 := Lib.hid (O1.out.below hb)
    clear hb N1 O1
    go_wp2_with fail
    refine (RM.out _).mono ?_
    rintro e w3 ⟨A3, c3, rfl, hO3, hb⟩
    have N3 := Lib.hid (N2.out.trans (hb.mono N2.out.size))
    have O3 := Lib.hid (O2.out.below hb)
    have P3 := Lib.hid hO3
    rw [HN.out]
    clear hb hO3 N2 O2 RM
    go_wp2_with fail
    refine (EO.out _ _ _ _ _ O3.out P3.out).mono ?_
    rintro e w4 ⟨rfl, hb⟩
    have N4 := Lib.hid (N3.out.trans (hb.mono N3.out.size))
    clear hb N3 O3 P3 EO
    go_wp2_with fail
    refine (RS.out _).mono ?_
    rintro e w5 ⟨rfl, hb⟩
    have N5 := Lib.hid (N4.out.trans (hb.mono N4.out.size))
    clear hb N4 RS
    cases q
    all_goals
      go_wp2_with fail
      refine (names_any _).mono ?_
      rintro e w6 ⟨A6, c6, rfl, hO6, hb⟩
      have N6 := Lib.hid (N5.out.trans (hb.mono N5.out.size))
      have P6 := Lib.hid hO6
      rw [names_len]
      clear hb hO6 N5
      go_wp2_with fail
      refine (rnames_any _).mono ?_
      rintro e w7 ⟨A7, c7, rfl, hO7, hb⟩
      have N7 := Lib.hid (N6.out.trans (hb.mono N6.out.size))
      have P7 := Lib.hid (P6.out.below hb)
      have Q7 := Lib.hid hO7
      rw [names_len]
      clear hb hO7 N6 P6
      go_wp2_with fail
      refine (ES.out _ _ _ _ _ P7.out Q7.out).mono ?_
      rintro e w8 ⟨rfl, hb⟩
      have N8 := Lib.hid (N7.out.trans (hb.mono N7.out.size))
      clear hb N7 P7 Q7 ES
      go_wp2_with fail
      refine (names_any _).mono ?_
      rintro e w9 ⟨A9, c9, rfl, hO9, hb⟩
      have N9 := Lib.hid (N8.out.trans (hb.mono N8.out.size))
      have P9 := Lib.hid hO9
      rw [names_len]
      clear hb hO9 N8
      go_wp2_with fail
      refine (UP.out _).mono ?_
      rintro e w10 ⟨rfl, hb⟩
      have N10 := Lib.hid (N9.out.trans (hb.mono N9.out.size))
      have P10 := Lib.hid (P9.out.below hb)
      clear hb N9 P9 UP
      go_wp2_with fail
      refine (CT.out _ _ _ P10.out).mono ?_
      rintro e w11 ⟨rfl, hb⟩
      have N11 := Lib.hid (N10.out.trans (hb.mono N10.out.size))
      clear hb N10 P10 CT
      go_wp2
      go_ret
      exact ⟨rfl, N11.out⟩

set_option maxRecDepth 100000 in
theorem lifted (os : Os) (started : os.Started) (H : Type) (enc : TypeId × Value → H) :
    ReturnsInHanded {} Tryd.checked os 4 .any (fun w args => (Rows.operandNamesSpec.pre enc Tryd.prog Tryd.f4 [] false w args ∧ laidMetH Tryd.prog Rows.operandNamesRow.laid w) ∧ sizedMet enc Tryd.prog Tryd.f4 (OpenSpec.ofChange Rows.operandNamesSpec) false w args)
      (Rows.operandNamesSpec.post enc Tryd.prog Tryd.f4 false true false false) := by
  refine returnsInHanded_of_change_and (C := Tryd.checked) (X := fun w _ => laidMetH Tryd.prog Rows.operandNamesRow.laid w) (fun _ _ _ hh h => h.of_heap hh) own started (by kernel_rfl) Tryd.func4
    (ChangeSpec.witness_shaped (enc := enc) (C := Tryd.checked) (os := os) (X := fun w _ => laidMetH Tryd.prog Rows.operandNamesRow.laid w) false (World.laidAll Tryd.prog os Rows.operandNamesRow.laid) #[.string ⟨#[]⟩] 8 (World.laidAll_os _ _ _)
      (World.shaped_of_ZipB (by kernel_rfl) (by kernel_rfl)) (by kernel_rfl) (by kernel_rfl) (by kernel_rfl)
      (by rw [MakeChecks.laidMetH_plain _ _ _ (by kernel_rfl)]; exact laidMet_laidAll _ (by kernel_rfl) (by kernel_rfl))) ?_
  intro W base args ds gs before hval0 hW _ _ hL _
  have hval : ∀ (j : Nat) t v, Tryd.f4.params[j]? = some t → args[j]? = some v → Value.okWide Tryd.prog W .any base t v := hval0
  have hW' := hW
  obtain ⟨p, q, hA0, hV, rfl, _, _⟩ := hW
  have hA : DataW.TrodAll enc Tryd.prog W 0 (fun _ => true) true Tryd.f4.params.toList args.toList ds p := hA0
  rw [Tryd.params4] at hA hval
  obtain ⟨v0, vs0, d0, ds0, p0, q0, hargs, rfl, rfl, h0, r0⟩ := trodAll_cons hA
  obtain ⟨rfl, rfl, rfl⟩ := trodAll_nil r0
  obtain rfl : args = #[v0] := by cases args; simp_all
  obtain ⟨rfl, rfl⟩ := trodVars_none hV
  obtain ⟨s0, rfl, rfl, rfl, w0⟩ := open_string Tryd.underlying9 (hval 0 9 v0 rfl rfl) h0
  clear hA0 hval0
  refine (walk s0 W w0).mono fun e W' ⟨he, bel⟩ => ?_
  subst he
  exact ⟨_, rfl, _, _, _, [], _, [], hW', trodAll_mk1 (shut_bool Tryd.underlying4 _), (trodAll_cons_mk (shut_string Tryd.underlying9 w0) trodAll_mk0), rfl, bel.frame _, fun h => by cases h⟩

theorem over : Rows.OperandNamesSaid :=
  OpenClaim.holds_of_wide 4 Tryd.f4 rfl rfl rfl rfl rfl rfl rfl ⟨rfl, rfl, rfl, rfl, rfl⟩ rfl rfl rfl rfl rfl (by kernel_rfl) Tryd.func4 (by kernel_rfl)
    (of_decide_eq_true (by kernel_rfl)) (by unfold Func.isWrapper; first | (rw [if_pos (by decide +kernel)]; kernel_rfl) | (rw [if_neg (by decide +kernel)]; exact ⟨rfl, rfl⟩))
    (fun os started H enc _ => lifted os started H enc)
theorem card_holds : Rows.OperandNamesCardSaid :=
  Claim7.holds_tied_plain_at .later [] [.data, .pinned] true Rows.operandNamesCard.stood.harness false over (fun _ h => by cases h) (by kernel_rfl) (fun _ h => by cases h) operandNames_row_tie rfl ⟨rfl, rfl⟩ (by kernel_rfl) rfl
    (fun f fn hf hfn => by
      obtain rfl : f = 4 := Option.some.inj ((show Tryd.prog.funcNamed "breadboard/breadboardlaw06.OperandNames" = some 4 by kernel_rfl).symm.trans hf) |>.symm
      obtain rfl : fn = Tryd.f4 := (Option.some.inj (Tryd.func4.symm.trans hfn)).symm
      exact ⟨by kernel_rfl, fun j t ht => by
        rw [Tryd.params4] at ht
        have hm : t ∈ [9] := by simpa [or_assoc, or_comm, or_left_comm] using Array.mem_of_getElem? ht
        have hall : ([9].all fun u => !Tryd.prog.wantsStandIn u) = true := by kernel_rfl
        exact (show Tryd.prog.wantsStandIn t = false by simpa using List.all_eq_true.1 hall t hm)⟩)
    (by kernel_rfl)
#print axioms card_holds
end Go.Proofs.YtbcbhdhhinopaaaDoor.operandNamesDone
