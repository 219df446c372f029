/-
  RecordParses, for every line: Parse returns the record or the code of the reference: the law returns true, and its argument reads as it did.
  Conditions: none.
-/
import Derived.Test.YtbnehcnimbkakaaRecO
import Derived.Test.YtbnehcnimbkakaaRows
import Derived.ProofKit
import Derived.OpenShut
import Derived.Lay
import Derived.LaidOnce
import Derived.SevenTiedAt
import Derived.Below
namespace Go.Proofs.Ytbnehcnimbkakaa.recordParsesDone
open Go.ChangeShapes Go.WideShapes Go.ChangeAt Go.RowKit
open Go.ChangeMaps (open_string shut_string)
set_option linter.unusedVariables false

theorem own : ownKnob Try.prog.godebug = none := by kernel_rfl
theorem laidOut : laidOutB Try.prog = true := by kernel_rfl
/-- A slice of integers that came in: nil, or a row of 'cap' cells that hold the numbers 'zs'. -/
def IsRow (k : IntKind) (w : World) (a : Option Addr) (len cap : Nat) (zs : List Int) : Prop :=
  (a = none ∧ len = 0 ∧ cap = 0 ∧ zs = []) ∨
  ∃ x, a = some x ∧ len ≤ cap ∧ cap ≤ maxLen ∧ zs.length = cap ∧ (∀ i, i < zs.length → w.cell? (x.add i) = some (.int k (zs.getD i 0))) ∧ ∀ n ∈ zs, (Lit.int k n).wf = true

set_option maxHeartbeats 2000000 in
theorem walk (s : ByteArray) (w : World) (ws : s.size ≤ maxLen) :
    Calls Try.prog 4 #[.string s] w fun e w' => e = .returned (.bool true) ∧ Below w.heap.size w w' := by
  unfold maxLen at ws
  by_cases hl : 1000 < s.size
  · go_enter Try.func4, Try.ntmps4
    go_wp2_with (go_at_call 9; refine (alive_any _).mono ?_; rintro e w1 ⟨rfl, hb1⟩)
    go_ret
    exact ⟨rfl, hb1⟩
  · have h1000 : s.size ≤ 1000 := by omega
    have hp := fun w => parse_any s (by omega) w
    have hq := fun w => rparse_any s (by omega) w
    obtain ⟨T, hT⟩ : ∃ T, parT s = T := ⟨_, rfl⟩
    obtain ⟨a, ha⟩ : ∃ a, parA s = a := ⟨_, rfl⟩
    obtain ⟨D, hD⟩ : ∃ D, parD s = D := ⟨_, rfl⟩
    obtain ⟨c, hc⟩ : ∃ c, parCode s = c := ⟨_, rfl⟩
    simp only [hT, ha, hD, hc] at hp hq
    clear hl hT ha hD hc
    go_enter Try.func4, Try.ntmps4
    go_wp2_with fail
    refine (hp _).mono ?_
    rintro e w1 ⟨A1, c1, rfl, -, hX1, hB1⟩
    have B1 := Lib.hid hB1
    have al1 : Below w1.heap.size w1 (w1.alloc (.cells #[.int .i64 T, .int .i64 a, .slice A1 D.length c1] 28)) := (Below.refl _ _).alloc (Nat.le_refl _) _
    have X1 := Lib.hid (hX1.below al1)
    have T1 := Lib.hid (Tri.new w1 _ rfl (.int .i64 T) (.int .i64 a) (.slice A1 D.length c1) 28)
    have AL1 := Lib.hid al1
    clear hp hX1 hB1 al1
    go_wp2_with fail
    refine (hq _).mono ?_
    rintro e w2 ⟨A2, c2, rfl, -, hX2, hB2⟩
    have al2 : Below w2.heap.size w2 (w2.alloc (.cells #[.int .i64 T, .int .i64 a, .slice A2 D.length c2] 24)) := (Below.refl _ _).alloc (Nat.le_refl _) _
    have X2 := Lib.hid (hX2.below al2)
    have X1b := Lib.hid ((X1.out.below hB2).below al2)
    have T1b := Lib.hid ((T1.out.kept (P := fun _ => True) (KeptP.of_all hB2) trivial).kept (P := fun _ => True) (KeptP.of_all al2) trivial)
    have T2 := Lib.hid (Tri.new w2 _ rfl (.int .i64 T) (.int .i64 a) (.slice A2 D.length c2) 24)
    have B2 := Lib.hid (((B1.out.alloc B1.out.size (.cells #[.int .i64 T, .int .i64 a, .slice A1 D.length c1] 28)).trans (hB2.mono (Nat.le_trans B1.out.size AL1.out.size))).alloc (Nat.le_trans (Nat.le_trans B1.out.size AL1.out.size) hB2.size) (.cells #[.int .i64 T, .int .i64 a, .slice A2 D.length c2] 24))
    clear hq hX2 hB2 al2 X1 T1 AL1 B1
    obtain ⟨w3, hw3⟩ : ∃ w3, w2.alloc (.cells #[.int .i64 T, .int .i64 a, .slice A2 D.length c2] 24) = w3 := ⟨_, rfl⟩
    rw [hw3] at X2 X1b T1b T2 B2
    go_wp2_with fail
    refine (alive_any _).mono ?_
    rintro e w4 ⟨rfl, hB4⟩
    have t1 := T1b.out.kept (P := fun _ => True) (KeptP.of_all hB4) trivial
    have t2 := T2.out.kept (P := fun _ => True) (KeptP.of_all hB4) trivial
    obtain ⟨-, q0, q1, q2, -⟩ := t1
    obtain ⟨-, p0, p1, p2, -⟩ := t2
    have hs := rsame_any _ _ T a A1 c1 D T a A2 c2 D w4 (X1b.out.below hB4) (X2.out.below hB4)
    rw [show sameR T a D T a D = true by rw [sameR_yes]; simp] at hs
    have B4 := Lib.hid (B2.out.trans (hB4.mono B2.out.size))
    clear hw3 hB4 X1b X2 T1b T2 B2
    go_wp2_with fail
    refine hs.mono ?_
    rintro e w5 ⟨rfl, hB5⟩
    have B5 := Lib.hid (B4.out.trans (hB5.mono B4.out.size))
    clear hs hB5 q0 q1 q2 p0 p1 p2
    go_wp2
    go_ret
    exact ⟨rfl, B5.out⟩

set_option maxRecDepth 100000 in
theorem lifted (os : Os) (started : os.Started) (H : Type) (enc : TypeId × Value → H) :
    ReturnsInHanded {} Try.checked os 4 .any (Rows.recordParsesSpec.pre6 enc Try.prog Try.f4 Rows.recordParsesRow.domain false) (Rows.recordParsesSpec.post enc Try.prog Try.f4 false true false false) := by
  refine returnsInHanded_of_change (C := Try.checked) own started (by kernel_rfl) Try.func4
    (ChangeSpec.witness6 (enc := enc) (C := Try.checked) false ⟨#[], #[.string ⟨#[]⟩], []⟩ 8 (by kernel_rfl) (by kernel_rfl) (by kernel_rfl) (by kernel_rfl)) ?_
  intro W base args ds gs before hval0 hW _ _
  have hval : ∀ (j : Nat) t v, Try.f4.params[j]? = some t → args[j]? = some v → Value.okWide Try.prog W .any base t v := hval0
  have hW' := hW
  obtain ⟨p, q, hA0, hV, rfl, _, _⟩ := hW
  have hA : DataW.TrodAll enc Try.prog W 0 (fun _ => true) true Try.f4.params.toList args.toList ds p := hA0
  rw [Try.params4] at hA hval
  obtain ⟨v0, vs0, d0, ds0, p0, q0, hargs, rfl, rfl, h0, r0⟩ := trodAll_cons hA
  obtain ⟨rfl, rfl, rfl⟩ := trodAll_nil r0
  obtain rfl : args = #[v0] := by cases args; simp_all
  obtain ⟨rfl, rfl⟩ := trodVars_none hV
  obtain ⟨s0, rfl, rfl, rfl, w0⟩ := open_string Try.underlying9 (hval 0 9 v0 rfl rfl) h0
  clear hA0 hval0
  refine (walk s0 W w0).mono fun e W' ⟨he, bel⟩ => ?_
  subst he
  exact ⟨_, rfl, _, _, _, [], _, [], hW', trodAll_mk1 (shut_bool Try.underlying4 _), (trodAll_cons_mk (shut_string Try.underlying9 w0) trodAll_mk0), rfl, bel.frame _, fun h => by cases h⟩

theorem over : Rows.RecordParsesSaid :=
  OpenClaim.holds_of_wide 4 Try.f4 rfl rfl rfl rfl rfl rfl rfl ⟨rfl, rfl, rfl, rfl, rfl⟩ rfl rfl rfl rfl rfl (by kernel_rfl) Try.func4 (by kernel_rfl)
    (of_decide_eq_true (by kernel_rfl)) (by unfold Func.isWrapper; first | (rw [if_pos (by decide +kernel)]; kernel_rfl) | (rw [if_neg (by decide +kernel)]; exact ⟨rfl, rfl⟩))
    (fun os started H enc _ => lifted os started H enc)
#print axioms over
end Go.Proofs.Ytbnehcnimbkakaa.recordParsesDone
