/-
  HexwriteWrites, for every list of runs and size: Write and Sized return the texts of the reference, and Lines the number of Write's lines: the law returns true, and its arguments read as they did.
  Conditions: none.
-/
import Derived.Test.YtnldpcnbhibinaaHexAllD
import Derived.Test.YtnldpcnbhibinaaHexW
import Derived.Test.YtnldpcnbhibinaaRows
import Derived.ProofKit
import Derived.OpenShut
import Derived.Lay
import Derived.LaidOnce
import Derived.SevenTiedAt
import Derived.Below
namespace Go.Proofs.Ytnldpcnbhibinaa.hexwriteWritesDone
open Go.ChangeShapes Go.WideShapes Go.ChangeAt Go.RowKit
open Go.ChangeMaps (open_string shut_string)
set_option linter.unusedVariables false

theorem own : ownKnob Try.prog.godebug = none := by kernel_rfl
theorem laidOut : laidOutB Try.prog = true := by kernel_rfl
/-- A slice of integers that came in: nil, or a row of 'cap' cells that hold the numbers 'zs'. -/
def IsRow (k : IntKind) (w : World) (a : Option Addr) (len cap : Nat) (zs : List Int) : Prop :=
  (a = none ∧ len = 0 ∧ cap = 0 ∧ zs = []) ∨
  ∃ x, a = some x ∧ len ≤ cap ∧ cap ≤ maxLen ∧ zs.length = cap ∧ (∀ i, i < zs.length → w.cell? (x.add i) = some (.int k (zs.getD i 0))) ∧ ∀ n ∈ zs, (Lit.int k n).wf = true

set_option maxRecDepth 100000 in
set_option maxHeartbeats 8000000 in
theorem walk (A : Option Addr) (cap : Nat) (rs : List Im.R) (sz : Int) (w : World) (hm : rs.length ≤ maxLen) (hR : Im.RunsP (fun _ => True) (fun _ => True) w A rs) (hd : ∀ r ∈ rs, r.data.length ≤ maxLen) (wz : (Lit.int .i64 sz).wf = true) :
    Calls Try.prog 3 #[.slice A rs.length cap, .int .i64 sz] w fun e w' => e = .returned (.bool true) ∧ Below w.heap.size w w' := by
  have hbd := build_any A cap rs hm w hR hd
  have Z := Lib.hid hR
  have HD := Lib.hid hd
  have HM := Lib.hid hm
  clear hR hd hm wz
  go_enter Try.func3, Try.ntmps3
  go_wp2_with fail
  refine hbd.mono ?_
  rintro e w1 ⟨h1, h2, h3⟩
  cases hf : Im.fewB rs
  case false =>
    obtain rfl := h1 hf
    have B1 := Lib.hid h3
    have FH := Lib.hid hf
    clear h1 h2 h3 hf hbd
    go_wp2_with fail
    refine (alive_any _).mono ?_
    rintro e w2 ⟨rfl, hb2⟩
    have hfw2 := Im.fewAll_any _ _ A cap rs HM.out w2 ((Z.out.below B1.out).below hb2) HD.out
    rw [FH.out] at hfw2
    have B2 : Hid (Below w.heap.size w w2) := B1.out.trans (hb2.mono B1.out.size)
    clear hb2
    go_wp2_with fail
    refine hfw2.mono ?_
    rintro e w3 ⟨rfl, rfl⟩
    clear hfw2
    go_wp2
    go_ret
    exact ⟨rfl, B2.out⟩
  case true =>
    obtain ⟨b, A', cap', rfl, -, hI, hC⟩ := h2 hf
    have B1 := Lib.hid h3
    have I1 := Lib.hid hI
    have C1 := Lib.hid hC
    clear h1 h2 h3 hf hbd hI hC
    have CT : Hid ((textW 16 (allW rs)).count 10 = (recsW 16 (allW rs)).length + 1) := text_count 16 _
    obtain ⟨V, hV⟩ : ∃ V, allW rs = V := ⟨_, rfl⟩
    rw [hV] at I1 C1 CT ⊢
    clear hV
    have VS := Lib.hid I1.out.1
    have X1 := fun w3 (h : Below w1.heap.size w1 w3) => write_any (.pointer (some ⟨b, 0, none⟩)) _ w3 (.inr ⟨b, rfl, I1.out.below h⟩)
    have X2 := fun w3 (h : Below w1.heap.size w1 w3) => rwrite_any _ A' cap' V VS.out w3 (C1.out.below h)
    have Y1 := fun w3 (h : Below w1.heap.size w1 w3) => sized_any sz (.pointer (some ⟨b, 0, none⟩)) _ w3 (.inr ⟨b, rfl, I1.out.below h⟩)
    have Y2 := fun w3 (h : Below w1.heap.size w1 w3) => rsized_any sz _ A' cap' V VS.out w3 (C1.out.below h)
    have L1 := fun w3 (h : Below w1.heap.size w1 w3) => lines_any (.pointer (some ⟨b, 0, none⟩)) _ w3 (.inr ⟨b, rfl, I1.out.below h⟩)
    have L2 := fun w3 => count_any (strOf (textW 16 V)) w3
    rw [strOf_list, CT.out] at L2
    obtain ⟨x, hx⟩ : ∃ x, strOf (textW 16 V) = x := ⟨_, rfl⟩
    obtain ⟨y, hy⟩ : ∃ y, sizedS sz V = y := ⟨_, rfl⟩
    obtain ⟨q, hq⟩ : ∃ q, sizedB sz = q := ⟨_, rfl⟩
    obtain ⟨n, hn⟩ : ∃ n, (recsW 16 V).length + 1 = n := ⟨_, rfl⟩
    rw [hx] at X1 X2 L2
    rw [hy, hq] at Y1 Y2
    rw [hn] at L1 L2
    clear hx hy hq hn
    go_wp2_with fail
    refine (X1 w1 (Below.refl _ _)).mono ?_
    rintro e w2 ⟨rfl, hb⟩
    have K2 := Lib.hid hb
    clear hb X1
    go_wp2_with fail
    refine (Y1 _ K2.out).mono ?_
    rintro e w3 ⟨rfl, hb⟩
    have K3 : Hid (Below w1.heap.size w1 w3) := K2.out.trans (hb.mono K2.out.size)
    clear hb Y1
    go_wp2_with fail
    refine (Y2 _ K3.out).mono ?_
    rintro e w4 ⟨rfl, hb⟩
    have K4 : Hid (Below w1.heap.size w1 w4) := K3.out.trans (hb.mono K3.out.size)
    clear hb Y2
    go_wp2_with fail
    refine (alive_any _).mono ?_
    rintro e w5 ⟨rfl, hb⟩
    have K5 : Hid (Below w1.heap.size w1 w5) := K4.out.trans (hb.mono K4.out.size)
    clear hb
    go_wp2_with fail
    refine (X2 _ K5.out).mono ?_
    rintro e w6 ⟨rfl, hb⟩
    have K6 : Hid (Below w1.heap.size w1 w6) := K5.out.trans (hb.mono K5.out.size)
    clear hb X2
    cases q
    all_goals
      go_wp2_with fail
      refine (L1 _ K6.out).mono ?_
      rintro e w7 ⟨rfl, hb⟩
      have K7 : Hid (Below w.heap.size w w7) := B1.out.trans ((K6.out.trans (hb.mono K6.out.size)).mono B1.out.size)
      clear hb L1
      go_wp2_with fail
      refine (L2 _).mono ?_
      rintro e w8 ⟨rfl, rfl⟩
      clear L2
      go_wp2
      go_ret
      exact ⟨rfl, K7.out⟩

set_option maxRecDepth 100000 in
theorem lifted (os : Os) (started : os.Started) (H : Type) (enc : TypeId × Value → H) :
    ReturnsInHanded {} Try.checked os 3 .any (Rows.hexwriteWritesSpec.pre6 enc Try.prog Try.f3 Rows.hexwriteWritesRow.domain false) (Rows.hexwriteWritesSpec.post enc Try.prog Try.f3 false true false false) := by
  refine returnsInHanded_of_change (C := Try.checked) own started (by kernel_rfl) Try.func3
    (ChangeSpec.witness6 (enc := enc) (C := Try.checked) false ⟨#[], #[.slice none 0 0, .int .i64 0], []⟩ 8 (by kernel_rfl) (by kernel_rfl) (by kernel_rfl) (by kernel_rfl)) ?_
  intro W base args ds gs before hval0 hW _ _
  have hval : ∀ (j : Nat) t v, Try.f3.params[j]? = some t → args[j]? = some v → Value.okWide Try.prog W .any base t v := hval0
  have hW' := hW
  obtain ⟨p, q, hA0, hV, rfl, _, _⟩ := hW
  have hA : DataW.TrodAll enc Try.prog W 0 (fun _ => true) true Try.f3.params.toList args.toList ds p := hA0
  rw [Try.params3] at hA hval
  obtain ⟨v0, vs0, d0, ds0, p0, q0, hargs, rfl, rfl, h0, r0⟩ := trodAll_cons hA
  obtain ⟨v1, vs1, d1, ds1, p1, q1, rfl, rfl, rfl, h1, r1⟩ := trodAll_cons r0
  obtain ⟨rfl, rfl, rfl⟩ := trodAll_nil r1
  obtain rfl : args = #[v0, v1] := by cases args; simp_all
  obtain ⟨rfl, rfl⟩ := trodVars_none hV
  have k0 := h0
  have lt0 : ∀ x ∈ p0, x.block < W.heap.size := by obtain ⟨m, hm⟩ := k0; exact DataW.trod_lt m _ _ _ hm
  obtain ⟨a0, len0, cap0, rfl⟩ := okWide_slice Try.underlying22 (hval 0 22 v0 rfl rfl)
  obtain ⟨z0, hz0, hm0, w0, d0'⟩ : ∃ rs, len0 = rs.length ∧ len0 ≤ maxLen ∧ Im.RunsP (fun _ => True) (fun _ => True) W a0 rs ∧ ∀ r ∈ rs, r.data.length ≤ maxLen := by
    obtain ⟨fuel, hf⟩ := h0
    have hf' : DataW.trod enc Try.prog W 0 (fun _ => true) true fuel 22 [.slice a0 len0 cap0] = some (d0, p0) := by simpa [Value.cells] using hf
    obtain ⟨A, len, cap, rs, e1, e2, e3, e4, e5⟩ := Im.open_runs hf'
    simp only [Value.slice.injEq] at e1
    obtain ⟨rfl, rfl, rfl⟩ := e1
    exact ⟨rs, e2, e3, e4, e5⟩
  subst hz0
  obtain ⟨a1, rfl, rfl, rfl, w1⟩ := open_int Try.underlying3 (hval 1 3 v1 rfl rfl) h1
  clear hA0 hval0
  refine (walk a0 cap0 z0 a1 W hm0 w0 d0' w1).mono fun e W' ⟨he, bel⟩ => ?_
  subst he
  exact ⟨_, rfl, _, _, _, [], _, [], hW', trodAll_mk1 (shut_bool Try.underlying4 _), (trodAll_cons_mk (Below.trod laidOut (by kernel_rfl) (of_decide_eq_true (by kernel_rfl)) k0 bel lt0) (trodAll_cons_mk (shut_int Try.underlying3 w1) trodAll_mk0)), rfl, bel.frame _, fun h => by cases h⟩

theorem over : Rows.HexwriteWritesSaid :=
  OpenClaim.holds_of_wide 3 Try.f3 rfl rfl rfl rfl rfl rfl rfl ⟨rfl, rfl, rfl, rfl, rfl⟩ rfl rfl rfl rfl rfl (by kernel_rfl) Try.func3 (by kernel_rfl)
    (of_decide_eq_true (by kernel_rfl)) (by unfold Func.isWrapper; first | (rw [if_pos (by decide +kernel)]; kernel_rfl) | (rw [if_neg (by decide +kernel)]; exact ⟨rfl, rfl⟩))
    (fun os started H enc _ => lifted os started H enc)
#print axioms over
end Go.Proofs.Ytnldpcnbhibinaa.hexwriteWritesDone
