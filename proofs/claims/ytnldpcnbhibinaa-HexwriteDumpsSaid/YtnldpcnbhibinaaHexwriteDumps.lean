/-
  HexwriteDumps, for every list of runs: Dump returns the listing of the reference: the law returns true, and its argument reads as it did.
  Conditions: none.
-/
import Derived.Test.YtnldpcnbhibinaaHexAllD
import Derived.Test.YtnldpcnbhibinaaRows
import Derived.ProofKit
import Derived.OpenShut
import Derived.Lay
import Derived.LaidOnce
import Derived.SevenTiedAt
import Derived.Below
namespace Go.Proofs.Ytnldpcnbhibinaa.hexwriteDumpsDone
open Go.ChangeShapes Go.WideShapes Go.ChangeAt Go.RowKit
open Go.ChangeMaps (open_string shut_string)
set_option linter.unusedVariables false

theorem own : ownKnob Try.prog.godebug = none := by kernel_rfl
theorem laidOut : laidOutB Try.prog = true := by kernel_rfl
/-- A slice of integers that came in: nil, or a row of 'cap' cells that hold the numbers 'zs'. -/
def IsRow (k : IntKind) (w : World) (a : Option Addr) (len cap : Nat) (zs : List Int) : Prop :=
  (a = none ∧ len = 0 ∧ cap = 0 ∧ zs = []) ∨
  ∃ x, a = some x ∧ len ≤ cap ∧ cap ≤ maxLen ∧ zs.length = cap ∧ (∀ i, i < zs.length → w.cell? (x.add i) = some (.int k (zs.getD i 0))) ∧ ∀ n ∈ zs, (Lit.int k n).wf = true

set_option maxHeartbeats 4000000 in
theorem walk (A : Option Addr) (cap : Nat) (rs : List Im.R) (w : World) (hm : rs.length ≤ maxLen) (hR : Im.RunsP (fun _ => True) (fun _ => True) w A rs) (hd : ∀ r ∈ rs, r.data.length ≤ maxLen) :
    Calls Try.prog 4 #[.slice A rs.length cap] w fun e w' => e = .returned (.bool true) ∧ Below w.heap.size w w' := by
  have hbd := build_any A cap rs hm w hR hd
  have Z := Lib.hid hR
  have HD := Lib.hid hd
  have HM := Lib.hid hm
  clear hR hd hm
  go_enter Try.func4, Try.ntmps4
  go_wp2_with fail
  refine hbd.mono ?_
  rintro e w1 ⟨h1, h2, h3⟩
  cases hf : Im.fewB rs
  case false =>
    obtain rfl := h1 hf
    have B1 := Lib.hid h3
    have FH := Lib.hid hf
    clear h1 h2 h3 hf hbd
    go_wp2_with fail
    refine (alive_any _).mono ?_
    rintro e w2 ⟨rfl, hb2⟩
    have hfw2 := Im.fewAll_any _ _ A cap rs HM.out w2 ((Z.out.below B1.out).below hb2) HD.out
    rw [FH.out] at hfw2
    have B2 : Hid (Below w.heap.size w w2) := B1.out.trans (hb2.mono B1.out.size)
    clear hb2
    go_wp2_with fail
    refine hfw2.mono ?_
    rintro e w3 ⟨rfl, rfl⟩
    clear hfw2
    go_wp2
    go_ret
    exact ⟨rfl, B2.out⟩
  case true =>
    obtain ⟨b, A', cap', rfl, hb, hI, hC⟩ := h2 hf
    have B1 := Lib.hid h3
    have I1 := Lib.hid hI
    have C1 := Lib.hid hC
    clear h1 h2 h3 hf hbd hI hC hb
    go_wp2_with fail
    refine (alive_any _).mono ?_
    rintro e w2 ⟨rfl, hb2⟩
    have B2 : Hid (Below w.heap.size w w2) := B1.out.trans (hb2.mono B1.out.size)
    have hdu := dump_any (.pointer (some ⟨b, 0, none⟩)) _ w2 (.inr ⟨b, rfl, I1.out.below hb2⟩)
    have C2 := Lib.hid (C1.out.below hb2)
    obtain ⟨d, hdd⟩ : ∃ d, strOf (dumpL (allW rs)) = d := ⟨_, rfl⟩
    have HDD := Lib.hid hdd
    rw [hdd] at hdu
    clear hb2 hdd
    go_wp2_with fail
    refine hdu.mono ?_
    rintro e w3 ⟨rfl, hb3⟩
    have B3 : Hid (Below w.heap.size w w3) := B2.out.trans (hb3.mono B2.out.size)
    have hrd := rdump_any _ A' cap' (allW rs) I1.out.1 w3 (C2.out.below hb3)
    rw [HDD.out] at hrd
    clear hb3 hdu
    go_wp2_with fail
    refine hrd.mono ?_
    rintro e w4 ⟨rfl, rfl⟩
    clear hrd
    go_wp2
    go_ret
    exact ⟨rfl, B3.out⟩

set_option maxRecDepth 100000 in
theorem lifted (os : Os) (started : os.Started) (H : Type) (enc : TypeId × Value → H) :
    ReturnsInHanded {} Try.checked os 4 .any (Rows.hexwriteDumpsSpec.pre6 enc Try.prog Try.f4 Rows.hexwriteDumpsRow.domain false) (Rows.hexwriteDumpsSpec.post enc Try.prog Try.f4 false true false false) := by
  refine returnsInHanded_of_change (C := Try.checked) own started (by kernel_rfl) Try.func4
    (ChangeSpec.witness6 (enc := enc) (C := Try.checked) false ⟨#[], #[.slice none 0 0], []⟩ 8 (by kernel_rfl) (by kernel_rfl) (by kernel_rfl) (by kernel_rfl)) ?_
  intro W base args ds gs before hval0 hW _ _
  have hval : ∀ (j : Nat) t v, Try.f4.params[j]? = some t → args[j]? = some v → Value.okWide Try.prog W .any base t v := hval0
  have hW' := hW
  obtain ⟨p, q, hA0, hV, rfl, _, _⟩ := hW
  have hA : DataW.TrodAll enc Try.prog W 0 (fun _ => true) true Try.f4.params.toList args.toList ds p := hA0
  rw [Try.params4] at hA hval
  obtain ⟨v0, vs0, d0, ds0, p0, q0, hargs, rfl, rfl, h0, r0⟩ := trodAll_cons hA
  obtain ⟨rfl, rfl, rfl⟩ := trodAll_nil r0
  obtain rfl : args = #[v0] := by cases args; simp_all
  obtain ⟨rfl, rfl⟩ := trodVars_none hV
  have k0 := h0
  have lt0 : ∀ x ∈ p0, x.block < W.heap.size := by obtain ⟨m, hm⟩ := k0; exact DataW.trod_lt m _ _ _ hm
  obtain ⟨a0, len0, cap0, rfl⟩ := okWide_slice Try.underlying22 (hval 0 22 v0 rfl rfl)
  obtain ⟨z0, hz0, hm0, w0, d0'⟩ : ∃ rs, len0 = rs.length ∧ len0 ≤ maxLen ∧ Im.RunsP (fun _ => True) (fun _ => True) W a0 rs ∧ ∀ r ∈ rs, r.data.length ≤ maxLen := by
    obtain ⟨fuel, hf⟩ := h0
    have hf' : DataW.trod enc Try.prog W 0 (fun _ => true) true fuel 22 [.slice a0 len0 cap0] = some (d0, p0) := by simpa [Value.cells] using hf
    obtain ⟨A, len, cap, rs, e1, e2, e3, e4, e5⟩ := Im.open_runs hf'
    simp only [Value.slice.injEq] at e1
    obtain ⟨rfl, rfl, rfl⟩ := e1
    exact ⟨rs, e2, e3, e4, e5⟩
  subst hz0
  clear hA0 hval0
  refine (walk a0 cap0 z0 W hm0 w0 d0').mono fun e W' ⟨he, bel⟩ => ?_
  subst he
  exact ⟨_, rfl, _, _, _, [], _, [], hW', trodAll_mk1 (shut_bool Try.underlying4 _), (trodAll_cons_mk (Below.trod laidOut (by kernel_rfl) (of_decide_eq_true (by kernel_rfl)) k0 bel lt0) trodAll_mk0), rfl, bel.frame _, fun h => by cases h⟩

theorem over : Rows.HexwriteDumpsSaid :=
  OpenClaim.holds_of_wide 4 Try.f4 rfl rfl rfl rfl rfl rfl rfl ⟨rfl, rfl, rfl, rfl, rfl⟩ rfl rfl rfl rfl rfl (by kernel_rfl) Try.func4 (by kernel_rfl)
    (of_decide_eq_true (by kernel_rfl)) (by unfold Func.isWrapper; first | (rw [if_pos (by decide +kernel)]; kernel_rfl) | (rw [if_neg (by decide +kernel)]; exact ⟨rfl, rfl⟩))
    (fun os started H enc _ => lifted os started H enc)
#print axioms over
end Go.Proofs.Ytnldpcnbhibinaa.hexwriteDumpsDone
