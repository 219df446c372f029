/-
  HexwriteSame, for every two lists of runs: the two images have the same HEX text, and the same dump, exactly if they are the same: the law returns true, and its arguments read as they did.
  Conditions: none.
-/
import Derived.Test.YtnldpcnbhibinaaHexAllD
import Derived.Test.YtnldpcnbhibinaaRows
import Derived.ProofKit
import Derived.OpenShut
import Derived.Lay
import Derived.LaidOnce
import Derived.SevenTiedAt
import Derived.Below
namespace Go.Proofs.Ytnldpcnbhibinaa.hexwriteSameDone
open Go.ChangeShapes Go.WideShapes Go.ChangeAt Go.RowKit
open Go.ChangeMaps (open_string shut_string)
set_option linter.unusedVariables false

theorem own : ownKnob Try.prog.godebug = none := by kernel_rfl
theorem laidOut : laidOutB Try.prog = true := by kernel_rfl
/-- A slice of integers that came in: nil, or a row of 'cap' cells that hold the numbers 'zs'. -/
def IsRow (k : IntKind) (w : World) (a : Option Addr) (len cap : Nat) (zs : List Int) : Prop :=
  (a = none ∧ len = 0 ∧ cap = 0 ∧ zs = []) ∨
  ∃ x, a = some x ∧ len ≤ cap ∧ cap ≤ maxLen ∧ zs.length = cap ∧ (∀ i, i < zs.length → w.cell? (x.add i) = some (.int k (zs.getD i 0))) ∧ ∀ n ∈ zs, (Lit.int k n).wf = true

theorem same_text {V W : List Im.Cel} (hV : Im.SortedW V) (hW : Im.SortedW W) : ((strOf (textW 16 V)).toList == (strOf (textW 16 W)).toList) = decide (V = W) := by
  rw [strOf_eq]
  by_cases h : V = W
  · rw [h]; simp
  · rw [decide_eq_false h]
    exact decide_eq_false fun e => h (text_inj (by omega) (by omega) hV hW e)
theorem same_dump {V W : List Im.Cel} (hV : Im.SortedW V) (hW : Im.SortedW W) : ((strOf (dumpL V)).toList == (strOf (dumpL W)).toList) = decide (V = W) := by
  rw [strOf_eq]
  by_cases h : V = W
  · rw [h]; simp
  · rw [decide_eq_false h]
    exact decide_eq_false fun e => h (dump_inj hV hW e)
set_option maxRecDepth 100000 in
set_option maxHeartbeats 8000000 in
theorem walk (A : Option Addr) (cap : Nat) (rs : List Im.R) (A2 : Option Addr) (cap2 : Nat) (rs2 : List Im.R) (w : World) (hm : rs.length ≤ maxLen) (hR : Im.RunsP (fun _ => True) (fun _ => True) w A rs) (hd : ∀ r ∈ rs, r.data.length ≤ maxLen)
    (hm2 : rs2.length ≤ maxLen) (hR2 : Im.RunsP (fun _ => True) (fun _ => True) w A2 rs2) (hd2 : ∀ r ∈ rs2, r.data.length ≤ maxLen) :
    Calls Try.prog 5 #[.slice A rs.length cap, .slice A2 rs2.length cap2] w fun e w' => e = .returned (.bool true) ∧ Below w.heap.size w w' := by
  have hbd := build_any A cap rs hm w hR hd
  have Z := Lib.hid hR
  have Z2 := Lib.hid hR2
  have HD := Lib.hid hd
  have HD2 := Lib.hid hd2
  have HM := Lib.hid hm
  have HM2 := Lib.hid hm2
  clear hR hd hm hR2 hd2 hm2
  go_enter Try.func5, Try.ntmps5
  go_wp2_with fail
  refine hbd.mono ?_
  rintro e w1 ⟨h1, h2, h3⟩
  have hbd2 := build_any A2 cap2 rs2 HM2.out w1 (Z2.out.below h3) HD2.out
  have B1 := Lib.hid h3
  clear hbd h3
  cases hf : Im.fewB rs
  case false =>
    obtain rfl := h1 hf
    have FH := Lib.hid hf
    clear h1 h2 hf
    go_wp2_with fail
    refine hbd2.mono ?_
    rintro e w2 ⟨h1, h2, h3⟩
    have B2 : Hid (Below w.heap.size w w2) := B1.out.trans (h3.mono B1.out.size)
    have hfw := Im.fewAll_any (fun _ => True) (fun _ => True) A cap rs HM.out
    cases hf2 : Im.fewB rs2
    case' false => obtain rfl := h1 hf2
    case' true => obtain ⟨b, A', c', rfl, -⟩ := h2 hf2
    all_goals
      clear hbd2 h1 h2 h3 hf2
      go_wp2_with fail
      refine (alive_any _).mono ?_
      rintro e w3 ⟨rfl, hb3⟩
      have B3 : Hid (Below w.heap.size w w3) := B2.out.trans (hb3.mono B2.out.size)
      have hfw2 := hfw w3 (Z.out.below B3.out) HD.out
      rw [FH.out] at hfw2
      clear hfw hb3
      go_wp2_with fail
      refine hfw2.mono ?_
      rintro e w4 ⟨rfl, rfl⟩
      clear hfw2
      go_wp2
      go_ret
      exact ⟨rfl, B3.out⟩
  case true =>
    obtain ⟨b, A', c', rfl, -, hI, hC⟩ := h2 hf
    have FH := Lib.hid hf
    have I1 := Lib.hid hI
    have C1 := Lib.hid hC
    clear h1 h2 hf hI hC
    go_wp2_with fail
    refine hbd2.mono ?_
    rintro e w2 ⟨h1, h2, h3⟩
    have B2 : Hid (Below w.heap.size w w2) := B1.out.trans (h3.mono B1.out.size)
    cases hf2 : Im.fewB rs2
    case false =>
      obtain rfl := h1 hf2
      have FH2 := Lib.hid hf2
      have hfw := Im.fewAll_any (fun _ => True) (fun _ => True) A cap rs HM.out
      have hfwb := Im.fewAll_any (fun _ => True) (fun _ => True) A2 cap2 rs2 HM2.out
      clear hbd2 h1 h2 h3 hf2
      go_wp2_with fail
      refine (alive_any _).mono ?_
      rintro e w3 ⟨rfl, hb3⟩
      have B3 : Hid (Below w.heap.size w w3) := B2.out.trans (hb3.mono B2.out.size)
      have hfw2 := hfw w3 (Z.out.below B3.out) HD.out
      have hfw3 := hfwb w3 (Z2.out.below B3.out) HD2.out
      rw [FH.out] at hfw2
      rw [FH2.out] at hfw3
      clear hfw hfwb hb3
      go_wp2_with fail
      refine hfw2.mono ?_
      rintro e w4 ⟨rfl, rfl⟩
      clear hfw2
      go_wp2_with fail
      refine hfw3.mono ?_
      rintro e w4 ⟨rfl, rfl⟩
      clear hfw3
      go_wp2
      go_ret
      exact ⟨rfl, B3.out⟩
    case true =>
      obtain ⟨b2, A2', c2', rfl, -, hI2, hC2⟩ := h2 hf2
      have I2 : Hid (Im.ImgOf w2 b2 (allW rs2)) := hI2
      have J2 : Hid (Im.ImgOf w2 b (allW rs)) := I1.out.below h3
      have hsm := Im.rsame_any _ _ A' A2' c' c2' (allW rs) (allW rs2) I1.out.1 hI2.1 w2 (C1.out.below h3) hC2
      have T1 := Lib.hid (same_text I1.out.1 hI2.1)
      have T2 := Lib.hid (same_dump I1.out.1 hI2.1)
      obtain ⟨q, hq⟩ : ∃ q, decide (allW rs = allW rs2) = q := ⟨_, rfl⟩
      rw [hq] at hsm T1 T2
      obtain ⟨x1, hx1⟩ : ∃ x, strOf (textW 16 (allW rs)) = x := ⟨_, rfl⟩
      obtain ⟨x2, hx2⟩ : ∃ x, strOf (textW 16 (allW rs2)) = x := ⟨_, rfl⟩
      obtain ⟨y1, hy1⟩ : ∃ x, strOf (dumpL (allW rs)) = x := ⟨_, rfl⟩
      obtain ⟨y2, hy2⟩ : ∃ x, strOf (dumpL (allW rs2)) = x := ⟨_, rfl⟩
      rw [hx1, hx2] at T1
      rw [hy1, hy2] at T2
      have X1 := fun w3 (h : Below w2.heap.size w2 w3) => write_any (.pointer (some ⟨b, 0, none⟩)) _ w3 (.inr ⟨b, rfl, J2.out.below h⟩)
      have X2 := fun w3 (h : Below w2.heap.size w2 w3) => write_any (.pointer (some ⟨b2, 0, none⟩)) _ w3 (.inr ⟨b2, rfl, I2.out.below h⟩)
      have Y1 := fun w3 (h : Below w2.heap.size w2 w3) => dump_any (.pointer (some ⟨b, 0, none⟩)) _ w3 (.inr ⟨b, rfl, J2.out.below h⟩)
      have Y2 := fun w3 (h : Below w2.heap.size w2 w3) => dump_any (.pointer (some ⟨b2, 0, none⟩)) _ w3 (.inr ⟨b2, rfl, I2.out.below h⟩)
      rw [hx1] at X1
      rw [hx2] at X2
      rw [hy1] at Y1
      rw [hy2] at Y2
      clear hbd2 h1 h2 h3 hf2 hI2 hC2 hq hx1 hx2 hy1 hy2
      go_wp2_with fail
      refine hsm.mono ?_
      rintro e w3 ⟨rfl, n, rfl⟩
      have D3 : Below w2.heap.size w2 (w2.drewN n) := Im.below_drewN w2 n
      obtain ⟨w3, hw3⟩ : ∃ w3, w2.drewN n = w3 := ⟨_, rfl⟩
      rw [hw3] at D3 ⊢
      have L3 := Lib.hid D3
      clear hw3 D3 hsm
      go_wp2_with fail
      refine (alive_any _).mono ?_
      rintro e w4 ⟨rfl, hb⟩
      have L4 : Hid (Below w2.heap.size w2 w4) := L3.out.trans (hb.mono L3.out.size)
      clear hb
      go_wp2_with fail
      refine (X1 _ L4.out).mono ?_
      rintro e w5 ⟨rfl, hb⟩
      have L5 : Hid (Below w2.heap.size w2 w5) := L4.out.trans (hb.mono L4.out.size)
      clear hb X1
      go_wp2_with fail
      refine (X2 _ L5.out).mono ?_
      rintro e w6 ⟨rfl, hb⟩
      have L6 : Hid (Below w2.heap.size w2 w6) := L5.out.trans (hb.mono L5.out.size)
      have t1 := T1.out
      have t2 := T2.out
      clear hb X2
      cases q
      case' false => have hqq : true = true := rfl
      case' true => have hqq : true = true := rfl
      all_goals
        go_wp2_with fail
        refine (Y1 _ L6.out).mono ?_
        rintro e w7 ⟨rfl, hb⟩
        have L7 : Hid (Below w2.heap.size w2 w7) := L6.out.trans (hb.mono L6.out.size)
        clear hb Y1
        go_wp2_with fail
        refine (Y2 _ L7.out).mono ?_
        rintro e w8 ⟨rfl, hb⟩
        have L8 : Hid (Below w.heap.size w w8) := B2.out.trans ((L7.out.trans (hb.mono L7.out.size)).mono B2.out.size)
        clear hb Y2
        go_wp2
        go_ret
        exact ⟨rfl, L8.out⟩

set_option maxRecDepth 100000 in
theorem lifted (os : Os) (started : os.Started) (H : Type) (enc : TypeId × Value → H) :
    ReturnsInHanded {} Try.checked os 5 .any (Rows.hexwriteSameSpec.pre6 enc Try.prog Try.f5 Rows.hexwriteSameRow.domain false) (Rows.hexwriteSameSpec.post enc Try.prog Try.f5 false true false false) := by
  refine returnsInHanded_of_change (C := Try.checked) own started (by kernel_rfl) Try.func5
    (ChangeSpec.witness6 (enc := enc) (C := Try.checked) false ⟨#[], #[.slice none 0 0, .slice none 0 0], []⟩ 8 (by kernel_rfl) (by kernel_rfl) (by kernel_rfl) (by kernel_rfl)) ?_
  intro W base args ds gs before hval0 hW _ _
  have hval : ∀ (j : Nat) t v, Try.f5.params[j]? = some t → args[j]? = some v → Value.okWide Try.prog W .any base t v := hval0
  have hW' := hW
  obtain ⟨p, q, hA0, hV, rfl, _, _⟩ := hW
  have hA : DataW.TrodAll enc Try.prog W 0 (fun _ => true) true Try.f5.params.toList args.toList ds p := hA0
  rw [Try.params5] at hA hval
  obtain ⟨v0, vs0, d0, ds0, p0, q0, hargs, rfl, rfl, h0, r0⟩ := trodAll_cons hA
  obtain ⟨v1, vs1, d1, ds1, p1, q1, rfl, rfl, rfl, h1, r1⟩ := trodAll_cons r0
  obtain ⟨rfl, rfl, rfl⟩ := trodAll_nil r1
  obtain rfl : args = #[v0, v1] := by cases args; simp_all
  obtain ⟨rfl, rfl⟩ := trodVars_none hV
  have k0 := h0
  have lt0 : ∀ x ∈ p0, x.block < W.heap.size := by obtain ⟨m, hm⟩ := k0; exact DataW.trod_lt m _ _ _ hm
  obtain ⟨a0, len0, cap0, rfl⟩ := okWide_slice Try.underlying22 (hval 0 22 v0 rfl rfl)
  obtain ⟨z0, hz0, hm0, w0, d0'⟩ : ∃ rs, len0 = rs.length ∧ len0 ≤ maxLen ∧ Im.RunsP (fun _ => True) (fun _ => True) W a0 rs ∧ ∀ r ∈ rs, r.data.length ≤ maxLen := by
    obtain ⟨fuel, hf⟩ := h0
    have hf' : DataW.trod enc Try.prog W 0 (fun _ => true) true fuel 22 [.slice a0 len0 cap0] = some (d0, p0) := by simpa [Value.cells] using hf
    obtain ⟨A, len, cap, rs, e1, e2, e3, e4, e5⟩ := Im.open_runs hf'
    simp only [Value.slice.injEq] at e1
    obtain ⟨rfl, rfl, rfl⟩ := e1
    exact ⟨rs, e2, e3, e4, e5⟩
  subst hz0
  have k1 := h1
  have lt1 : ∀ x ∈ p1, x.block < W.heap.size := by obtain ⟨m, hm⟩ := k1; exact DataW.trod_lt m _ _ _ hm
  obtain ⟨a1, len1, cap1, rfl⟩ := okWide_slice Try.underlying22 (hval 1 22 v1 rfl rfl)
  obtain ⟨z1, hz1, hm1, w1, d1'⟩ : ∃ rs, len1 = rs.length ∧ len1 ≤ maxLen ∧ Im.RunsP (fun _ => True) (fun _ => True) W a1 rs ∧ ∀ r ∈ rs, r.data.length ≤ maxLen := by
    obtain ⟨fuel, hf⟩ := h1
    have hf' : DataW.trod enc Try.prog W 0 (fun _ => true) true fuel 22 [.slice a1 len1 cap1] = some (d1, p1) := by simpa [Value.cells] using hf
    obtain ⟨A, len, cap, rs, e1, e2, e3, e4, e5⟩ := Im.open_runs hf'
    simp only [Value.slice.injEq] at e1
    obtain ⟨rfl, rfl, rfl⟩ := e1
    exact ⟨rs, e2, e3, e4, e5⟩
  subst hz1
  clear hA0 hval0
  refine (walk a0 cap0 z0 a1 cap1 z1 W hm0 w0 d0' hm1 w1 d1').mono fun e W' ⟨he, bel⟩ => ?_
  subst he
  exact ⟨_, rfl, _, _, _, [], _, [], hW', trodAll_mk1 (shut_bool Try.underlying4 _), (trodAll_cons_mk (Below.trod laidOut (by kernel_rfl) (of_decide_eq_true (by kernel_rfl)) k0 bel lt0) (trodAll_cons_mk (Below.trod laidOut (by kernel_rfl) (of_decide_eq_true (by kernel_rfl)) k1 bel lt1) trodAll_mk0)), rfl, bel.frame _, fun h => by cases h⟩

theorem over : Rows.HexwriteSameSaid :=
  OpenClaim.holds_of_wide 5 Try.f5 rfl rfl rfl rfl rfl rfl rfl ⟨rfl, rfl, rfl, rfl, rfl⟩ rfl rfl rfl rfl rfl (by kernel_rfl) Try.func5 (by kernel_rfl)
    (of_decide_eq_true (by kernel_rfl)) (by unfold Func.isWrapper; first | (rw [if_pos (by decide +kernel)]; kernel_rfl) | (rw [if_neg (by decide +kernel)]; exact ⟨rfl, rfl⟩))
    (fun os started H enc _ => lifted os started H enc)
#print axioms over
end Go.Proofs.Ytnldpcnbhibinaa.hexwriteSameDone
