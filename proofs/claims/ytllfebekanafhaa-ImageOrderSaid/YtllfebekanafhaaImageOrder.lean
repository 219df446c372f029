/-
  ImageOrder, for every list of runs: runs that can be put in one order can be put in any order, and lead to the same image: the law returns true, and its argument reads as it did.
  Conditions: none.
-/
import Derived.Test.YtllfebekanafhaaImgV
import Derived.Test.YtllfebekanafhaaRows
import Derived.ProofKit
import Derived.OpenShut
import Derived.Lay
import Derived.LaidOnce
import Derived.SevenTiedAt
import Derived.Below
namespace Go.Proofs.Ytllfebekanafhaa.imageOrderDone
open Go.ChangeShapes Go.WideShapes Go.ChangeAt Go.RowKit
open Go.ChangeMaps (open_string shut_string)
set_option linter.unusedVariables false

theorem own : ownKnob Try.prog.godebug = none := by kernel_rfl
theorem laidOut : laidOutB Try.prog = true := by kernel_rfl
/-- A slice of integers that came in: nil, or a row of 'cap' cells that hold the numbers 'zs'. -/
def IsRow (k : IntKind) (w : World) (a : Option Addr) (len cap : Nat) (zs : List Int) : Prop :=
  (a = none ∧ len = 0 ∧ cap = 0 ∧ zs = []) ∨
  ∃ x, a = some x ∧ len ≤ cap ∧ cap ≤ maxLen ∧ zs.length = cap ∧ (∀ i, i < zs.length → w.cell? (x.add i) = some (.int k (zs.getD i 0))) ∧ ∀ n ∈ zs, (Lit.int k n).wf = true

theorem ne_same (c : Int) : (c != c) = false := by simp
set_option maxHeartbeats 4000000 in
theorem walk (A : Option Addr) (cap : Nat) (rs : List R) (w : World) (hm : rs.length ≤ maxLen) (hR : RunsP (fun _ => True) (fun _ => True) w A rs) (hd : ∀ r ∈ rs, r.data.length ≤ maxLen) :
    Calls Try.prog 7 #[.slice A rs.length cap] w fun e w' => e = .returned (.bool true) ∧ Below w.heap.size w w' := by
  have Z := Lib.hid (hR.mono (T := (· < w.heap.size)) (Q := (· < w.heap.size)) (fun _ h _ => h) (fun _ h _ => h))
  have HD := Lib.hid hd
  clear hR hd
  have hf := fewAll_any _ _ A cap rs hm w Z.out HD.out
  cases hfb : fewB rs
  · rw [hfb] at hf
    clear hfb
    go_enter Try.func7, Try.ntmps7
    go_wp2_with fail
    refine hf.mono ?_
    rintro e w1 ⟨rfl, rfl⟩
    go_wp2_with fail
    refine (alive_any _).mono ?_
    rintro e w1 ⟨rfl, hb1⟩
    have N := Lib.hid hb1
    clear hb1
    go_wp2
    go_ret
    exact ⟨rfl, N.out⟩
  · rw [hfb] at hf
    have hl60 := few_len hfb
    have H60 := Lib.hid hl60
    clear hfb hm hl60
    go_enter Try.func7, Try.ntmps7
    go_wp2_with fail
    refine hf.mono ?_
    rintro e w1 ⟨rfl, rfl⟩
    clear hf
    go_wp2_with fail
    refine (given_own _ _ A cap rs (Nat.le_trans H60.out (by omega)) _ Z.out).mono ?_
    rintro e w1 ⟨v, rfl, hO1⟩
    have O1 := Lib.hid hO1
    clear hO1
    go_wp2_with fail
    refine (rev_any _ w v rs (Nat.le_trans H60.out (by omega)) _ O1.out).mono ?_
    rintro e w2 ⟨rfl, hO2, _⟩
    obtain ⟨A2, cap2, hv, hc2, hR2⟩ := hO2.runsP
    have B2 := Lib.hid hO2.2.1
    have hrl : rs.reverse.length = rs.length := List.length_reverse
    have hiof := iof_any _ _ A2 cap2 rs.reverse (by rw [hrl]; exact Nat.le_trans H60.out (by omega)) w2 hR2 (fun r hr => HD.out r (List.mem_reverse.1 hr))
    rw [← hv] at hiof
    obtain ⟨hr1, hr2⟩ := of_reverse rs
    clear hO2 hv hc2 hR2 hrl
    go_wp2_with fail
    refine hiof.mono ?_
    rintro e w3 ⟨hg, hb, hB3⟩
    have B3 := Lib.hid (B2.out.trans (hB3.mono B2.out.size))
    have hro := rof_any _ _ A cap rs (Nat.le_trans H60.out (by omega)) w3 (Z.out.below B3.out) HD.out
    obtain ⟨W, hW⟩ : ∃ W, (ofW [] rs).1 = W := ⟨_, rfl⟩
    obtain ⟨c, hc⟩ : ∃ c, (ofW [] rs).2 = c := ⟨_, rfl⟩
    rw [hW, hc] at hro
    rw [hc] at hr1 hr2
    rw [hW] at hr2
    clear hB3 hiof hW hc
    by_cases h0 : c = 0
    · obtain ⟨b, rfl, _, hI⟩ := hg (hr1.2 h0)
      rw [hr2 h0] at hI
      subst h0
      have I3 := Lib.hid hI
      clear hI hg hb hr1 hr2
      go_wp2_with fail
      refine hro.mono ?_
      rintro e w4 ⟨A3, cap3, rfl, _, hC3, hB4⟩
      have I4 := Lib.hid (I3.out.below hB4)
      have C4 := Lib.hid hC3
      have B4 := Lib.hid (B3.out.trans (hB4.mono B3.out.size))
      clear hro hC3 hB4
      go_wp2_with fail
      refine (alive_any _).mono ?_
      rintro e w5 ⟨rfl, hb5⟩
      have I5 := Lib.hid (I4.out.below hb5)
      have C5 := Lib.hid (C4.out.below hb5)
      have B5 := Lib.hid (B4.out.trans (hb5.mono B4.out.size))
      clear hb5
      go_wp2_with fail
      refine (lsame_any b _ _ A3 cap3 _ I5.out C5.out).mono ?_
      rintro e w6 ⟨rfl, hb6⟩
      have B6 := Lib.hid (B5.out.trans (hb6.mono B5.out.size))
      clear hb6
      go_wp2
      go_ret
      exact ⟨rfl, B6.out⟩
    · obtain ⟨d, hd⟩ : ∃ d, (ofW [] rs.reverse).2 = d := ⟨_, rfl⟩
      have hd0 : d ≠ 0 := fun h => h0 (hr1.1 (by rw [hd]; exact h))
      have he := hb (by rw [hd]; exact hd0)
      rw [hd] at he
      subst he
      have hcn : (c == 0) = false := beq_eq_false_iff_ne.2 h0
      have hcn2 : (c != 0) = true := by unfold bne; rw [hcn]; rfl
      have hdn : (d == 0) = false := beq_eq_false_iff_ne.2 hd0
      clear hg hb hr1 hr2 hd hd0 h0
      go_wp2_with fail
      refine hro.mono ?_
      rintro e w4 ⟨A3, cap3, rfl, _, hC3, hB4⟩
      have B4 := Lib.hid (B3.out.trans (hB4.mono B3.out.size))
      clear hro hC3 hB4
      go_wp2_with fail
      refine (alive_any _).mono ?_
      rintro e w5 ⟨rfl, hb5⟩
      have B5 := Lib.hid (B4.out.trans (hb5.mono B4.out.size))
      clear hb5
      go_wp2
      go_ret
      exact ⟨rfl, B5.out⟩

set_option maxRecDepth 100000 in
theorem lifted (os : Os) (started : os.Started) (H : Type) (enc : TypeId × Value → H) :
    ReturnsInHanded {} Try.checked os 7 .any (Rows.imageOrderSpec.pre6 enc Try.prog Try.f7 Rows.imageOrderRow.domain false) (Rows.imageOrderSpec.post enc Try.prog Try.f7 false true false false) := by
  refine returnsInHanded_of_change (C := Try.checked) own started (by kernel_rfl) Try.func7
    (ChangeSpec.witness6 (enc := enc) (C := Try.checked) false ⟨#[], #[.slice none 0 0], []⟩ 8 (by kernel_rfl) (by kernel_rfl) (by kernel_rfl) (by kernel_rfl)) ?_
  intro W base args ds gs before hval0 hW _ _
  have hval : ∀ (j : Nat) t v, Try.f7.params[j]? = some t → args[j]? = some v → Value.okWide Try.prog W .any base t v := hval0
  have hW' := hW
  obtain ⟨p, q, hA0, hV, rfl, _, _⟩ := hW
  have hA : DataW.TrodAll enc Try.prog W 0 (fun _ => true) true Try.f7.params.toList args.toList ds p := hA0
  rw [Try.params7] at hA hval
  obtain ⟨v0, vs0, d0, ds0, p0, q0, hargs, rfl, rfl, h0, r0⟩ := trodAll_cons hA
  obtain ⟨rfl, rfl, rfl⟩ := trodAll_nil r0
  obtain rfl : args = #[v0] := by cases args; simp_all
  obtain ⟨rfl, rfl⟩ := trodVars_none hV
  have k0 := h0
  have lt0 : ∀ x ∈ p0, x.block < W.heap.size := by obtain ⟨m, hm⟩ := k0; exact DataW.trod_lt m _ _ _ hm
  obtain ⟨a0, len0, cap0, rfl⟩ := okWide_slice Try.underlying22 (hval 0 22 v0 rfl rfl)
  obtain ⟨z0, hz0, hm0, w0, d0'⟩ : ∃ rs, len0 = rs.length ∧ len0 ≤ maxLen ∧ RunsP (fun _ => True) (fun _ => True) W a0 rs ∧ ∀ r ∈ rs, r.data.length ≤ maxLen := by
    obtain ⟨fuel, hf⟩ := h0
    have hf' : DataW.trod enc Try.prog W 0 (fun _ => true) true fuel 22 [.slice a0 len0 cap0] = some (d0, p0) := by simpa [Value.cells] using hf
    obtain ⟨A, len, cap, rs, e1, e2, e3, e4, e5⟩ := open_runs hf'
    simp only [Value.slice.injEq] at e1
    obtain ⟨rfl, rfl, rfl⟩ := e1
    exact ⟨rs, e2, e3, e4, e5⟩
  subst hz0
  clear hA0 hval0
  refine (walk a0 cap0 z0 W hm0 w0 d0').mono fun e W' ⟨he, bel⟩ => ?_
  subst he
  exact ⟨_, rfl, _, _, _, [], _, [], hW', trodAll_mk1 (shut_bool Try.underlying4 _), (trodAll_cons_mk (Below.trod laidOut (by kernel_rfl) (of_decide_eq_true (by kernel_rfl)) k0 bel lt0) trodAll_mk0), rfl, bel.frame _, fun h => by cases h⟩

theorem over : Rows.ImageOrderSaid :=
  OpenClaim.holds_of_wide 7 Try.f7 rfl rfl rfl rfl rfl rfl rfl ⟨rfl, rfl, rfl, rfl, rfl⟩ rfl rfl rfl rfl rfl (by kernel_rfl) Try.func7 (by kernel_rfl)
    (of_decide_eq_true (by kernel_rfl)) (by unfold Func.isWrapper; first | (rw [if_pos (by decide +kernel)]; kernel_rfl) | (rw [if_neg (by decide +kernel)]; exact ⟨rfl, rfl⟩))
    (fun os started H enc _ => lifted os started H enc)
#print axioms over
end Go.Proofs.Ytllfebekanafhaa.imageOrderDone
