/-
  RecordSums, for all bytes: the sum of all bytes and their checksum is a multiple of 256, and the order of the bytes does not matter: the law returns true, and its argument reads as it did.
  Conditions: none.
-/
import Derived.Test.YtbnehcnimbkakaaRecO
import Derived.Test.YtbnehcnimbkakaaRecP
import Derived.Test.YtbnehcnimbkakaaRecQ
import Derived.Test.YtbnehcnimbkakaaRows
import Derived.ProofKit
import Derived.OpenShut
import Derived.Lay
import Derived.LaidOnce
import Derived.SevenTiedAt
import Derived.Below
namespace Go.Proofs.Ytbnehcnimbkakaa.recordSumsDone
open Go.ChangeShapes Go.WideShapes Go.ChangeAt Go.RowKit
open Go.ChangeMaps (open_string shut_string)
set_option linter.unusedVariables false

theorem own : ownKnob Try.prog.godebug = none := by kernel_rfl
theorem laidOut : laidOutB Try.prog = true := by kernel_rfl
/-- A slice of integers that came in: nil, or a row of 'cap' cells that hold the numbers 'zs'. -/
def IsRow (k : IntKind) (w : World) (a : Option Addr) (len cap : Nat) (zs : List Int) : Prop :=
  (a = none ∧ len = 0 ∧ cap = 0 ∧ zs = []) ∨
  ∃ x, a = some x ∧ len ≤ cap ∧ cap ≤ maxLen ∧ zs.length = cap ∧ (∀ i, i < zs.length → w.cell? (x.add i) = some (.int k (zs.getD i 0))) ∧ ∀ n ∈ zs, (Lit.int k n).wf = true

theorem chk_sum (xs : List UInt8) : (chkI xs + sumI xs) % 256 = 0 := by unfold chkI; omega
theorem chk_rev (xs : List UInt8) : chkI xs.reverse = chkI xs := by unfold chkI; rw [sumI_reverse]
set_option maxHeartbeats 2000000 in
theorem walk (A : Option Addr) (cap : Nat) (xs : List UInt8) (w : World) (hm : xs.length ≤ maxLen) (hx : BytesP (fun _ => True) w A xs) :
    Calls Try.prog 5 #[.slice A xs.length cap] w fun e w' => e = .returned (.bool true) ∧ Below w.heap.size w w' := by
  have hm0 := hm
  unfold maxLen at hm
  by_cases hl : 1000 < xs.length
  · have hl' : (1000 : Int) < (xs.length : Int) := by omega
    go_enter Try.func5, Try.ntmps5
    go_wp2_with fail
    refine (alive_any _).mono ?_
    rintro e w1 ⟨rfl, hb1⟩
    have B1 := Lib.hid hb1
    clear hb1
    go_wp2
    go_ret
    exact ⟨rfl, B1.out⟩
  · have h1000 : xs.length ≤ 1000 := by omega
    have hl' : decide ((1000 : Int) < (xs.length : Int)) = false := decide_eq_false (by omega)
    have X := Lib.hid (hx.mono (Q := (· < w.heap.size)) fun i hi _ => hi)
    obtain ⟨c, hc⟩ : ∃ c, chkI xs = c := ⟨_, rfl⟩
    have hcb := chkI_bd xs
    rw [hc] at hcb
    have C := Lib.hid hc
    obtain ⟨hc0, hc1⟩ := hcb
    have hsum := sum_any _ A cap xs hm0 w X.out
    rw [hc] at hsum
    clear hl hc hx
    go_enter Try.func5, Try.ntmps5
    go_wp2_with fail
    refine hsum.mono ?_
    rintro e w1 ⟨rfl, hB1⟩
    have B1 := Lib.hid hB1
    have X1 := Lib.hid (X.out.below hB1)
    clear hB1 hsum
    go_wp2
    go_loop [4, 18] (fun n i => ∃ (k : Nat) (y : Int), k ≤ xs.length ∧ i = .int .i64 k ∧ n = .int .i64 y ∧ 0 ≤ y ∧ y ≤ 255 * (k : Int) + 255 ∧ Hid (y = c + sumI (xs.take k))) (fun _ i => xs.length - (intOf i).toNat)
    case atStart => exact ⟨0, c, Nat.zero_le _, rfl, by go_num, hc0, by omega, by show _ = _; simp [sumI_nil]⟩
    case round =>
      obtain ⟨k, y, hk, rfl, rfl, y0, y1, Y⟩ := hrel
      by_cases hlt : k < xs.length
      · obtain ⟨g, off, hA, g0⟩ := X1.out.at_ hlt
        subst hA
        have T := Lib.hid (sumI_take xs k hlt)
        obtain ⟨x, hxk⟩ : ∃ x : Int, (xs[k].toNat : Int) = x := ⟨_, rfl⟩
        have x0 : 0 ≤ x := by omega
        have x1 : x < 256 := by have := xs[k].toNat_lt; omega
        rw [hxk] at g0 T
        clear hxk
        go_wp2
        go_round
        case rel => exact ⟨k + 1, _, by omega, by go_num, rfl, by omega, by omega, by show _ = _; rw [T.out, Y.out]; omega⟩
        case measure => simp [intOf]; omega
      · have E : Hid (y = c + sumI xs) := by
          have h := Y.out
          rw [List.take_of_length_le (by omega)] at h
          exact h
        have hy : y % 256 = 0 := by rw [E.out, ← C.out]; exact chk_sum xs
        have hcl := cloneO_any _ A cap xs (by omega) w1 X1.out
        clear Y E
        go_wp2_with fail
        refine hcl.mono ?_
        rintro e w2 ⟨v2, rfl, hO2⟩
        have X2 := Lib.hid (X1.out.below hO2.2)
        have hrv := rev_any w1 v2 xs (by omega) w2 hO2
        clear hcl hO2
        go_wp2_with fail
        refine hrv.mono ?_
        rintro e w3 ⟨rfl, hO3, hs3⟩
        have X3 := Lib.hid (X1.out.below hO3.2)
        have O3 := Lib.hid hO3
        clear hrv hO3 hs3
        go_wp2_with fail
        refine (alive_any _).mono ?_
        rintro e w4 ⟨rfl, hB4⟩
        obtain ⟨A3, cap3, e3, -, -, hX3, hBl3⟩ := ownB_endC O3.out
        injection e3 with e3
        subst e3
        have B3 := B1.out.trans (hBl3.mono B1.out.size)
        have B4 := Lib.hid (B3.trans (hB4.mono B3.size))
        have hrs := rsum_any _ A cap xs hm0 w4 (X3.out.below hB4)
        have hRV := hX3.toP.below hB4
        have hs2 := sum_any _ A3 cap3 xs.reverse (by rw [List.length_reverse]; exact hm0) w4 hRV
        rw [chk_rev, C.out, List.length_reverse] at hs2
        rw [C.out] at hrs
        rw [List.length_reverse]
        clear hB4 hX3 hBl3 B3 hRV O3
        go_wp2_with fail
        refine hrs.mono ?_
        rintro e w' ⟨rfl, rfl⟩
        go_wp2_with fail
        refine hs2.mono ?_
        rintro e w5 ⟨rfl, hB5⟩
        have B5 := Lib.hid (B4.out.trans (hB5.mono B4.out.size))
        clear hs2 hB5 hrs
        go_wp2
        go_ret
        exact ⟨rfl, B5.out⟩

set_option maxRecDepth 100000 in
theorem lifted (os : Os) (started : os.Started) (H : Type) (enc : TypeId × Value → H) :
    ReturnsInHanded {} Try.checked os 5 .any (Rows.recordSumsSpec.pre6 enc Try.prog Try.f5 Rows.recordSumsRow.domain false) (Rows.recordSumsSpec.post enc Try.prog Try.f5 false true false false) := by
  refine returnsInHanded_of_change (C := Try.checked) own started (by kernel_rfl) Try.func5
    (ChangeSpec.witness6 (enc := enc) (C := Try.checked) false ⟨#[], #[.slice none 0 0], []⟩ 8 (by kernel_rfl) (by kernel_rfl) (by kernel_rfl) (by kernel_rfl)) ?_
  intro W base args ds gs before hval0 hW _ _
  have hval : ∀ (j : Nat) t v, Try.f5.params[j]? = some t → args[j]? = some v → Value.okWide Try.prog W .any base t v := hval0
  have hW' := hW
  obtain ⟨p, q, hA0, hV, rfl, _, _⟩ := hW
  have hA : DataW.TrodAll enc Try.prog W 0 (fun _ => true) true Try.f5.params.toList args.toList ds p := hA0
  rw [Try.params5] at hA hval
  obtain ⟨v0, vs0, d0, ds0, p0, q0, hargs, rfl, rfl, h0, r0⟩ := trodAll_cons hA
  obtain ⟨rfl, rfl, rfl⟩ := trodAll_nil r0
  obtain rfl : args = #[v0] := by cases args; simp_all
  obtain ⟨rfl, rfl⟩ := trodVars_none hV
  have k0 := h0
  have lt0 : ∀ x ∈ p0, x.block < W.heap.size := by obtain ⟨m, hm⟩ := k0; exact DataW.trod_lt m _ _ _ hm
  obtain ⟨a0, len0, cap0, rfl⟩ := okWide_slice Try.underlying22 (hval 0 22 v0 rfl rfl)
  obtain ⟨z0, hz0, hm0, w0⟩ : ∃ xs, len0 = xs.length ∧ len0 ≤ maxLen ∧ BytesP (fun _ => True) W a0 xs := by
    obtain ⟨fuel, hf⟩ := h0
    have hf' : DataW.trod enc Try.prog W 0 (fun _ => true) true fuel 22 [.slice a0 len0 cap0] = some (d0, p0) := by simpa [Value.cells] using hf
    obtain ⟨A, len, cap, xs, e1, e2, e3, e4⟩ := open_bytes hf'
    simp only [Value.slice.injEq] at e1
    obtain ⟨rfl, rfl, rfl⟩ := e1
    exact ⟨xs, e2, e3, e4⟩
  subst hz0
  clear hA0 hval0
  refine (walk a0 cap0 z0 W hm0 w0).mono fun e W' ⟨he, bel⟩ => ?_
  subst he
  exact ⟨_, rfl, _, _, _, [], _, [], hW', trodAll_mk1 (shut_bool Try.underlying4 _), (trodAll_cons_mk (Below.trod laidOut (by kernel_rfl) (of_decide_eq_true (by kernel_rfl)) k0 bel lt0) trodAll_mk0), rfl, bel.frame _, fun h => by cases h⟩

theorem over : Rows.RecordSumsSaid :=
  OpenClaim.holds_of_wide 5 Try.f5 rfl rfl rfl rfl rfl rfl rfl ⟨rfl, rfl, rfl, rfl, rfl⟩ rfl rfl rfl rfl rfl (by kernel_rfl) Try.func5 (by kernel_rfl)
    (of_decide_eq_true (by kernel_rfl)) (by unfold Func.isWrapper; first | (rw [if_pos (by decide +kernel)]; kernel_rfl) | (rw [if_neg (by decide +kernel)]; exact ⟨rfl, rfl⟩))
    (fun os started H enc _ => lifted os started H enc)
#print axioms over
end Go.Proofs.Ytbnehcnimbkakaa.recordSumsDone
