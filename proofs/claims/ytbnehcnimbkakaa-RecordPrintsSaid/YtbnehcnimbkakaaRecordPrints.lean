/-
  RecordPrints, for every record: Print returns the line of the reference, or false, and Parse inverts it, also in small letters: the law returns true, and its argument reads as it did.
  Conditions: none.
-/
import Derived.Test.YtbnehcnimbkakaaRecO
import Derived.Test.YtbnehcnimbkakaaRecQ
import Derived.Test.YtbnehcnimbkakaaRecS
import Derived.Test.YtbnehcnimbkakaaRows
import Derived.ProofKit
import Derived.OpenShut
import Derived.Lay
import Derived.LaidOnce
import Derived.SevenTiedAt
import Derived.Below
namespace Go.Proofs.Ytbnehcnimbkakaa.recordPrintsDone
open Go.ChangeShapes Go.WideShapes Go.ChangeAt Go.RowKit
open Go.ChangeMaps (open_string shut_string)
set_option linter.unusedVariables false

theorem own : ownKnob Try.prog.godebug = none := by kernel_rfl
theorem laidOut : laidOutB Try.prog = true := by kernel_rfl
/-- A slice of integers that came in: nil, or a row of 'cap' cells that hold the numbers 'zs'. -/
def IsRow (k : IntKind) (w : World) (a : Option Addr) (len cap : Nat) (zs : List Int) : Prop :=
  (a = none ∧ len = 0 ∧ cap = 0 ∧ zs = []) ∨
  ∃ x, a = some x ∧ len ≤ cap ∧ cap ≤ maxLen ∧ zs.length = cap ∧ (∀ i, i < zs.length → w.cell? (x.add i) = some (.int k (zs.getD i 0))) ∧ ∀ n ∈ zs, (Lit.int k n).wf = true

theorem ne_self (s : ByteArray) : (s.toList != s.toList) = false := by simp
set_option maxHeartbeats 4000000 in
theorem walk (T a : Int) (A : Option Addr) (cap : Nat) (D : List UInt8) (w : World) (hm : D.length ≤ maxLen) (hx : BytesP (fun _ => True) w A D) :
    Calls Try.prog 3 #[.agg #[.int .i64 T, .int .i64 a, .slice A D.length cap]] w fun e w' => e = .returned (.bool true) ∧ Below w.heap.size w w' := by
  have hm0 := hm
  unfold maxLen at hm
  have hal : Below w.heap.size w (w.alloc (.cells #[.int .i64 T, .int .i64 a, .slice A D.length cap] 24)) := (Below.refl _ _).alloc (Nat.le_refl _) _
  have htr := Tri.new w _ rfl (.int .i64 T) (.int .i64 a) (.slice A D.length cap) 24
  have hX0 := (hx.mono (Q := (· < w.heap.size)) fun i hi _ => hi).below hal
  have hsz0 : w.heap.size < (w.alloc (.cells #[.int .i64 T, .int .i64 a, .slice A D.length cap] 24)).heap.size := by simp
  obtain ⟨w0, hw0⟩ : ∃ w0, w.alloc (.cells #[.int .i64 T, .int .i64 a, .slice A D.length cap] 24) = w0 := ⟨_, rfl⟩
  rw [hw0] at hal htr hX0 hsz0
  have B0 := Lib.hid hal
  have T0 := Lib.hid htr
  have X0 := Lib.hid (hX0.mono (Q := (· < w0.heap.size)) fun i hi _ => hi)
  obtain ⟨-, q0, q1, q2, -⟩ := htr
  clear hal hX0 hx
  by_cases hl : 300 < D.length
  · have hl' : (300 : Int) < (D.length : Int) := by omega
    go_enter Try.func3, Try.ntmps3
    go_wp2_with fail
    refine (alive_any _).mono ?_
    rintro e w1 ⟨rfl, hb1⟩
    have B1 := Lib.hid (B0.out.trans (hb1.mono B0.out.size))
    clear hb1
    go_wp2
    go_ret
    exact ⟨rfl, B1.out⟩
  · have h300 : D.length ≤ 300 := by omega
    have hl' : decide ((300 : Int) < (D.length : Int)) = false := decide_eq_false (by omega)
    have hp := print_any T a A cap D hm0 w0 X0.out
    obtain ⟨S, hS⟩ : ∃ S, printS T a D = S := ⟨_, rfl⟩
    obtain ⟨r, hr⟩ : ∃ r, rightB T a D.length = r := ⟨_, rfl⟩
    have hq := fun w P h => rprint_any P T a A cap D hm0 w h
    rw [hS, hr] at hp
    simp only [hS, hr] at hq
    have hne := ne_self S
    have HS := Lib.hid hS
    have HR := Lib.hid hr
    have HQ := Lib.hid hq
    clear hl hS hr hq
    go_enter Try.func3, Try.ntmps3
    go_wp2_with fail
    refine hp.mono ?_
    rintro e w1 ⟨rfl, hB1⟩
    have B1 := Lib.hid (B0.out.trans (hB1.mono B0.out.size))
    have hT1 := T0.out.kept (P := fun _ => True) (KeptP.of_all hB1) trivial
    have T1 := Lib.hid hT1
    have X1 := Lib.hid (X0.out.below hB1)
    clear q0 q1 q2 hp hB1
    obtain ⟨-, q0, q1, q2, -⟩ := hT1
    go_wp2_with fail
    refine (HQ.out _ _ X1.out).mono ?_
    rintro e w2 ⟨rfl, hB2⟩
    have B2 := Lib.hid (B1.out.trans (hB2.mono B1.out.size))
    have hT2 := T1.out.kept (P := fun _ => True) (KeptP.of_all hB2) trivial
    have T2 := Lib.hid hT2
    have X2 := Lib.hid (X1.out.below hB2)
    clear q0 q1 q2 hB2 B1 T1 X1 B0 T0 X0
    obtain ⟨-, q0, q1, q2, -⟩ := hT2
    cases r
    · go_wp2_with fail
      refine (alive_any _).mono ?_
      rintro e w3 ⟨rfl, hB3⟩
      have B3 := Lib.hid (B2.out.trans (hB3.mono B2.out.size))
      clear hB3
      go_wp2
      go_ret
      exact ⟨rfl, B3.out⟩
    · have hSl : S = ⟨#[58]⟩ ++ strOf (hexL (fullB T a D)) := by
        rw [← HS.out]
        unfold printS
        rw [HR.out]
        exact print_line T a D
      have hd := digits_hex (fullB T a D)
      have hfl := fullB_length T a D
      obtain ⟨t, ht⟩ : ∃ t, strOf (hexL (fullB T a D)) = t := ⟨_, rfl⟩
      rw [ht] at hSl hd
      have p1 := par_line T a D HR.out t hd
      have p2 := par_line T a D HR.out (loB t) (digits_low hd)
      have htsz : t.size ≤ 700 := by rw [hd.1, hfl]; omega
      obtain ⟨l1, l2⟩ := line_pre t
      have hcut : S.extract 1 S.size = t := by rw [hSl, ← linCut_of l1, l2]
      have hSsz : S.size = t.size + 1 := by rw [hSl]; exact line_size t
      rw [← hSl] at p1
      have c1 : ∀ w, Calls Try.prog 12 #[.string S] w (RetRec w T a D 0) := fun w => by
        have h := parse_any S (by omega) w
        rw [p1.1, p1.2.1, p1.2.2.1, p1.2.2.2] at h
        exact h
      have hlsz : (⟨#[58]⟩ ++ loB t : ByteArray).size = t.size + 1 := by rw [line_size, loB_size]
      have c2 : ∀ w, Calls Try.prog 12 #[.string (⟨#[58]⟩ ++ loB t)] w (RetRec w T a D 0) := fun w => by
        have h := parse_any (⟨#[58]⟩ ++ loB t) (by omega) w
        rw [p2.1, p2.2.1, p2.2.2.1, p2.2.2.2] at h
        exact h
      have hlo := fun w => lower_any t (by unfold maxLen; omega) w
      have h1S : (1 : Int) ≤ (S.size : Int) := by omega
      have hcat : ¬ 9223372036854775807 < (⟨#[58]⟩ : ByteArray).size + (loB t).size := by rw [loB_size]; have h2 : (⟨#[58]⟩ : ByteArray).size = 1 := rfl; omega
      clear hSl hd hfl ht p1 p2 l1 l2 hSsz hlsz HS HR HQ
      go_wp2_with fail
      refine (c1 _).mono ?_
      rintro e w3 ⟨A3, cap3, rfl, -, hX3, hB3⟩
      have al3 : Below w3.heap.size w3 (w3.alloc (.cells #[.int .i64 T, .int .i64 a, .slice A3 D.length cap3] 28)) := (Below.refl _ _).alloc (Nat.le_refl _) _
      have htr3 := Tri.new w3 _ rfl (.int .i64 T) (.int .i64 a) (.slice A3 D.length cap3) 28
      have hX3b := hX3.below al3
      have T3 := (T2.out.kept (P := fun _ => True) (KeptP.of_all hB3) trivial).kept (P := fun _ => True) (KeptP.of_all al3) trivial
      have X3 := (X2.out.below hB3).below al3
      have b23 := B2.out.trans (hB3.mono B2.out.size)
      have B3 := b23.alloc b23.size (.cells #[.int .i64 T, .int .i64 a, .slice A3 D.length cap3] 28)
      obtain ⟨w4, hw4⟩ : ∃ w4, w3.alloc (.cells #[.int .i64 T, .int .i64 a, .slice A3 D.length cap3] 28) = w4 := ⟨_, rfl⟩
      rw [hw4] at htr3 hX3b T3 X3 B3
      have HT3 := Lib.hid htr3
      have HX3 := Lib.hid hX3b
      have HT := Lib.hid T3
      have HX := Lib.hid X3
      have HB := Lib.hid B3
      clear htr3 hX3b T3 X3 B3 b23 al3 hB3 hX3 T2 X2 B2 q0 q1 q2
      go_wp2_with fail
      refine (hlo _).mono ?_
      rintro e w5 ⟨rfl, hB5⟩
      have T5 := HT.out.kept (P := fun _ => True) (KeptP.of_all hB5) trivial
      have T5b := HT3.out.kept (P := fun _ => True) (KeptP.of_all hB5) trivial
      have X5 := HX.out.below hB5
      have X5b := HX3.out.below hB5
      have B5 := Lib.hid (HB.out.trans (hB5.mono HB.out.size))
      have HT5 := Lib.hid T5
      have HT5b := Lib.hid T5b
      have HX5 := Lib.hid X5
      have HX5b := Lib.hid X5b
      clear hw4 T5 T5b X5 X5b hB5 HT HT3 HX HX3 HB
      go_wp2_with fail
      refine (c2 _).mono ?_
      rintro e w6 ⟨A6, cap6, rfl, -, hX6, hB6⟩
      have al6 : Below w6.heap.size w6 (w6.alloc (.cells #[.int .i64 T, .int .i64 a, .slice A6 D.length cap6] 28)) := (Below.refl _ _).alloc (Nat.le_refl _) _
      have t6 := Tri.new w6 _ rfl (.int .i64 T) (.int .i64 a) (.slice A6 D.length cap6) 28
      have x6 := hX6.below al6
      have t0 := (HT5.out.kept (P := fun _ => True) (KeptP.of_all hB6) trivial).kept (P := fun _ => True) (KeptP.of_all al6) trivial
      have t3 := (HT5b.out.kept (P := fun _ => True) (KeptP.of_all hB6) trivial).kept (P := fun _ => True) (KeptP.of_all al6) trivial
      have x0 := (HX5.out.below hB6).below al6
      have x3 := (HX5b.out.below hB6).below al6
      have b56 := B5.out.trans (hB6.mono B5.out.size)
      have b6 := b56.alloc b56.size (.cells #[.int .i64 T, .int .i64 a, .slice A6 D.length cap6] 28)
      obtain ⟨w7, hw7⟩ : ∃ w7, w6.alloc (.cells #[.int .i64 T, .int .i64 a, .slice A6 D.length cap6] 28) = w7 := ⟨_, rfl⟩
      rw [hw7] at t6 x6 t0 t3 x0 x3 b6
      have G6 := Lib.hid t6
      have Y6 := Lib.hid x6
      have G0 := Lib.hid t0
      have G3 := Lib.hid t3
      have Y0 := Lib.hid x0
      have Y3 := Lib.hid x3
      have B6 := Lib.hid b6
      clear t6 x6 t0 t3 x0 x3 b6 b56 al6 hB6 hX6 HT5 HT5b HX5 HX5b B5
      go_wp2_with fail
      refine (alive_any _).mono ?_
      rintro e w8 ⟨rfl, hB8⟩
      have t6 := G6.out.kept (P := fun _ => True) (KeptP.of_all hB8) trivial
      have t0 := G0.out.kept (P := fun _ => True) (KeptP.of_all hB8) trivial
      have t3 := G3.out.kept (P := fun _ => True) (KeptP.of_all hB8) trivial
      have x6 := Y6.out.below hB8
      have x0 := Y0.out.below hB8
      have x3 := Y3.out.below hB8
      have B8 := Lib.hid (B6.out.trans (hB8.mono B6.out.size))
      have sYes : sameR T a D T a D = true := by rw [sameR_yes]; simp
      have s1 := rsame_any _ _ T a A3 cap3 D T a A cap D w8 x3 x0
      rw [sYes] at s1
      have G6 := Lib.hid t6
      have G3 := Lib.hid t3
      have X3 := Lib.hid x3
      have X6 := Lib.hid x6
      obtain ⟨-, q0, q1, q2, -⟩ := t0
      obtain ⟨-, r0, r1, r2, -⟩ := t3
      clear hw7 t6 x6 x0 x3 hB8 B6 G0
      go_wp2_with fail
      refine s1.mono ?_
      rintro e w9 ⟨rfl, hB9⟩
      have t6 := G6.out.kept (P := fun _ => True) (KeptP.of_all hB9) trivial
      have t3 := G3.out.kept (P := fun _ => True) (KeptP.of_all hB9) trivial
      have s2 := same_any _ _ T a A3 cap3 D T a A6 cap6 D w9 (X3.out.below hB9) (X6.out.below hB9)
      rw [sYes] at s2
      have B9 := Lib.hid (B8.out.trans (hB9.mono B8.out.size))
      clear q0 q1 q2 r0 r1 r2 s1 hB9 G6 G3 X3 X6 B8 sYes
      obtain ⟨-, q0, q1, q2, -⟩ := t6
      obtain ⟨-, r0, r1, r2, -⟩ := t3
      go_wp2_with fail
      refine s2.mono ?_
      rintro e w10 ⟨rfl, hB10⟩
      have B10 := Lib.hid (B9.out.trans (hB10.mono B9.out.size))
      clear q0 q1 q2 r0 r1 r2 s2 hB10 B9
      go_wp2
      go_ret
      exact ⟨rfl, B10.out⟩

set_option maxRecDepth 100000 in
theorem lifted (os : Os) (started : os.Started) (H : Type) (enc : TypeId × Value → H) :
    ReturnsInHanded {} Try.checked os 3 .any (Rows.recordPrintsSpec.pre6 enc Try.prog Try.f3 Rows.recordPrintsRow.domain false) (Rows.recordPrintsSpec.post enc Try.prog Try.f3 false true false false) := by
  refine returnsInHanded_of_change (C := Try.checked) own started (by kernel_rfl) Try.func3
    (ChangeSpec.witness6 (enc := enc) (C := Try.checked) false ⟨#[], #[.agg #[.int .i64 0, .int .i64 0, .slice none 0 0]], []⟩ 8 (by kernel_rfl) (by kernel_rfl) (by kernel_rfl) (by kernel_rfl)) ?_
  intro W base args ds gs before hval0 hW _ _
  have hval : ∀ (j : Nat) t v, Try.f3.params[j]? = some t → args[j]? = some v → Value.okWide Try.prog W .any base t v := hval0
  have hW' := hW
  obtain ⟨p, q, hA0, hV, rfl, _, _⟩ := hW
  have hA : DataW.TrodAll enc Try.prog W 0 (fun _ => true) true Try.f3.params.toList args.toList ds p := hA0
  rw [Try.params3] at hA hval
  obtain ⟨v0, vs0, d0, ds0, p0, q0, hargs, rfl, rfl, h0, r0⟩ := trodAll_cons hA
  obtain ⟨rfl, rfl, rfl⟩ := trodAll_nil r0
  obtain rfl : args = #[v0] := by cases args; simp_all
  obtain ⟨rfl, rfl⟩ := trodVars_none hV
  have k0 := h0
  have lt0 : ∀ x ∈ p0, x.block < W.heap.size := by obtain ⟨m, hm⟩ := k0; exact DataW.trod_lt m _ _ _ hm
  obtain ⟨t0, b0, a0, cap0, z0, rfl, hm0, w0⟩ := open_rec (hval 0 24 v0 rfl rfl) h0
  clear hA0 hval0
  refine (walk t0 b0 a0 cap0 z0 W hm0 w0).mono fun e W' ⟨he, bel⟩ => ?_
  subst he
  exact ⟨_, rfl, _, _, _, [], _, [], hW', trodAll_mk1 (shut_bool Try.underlying4 _), (trodAll_cons_mk (Below.trod laidOut (by kernel_rfl) (of_decide_eq_true (by kernel_rfl)) k0 bel lt0) trodAll_mk0), rfl, bel.frame _, fun h => by cases h⟩

theorem over : Rows.RecordPrintsSaid :=
  OpenClaim.holds_of_wide 3 Try.f3 rfl rfl rfl rfl rfl rfl rfl ⟨rfl, rfl, rfl, rfl, rfl⟩ rfl rfl rfl rfl rfl (by kernel_rfl) Try.func3 (by kernel_rfl)
    (of_decide_eq_true (by kernel_rfl)) (by unfold Func.isWrapper; first | (rw [if_pos (by decide +kernel)]; kernel_rfl) | (rw [if_neg (by decide +kernel)]; exact ⟨rfl, rfl⟩))
    (fun os started H enc _ => lifted os started H enc)
#print axioms over
end Go.Proofs.Ytbnehcnimbkakaa.recordPrintsDone
