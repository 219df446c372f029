/-
  InstrMakes, for all strings and operands: Make returns the instruction of the reference, in memory of its own, Known says whether the word is a mnemonic, and Ops returns them all; the law returns true, and its arguments read as they did.
  Conditions: none.
-/
import Derived.Test.YthpaamekpfhkjaaDoorInZ
import Derived.Test.YthpaamekpfhkjaaDoorInH
import Derived.Test.YthpaamekpfhkjaaDoorMixG
import Derived.Test.YthpaamekpfhkjaaDoorCards
import Derived.Test.YthpaamekpfhkjaaDoorTie
import Derived.ProofKit
import Derived.OpenShut
import Derived.Lay
import Derived.LaidOnce
import Derived.SevenTiedAt
import Derived.Below
namespace Go.Proofs.YthpaamekpfhkjaaDoor.instrMakesDone
open Go.ChangeShapes Go.WideShapes Go.ChangeAt Go.RowKit
open Go.ChangeMaps (open_string shut_string)
set_option linter.unusedVariables false

theorem own : ownKnob Tryd.prog.godebug = none := by kernel_rfl
theorem laidOut : laidOutB Tryd.prog = true := by kernel_rfl
/-- A slice of integers that came in: nil, or a row of 'cap' cells that hold the numbers 'zs'. -/
def IsRow (k : IntKind) (w : World) (a : Option Addr) (len cap : Nat) (zs : List Int) : Prop :=
  (a = none ∧ len = 0 ∧ cap = 0 ∧ zs = []) ∨
  ∃ x, a = some x ∧ len ≤ cap ∧ cap ≤ maxLen ∧ zs.length = cap ∧ (∀ i, i < zs.length → w.cell? (x.add i) = some (.int k (zs.getD i 0))) ∧ ∀ n ∈ zs, (Lit.int k n).wf = true

attribute [local irreducible] Go.Mixed.wpMix
set_option maxRecDepth 100000 in
set_option maxHeartbeats 4000000 in
theorem walk (s : ByteArray) (A : Option Addr) (cap : Nat) (L : List Tr) (w : World) (hs : s.size ≤ maxLen) (hL : L.length ≤ maxLen) (H : OpsP w A L) :
    Calls Tryd.prog 4 #[.string s, .slice A L.length cap] w fun e w' => e = .returned (.bool true) ∧ Below w.heap.size w w' := by
  have hs' : s.size ≤ maxLen := hs
  have hL' : L.length ≤ maxLen := hL
  unfold maxLen at hs' hL'
  have X := Lib.hid H
  obtain ⟨n, hn⟩ : ∃ n, L.length = n := ⟨_, rfl⟩
  have HN := Lib.hid hn
  rw [hn] at hL hL' ⊢
  clear H hn
  by_cases hsh : s.size ≤ 100 ∧ n ≤ 20
  · obtain ⟨hs1, hn1⟩ := hsh
    have g1 : ¬ (100 : Int) < (s.size : Int) := by omega
    have g2 : ¬ (20 : Int) < (n : Int) := by omega
    have g3 : decide ((100 : Int) < (s.size : Int)) = false := decide_eq_false g1
    have g4 : decide ((20 : Int) < (n : Int)) = false := decide_eq_false g2
    have hus : (upB s).size ≤ maxLen := by rw [upB_size]; exact hs
    have MK := Lib.hid (fun A cap w' h => make_any s hs A cap L (by rw [HN.out]; omega) w' h)
    have RM := Lib.hid (fun w' h => rmake_any s (by omega) A cap L (by rw [HN.out]; omega) w' h)
    have KN := Lib.hid (known_any s hs)
    have RU := Lib.hid (rupper_any s (by omega))
    obtain ⟨u, hu⟩ : ∃ u, upB s = u := ⟨_, rfl⟩
    rw [hu] at MK RM KN RU
    have SM := Lib.hid (fun A1 A2 c1 c2 w' h1 h2 => same_any u A1 A2 c1 c2 L (by rw [HN.out]; omega) w' h1 h2)
    have RK := Lib.hid (rknown_any u)
    obtain ⟨kb, hkb⟩ : ∃ kb, knB u = kb := ⟨_, rfl⟩
    rw [hkb] at KN RK
    have EQS := Lib.hid (fun A1 A2 c1 c2 w' h1 h2 => equalS_any A1 A2 c1 c2 opsL opsL (by rw [ops_len]; unfold maxLen; omega) (by rw [ops_len]; unfold maxLen; omega) w' h1 h2)
    rw [HN.out] at MK RM SM
    clear hu hkb hus
    obtain ⟨v0, w2, hrun, hO0, hb0⟩ := append_ops A cap L (by rw [HN.out]; omega) w X.out
    obtain ⟨A0, cap0, rfl, hP0, -⟩ := hO0.ops
    have KR := Lib.hid hrun
    rw [HN.out] at hO0 KR
    have O0 := Lib.hid hO0
    have P0 := Lib.hid hP0
    have B0 := Lib.hid hb0
    clear hrun hO0 hP0 hb0
    go_enter Tryd.func4, Tryd.ntmps4
    go_wp2_with (at_builtin; refine wpList_run_append KR.out rfl _ _ rfl rfl rfl rfl ?_)
    refine (MK.out A0 cap0 _ P0.out).mono ?_
    rintro e w3 ⟨v5, rfl, hO5, hb⟩
    obtain ⟨A5, cap5, rfl, -, -⟩ := hO5.ops
    rw [HN.out] at hO5
    rw [HN.out]
    have hal : Below w3.heap.size w3 (w3.alloc (.cells #[.string u, .slice A5 n cap5] 24)) := (Below.refl _ _).alloc (Nat.le_refl _) _
    have GA : Hid (∀ g, A0 = some ⟨g, 0, none⟩ → g < w2.heap.size ∧ w.heap.size ≤ g ∧ g ≠ w3.heap.size) := fun g hg => by
      have h1 := World.ownsRow.lt O0.out g (by rw [hg]; rfl)
      have h2 := hb.size
      exact ⟨h1.2, h1.1, by omega⟩
    have O1 : Hid (OwnT (w3.alloc (.cells #[.string u, .slice A5 n cap5] 24)) w.heap.size (.slice A0 n cap0) L) := (O0.out.below hb).below hal
    have O2 : Hid (OwnT (w3.alloc (.cells #[.string u, .slice A5 n cap5] 24)) w2.heap.size (.slice A5 n cap5) L) := OwnT.below hO5 hal
    have T2 : Hid (Bx (w3.alloc (.cells #[.string u, .slice A5 n cap5] 24)) w3.heap.size u A5 n cap5) := Bx.new w3 u A5 n cap5 _
    have B2 : Hid (Below w.heap.size w (w3.alloc (.cells #[.string u, .slice A5 n cap5] 24))) := (B0.out.trans (hb.mono B0.out.size)).trans (hal.mono ((B0.out.trans (hb.mono B0.out.size)).size))
    have LW : Hid (w.heap.size ≤ w2.heap.size) := B0.out.size
    clear hb hal hO5 O0 P0 B0 KR MK
    go_wp2
    go_loopw [25] (fun i wr => ∃ (j : Nat) (L' : List Tr), j ≤ n ∧ i = .int .i64 j ∧ Hid (L'.length = n) ∧ Hid (OwnT wr w.heap.size (.slice A0 n cap0) L') ∧ Hid (OwnT wr w2.heap.size (.slice A5 n cap5) L) ∧ Hid (Bx wr w3.heap.size u A5 n cap5) ∧ Hid (Below w.heap.size w wr)) (fun i _ => n - (intOf i).toNat)
    case atStart => exact ⟨0, L, Nat.zero_le _, rfl, HN.out, O1.out, O2.out, T2.out, B2.out⟩
    case round =>
      clear O1 O2 T2 B2
      obtain ⟨j, L', hj, rfl, HL', O1, O2, T2, B2⟩ := hrel
      by_cases hlt : j < n
      · have hjL : j < L'.length := by rw [HL'.out]; exact hlt
        obtain ⟨g, c', hA0, hgb, -, hcl, hfz⟩ := O1.out.form (by omega)
        simp only [Value.slice.injEq] at hA0
        obtain ⟨rfl, -, -⟩ := hA0
        obtain ⟨hg1, hg2, hg3⟩ := GA.out g rfl
        obtain ⟨-, -, p2⟩ := hcl j hjL
        have f2 := hfz (j * 3 + 2)
        obtain ⟨⟨y0, y1, y2⟩, hy⟩ : ∃ y, L'[j] = y := ⟨_, rfl⟩
        rw [hy] at p2
        simp only at p2
        have PUT : Hid (∀ x : Int, OwnT (wr.setCell ⟨g, j * 3 + 2, none⟩ (.int .i64 x)) w.heap.size (.slice (some ⟨g, 0, none⟩) n cap0) (L'.set j (y0, y1, x)) ∧ OwnT (wr.setCell ⟨g, j * 3 + 2, none⟩ (.int .i64 x)) w2.heap.size (.slice A5 n cap5) L ∧
            Bx (wr.setCell ⟨g, j * 3 + 2, none⟩ (.int .i64 x)) w3.heap.size u A5 n cap5 ∧ Below w.heap.size w (wr.setCell ⟨g, j * 3 + 2, none⟩ (.int .i64 x)) ∧ (L'.set j (y0, y1, x)).length = n) := fun x => by
          have hB := B2.out.setCell (p := ⟨g, j * 3 + 2, none⟩) hg2 (.int .i64 x)
          have hbk : (wr.setCell ⟨g, j * 3 + 2, none⟩ (.int .i64 x)).heap[w3.heap.size]? = wr.heap[w3.heap.size]? := heap_setCell_other wr ⟨g, j * 3 + 2, none⟩ w3.heap.size _ hg3.symm
          have hc : ∀ o, (wr.setCell ⟨g, j * 3 + 2, none⟩ (.int .i64 x)).cell? ⟨w3.heap.size, o, none⟩ = wr.cell? ⟨w3.heap.size, o, none⟩ := fun o => World.cell?_of_block hbk
          refine ⟨OwnT.put O1.out HL'.out (by rw [List.length_set]; exact HL'.out) _ _ (cells_set L' j y0 y1 x hjL (by rw [hy]) (by rw [hy])).symm, row_set O2.out (p := ⟨g, j * 3 + 2, none⟩) hg1 _, ⟨(hc 0).trans T2.out.1, (hc 1).trans T2.out.2⟩, hB, by rw [List.length_set]; exact HL'.out⟩
        clear hjL hgb hcl hfz hg1 hg2 hg3 hy O1 O2 T2 B2 HL' c'
        go_wp2
        go_roundw
        case rel => exact ⟨j + 1, _, by omega, by go_num, (PUT.out _).2.2.2.2, (PUT.out _).1, (PUT.out _).2.1, (PUT.out _).2.2.1, (PUT.out _).2.2.2.1⟩
        case measure => simp [intOf]; omega
      · clear HL' O1
        have T3 : Hid (Bx wr.drew w3.heap.size u A5 n cap5) := T2.out
        have O3 : Hid (OwnT wr.drew w2.heap.size (.slice A5 n cap5) L) := O2.out
        have B3 : Hid (Below w.heap.size w wr.drew) := B2.out.trans ((below_drewN _ _ 1).mono B2.out.size)
        clear T2 O2 B2
        go_wp2
        refine Mixed.wp_region_mixed (fun w' => Bx w' w3.heap.size u A5 n cap5) 21 [(0, false), (1, true), (2, true), (3, true), (4, true), (5, false), (6, false), (7, true), (8, true), (9, true), (11, true), (10, false), (12, false), (13, false), (14, true), (15, true), (16, true), (17, false), (18, false), (19, false), (20, true)] (by kernel_rfl) (by kernel_rfl) T3.out ?_
        refine Mixed.wpMix_loudG rfl (by kernel_rfl) ?_
        go_wp2_with fail
        refine (alive_any _).mono ?_
        rintro e wx4 ⟨rfl, hb⟩
        have T4 := Lib.hid (T3.out.all hb)
        have O4 := Lib.hid (O3.out.below hb)
        have B4 := Lib.hid (B3.out.trans (hb.mono B3.out.size))
        have xx := T4.out
        clear hb T3 O3 B3
        go_wp2
        refine ⟨xx, ?_⟩
        clear xx
        refine Mixed.wpMix_move rfl (by kernel_rfl) _ rfl _ rfl ?_
        refine Mixed.wpMix_pure rfl (by kernel_rfl) (.agg #[.string u, .slice A5 n cap5]) (fun w h => by obtain ⟨h1, h2⟩ := h; go_simp; try rfl) ?_
        refine Mixed.wpMix_pure rfl (by kernel_rfl) (.string s) (fun w h => by clear h; go_simp; try rfl) ?_
        refine Mixed.wpMix_pure rfl (by kernel_rfl) (.slice A n cap) (fun w h => by clear h; go_simp; try rfl) ?_
        refine Mixed.wpMix_loudG rfl (by kernel_rfl) ?_
        go_wp2_with fail
        refine (RM.out _ (X.out.below B4.out)).mono ?_
        rintro e wx5 ⟨v7, rfl, hO7, hb⟩
        obtain ⟨A7, cap7, rfl, hP7, -⟩ := hO7.ops
        rw [HN.out]
        have P7 := Lib.hid hP7
        clear hO7 hP7
        have T5 := Lib.hid (T4.out.all hb)
        have O5 := Lib.hid (O4.out.below hb)
        have B5 := Lib.hid (B4.out.trans (hb.mono B4.out.size))
        have xx := T5.out
        clear hb T4 O4 B4
        go_wp2
        refine ⟨xx, ?_⟩
        clear xx
        obtain ⟨A5', c5', e5, hP5, -⟩ := OwnT.ops O5.out
        simp only [Value.slice.injEq] at e5
        obtain ⟨rfl, -, -⟩ := e5
        have P5 := Lib.hid hP5
        clear hP5
        refine Mixed.wpMix_loudG rfl (by kernel_rfl) ?_
        go_wp2_with fail
        refine (SM.out A5 A7 cap5 cap7 _ P5.out P7.out).mono ?_
        rintro e wx6 ⟨rfl, hb⟩
        have T6 := Lib.hid (T5.out.all hb)
        have O6 := Lib.hid (O5.out.below hb)
        have B6 := Lib.hid (B5.out.trans (hb.mono B5.out.size))
        have xx := T6.out
        clear hb T5 O5 B5
        go_wp2
        refine ⟨xx, ?_⟩
        clear xx
        refine Mixed.wpMix_pure rfl (by kernel_rfl) (.bool true) (fun w h => by clear h; go_simp; try rfl) ?_
        refine Mixed.wpMix_move rfl (by kernel_rfl) _ rfl _ rfl ?_
        refine Mixed.wpMix_pure rfl (by kernel_rfl) (.string s) (fun w h => by clear h; go_simp; try rfl) ?_
        refine Mixed.wpMix_pure rfl (by kernel_rfl) (.string s) (fun w h => by clear h; go_simp; try rfl) ?_
        refine Mixed.wpMix_loudG rfl (by kernel_rfl) ?_
        go_wp2_with fail
        refine (KN.out _).mono ?_
        rintro e wx7 ⟨rfl, hb⟩
        have T7 := Lib.hid (T6.out.all hb)
        have O7 := Lib.hid (O6.out.below hb)
        have B7 := Lib.hid (B6.out.trans (hb.mono B6.out.size))
        have xx := T7.out
        clear hb T6 O6 B6
        go_wp2
        refine ⟨xx, ?_⟩
        clear xx
        refine Mixed.wpMix_loudG rfl (by kernel_rfl) ?_
        go_wp2_with fail
        refine (RU.out _).mono ?_
        rintro e wx8 ⟨rfl, hb⟩
        have T8 := Lib.hid (T7.out.all hb)
        have O8 := Lib.hid (O7.out.below hb)
        have B8 := Lib.hid (B7.out.trans (hb.mono B7.out.size))
        have xx := T8.out
        clear hb T7 O7 B7
        go_wp2
        refine ⟨xx, ?_⟩
        clear xx
        refine Mixed.wpMix_loudG rfl (by kernel_rfl) ?_
        go_wp2_with fail
        refine (RK.out _).mono ?_
        rintro e wx9 ⟨rfl, hb⟩
        have T9 := Lib.hid (T8.out.all hb)
        have O9 := Lib.hid (O8.out.below hb)
        have B9 := Lib.hid (B8.out.trans (hb.mono B8.out.size))
        have xx := T9.out
        clear hb T8 O8 B8
        go_wp2
        refine ⟨xx, ?_⟩
        clear xx
        refine Mixed.wpMix_pure rfl (by kernel_rfl) (.bool true) (fun w h => by clear h; go_simp; try rfl) ?_
        refine Mixed.wpMix_pure rfl (by kernel_rfl) (.bool true) (fun w h => by clear h; go_simp; try rfl) ?_
        refine Mixed.wpMix_move rfl (by kernel_rfl) _ rfl _ rfl ?_
        refine Mixed.wpMix_loudG rfl (by kernel_rfl) ?_
        go_wp2_with fail
        refine (ops_any _).mono ?_
        rintro e wx10 ⟨Aa, ca, rfl, hS, hb⟩
        have Sa := Lib.hid hS
        clear hS
        have T10 := Lib.hid (T9.out.all hb)
        have O10 := Lib.hid (O9.out.below hb)
        have B10 := Lib.hid (B9.out.trans (hb.mono B9.out.size))
        have xx := T10.out
        clear hb T9 O9 B9
        go_wp2
        refine ⟨xx, ?_⟩
        clear xx
        refine Mixed.wpMix_loudG rfl (by kernel_rfl) ?_
        go_wp2_with fail
        refine (rops_any _).mono ?_
        rintro e wx11 ⟨Ab, cb, rfl, hS, hb⟩
        have Sa := Lib.hid (Sa.out.below hb)
        have Sb := Lib.hid hS
        clear hS
        have T11 := Lib.hid (T10.out.all hb)
        have O11 := Lib.hid (O10.out.below hb)
        have B11 := Lib.hid (B10.out.trans (hb.mono B10.out.size))
        have xx := T11.out
        clear hb T10 O10 B10
        go_wp2
        refine ⟨xx, ?_⟩
        clear xx
        refine Mixed.wpMix_loudG rfl (by kernel_rfl) ?_
        go_wp2_with fail
        refine (EQS.out Aa Ab ca cb _ Sa.out Sb.out).mono ?_
        rintro e wx12 ⟨rfl, hb⟩
        have T12 := Lib.hid (T11.out.all hb)
        have O12 := Lib.hid (O11.out.below hb)
        have B12 := Lib.hid (B11.out.trans (hb.mono B11.out.size))
        have xx := T12.out
        clear hb T11 O11 B11
        go_wp2
        refine ⟨xx, ?_⟩
        clear xx
        refine Mixed.wpMix_pure rfl (by kernel_rfl) (.bool true) (fun w h => by clear h; go_simp; try rfl) ?_
        simp only [Mixed.wpMix, List.drop_succ_cons, List.drop_zero]
        go_wp2
        go_ret
        exact ⟨rfl, B12.out⟩
  · clear X
    by_cases h1 : s.size ≤ 100
    · have h2 : ¬ n ≤ 20 := fun h => hsh ⟨h1, h⟩
      have g1 : ¬ (100 : Int) < (s.size : Int) := by omega
      have g2 : (20 : Int) < (n : Int) := by omega
      have g3 : decide ((100 : Int) < (s.size : Int)) = false := decide_eq_false g1
      have g4 : decide ((20 : Int) < (n : Int)) = true := decide_eq_true g2
      clear hsh h1 h2
      go_enter Tryd.func4, Tryd.ntmps4
      go_wp2_with fail
      refine (alive_any _).mono ?_
      rintro e w2 ⟨rfl, h2⟩
      have B2 := Lib.hid h2
      clear h2
      go_wp2
      go_ret
      exact ⟨rfl, B2.out⟩
    · have g1 : (100 : Int) < (s.size : Int) := by omega
      have g3 : decide ((100 : Int) < (s.size : Int)) = true := decide_eq_true g1
      clear hsh h1
      go_enter Tryd.func4, Tryd.ntmps4
      go_wp2_with fail
      refine (alive_any _).mono ?_
      rintro e w2 ⟨rfl, h2⟩
      have B2 := Lib.hid h2
      clear h2
      go_wp2
      go_ret
      exact ⟨rfl, B2.out⟩

set_option maxRecDepth 100000 in
theorem lifted (os : Os) (started : os.Started) (H : Type) (enc : TypeId × Value → H) :
    ReturnsInHanded {} Tryd.checked os 4 .any (fun w args => (Rows.instrMakesSpec.pre enc Tryd.prog Tryd.f4 [] false w args ∧ laidMetH Tryd.prog Rows.instrMakesRow.laid w) ∧ sizedMet enc Tryd.prog Tryd.f4 (OpenSpec.ofChange Rows.instrMakesSpec) false w args)
      (Rows.instrMakesSpec.post enc Tryd.prog Tryd.f4 false true false false) := by
  refine returnsInHanded_of_change_and (C := Tryd.checked) (X := fun w _ => laidMetH Tryd.prog Rows.instrMakesRow.laid w) (fun _ _ _ hh h => h.of_heap hh) own started (by kernel_rfl) Tryd.func4
    (ChangeSpec.witness_shaped (enc := enc) (C := Tryd.checked) (os := os) (X := fun w _ => laidMetH Tryd.prog Rows.instrMakesRow.laid w) false (World.laidAll Tryd.prog os Rows.instrMakesRow.laid) #[.string ⟨#[]⟩, .slice none 0 0] 8 (World.laidAll_os _ _ _)
      (World.shaped_of_ZipB (by kernel_rfl) (by kernel_rfl)) (by kernel_rfl) (by kernel_rfl) (by kernel_rfl)
      (by rw [MakeChecks.laidMetH_plain _ _ _ (by kernel_rfl)]; exact laidMet_laidAll _ (by kernel_rfl) (by kernel_rfl))) ?_
  intro W base args ds gs before hval0 hW _ _ hL _
  have hval : ∀ (j : Nat) t v, Tryd.f4.params[j]? = some t → args[j]? = some v → Value.okWide Tryd.prog W .any base t v := hval0
  have hW' := hW
  obtain ⟨p, q, hA0, hV, rfl, _, _⟩ := hW
  have hA : DataW.TrodAll enc Tryd.prog W 0 (fun _ => true) true Tryd.f4.params.toList args.toList ds p := hA0
  rw [Tryd.params4] at hA hval
  obtain ⟨v0, vs0, d0, ds0, p0, q0, hargs, rfl, rfl, h0, r0⟩ := trodAll_cons hA
  obtain ⟨v1, vs1, d1, ds1, p1, q1, rfl, rfl, rfl, h1, r1⟩ := trodAll_cons r0
  obtain ⟨rfl, rfl, rfl⟩ := trodAll_nil r1
  obtain rfl : args = #[v0, v1] := by cases args; simp_all
  obtain ⟨rfl, rfl⟩ := trodVars_none hV
  obtain ⟨s0, rfl, rfl, rfl, w0⟩ := open_string Tryd.underlying9 (hval 0 9 v0 rfl rfl) h0
  have k1 := h1
  have lt1 : ∀ x ∈ p1, x.block < W.heap.size := by obtain ⟨m, hm⟩ := k1; exact DataW.trod_lt m _ _ _ hm
  obtain ⟨a1, len1, cap1, rfl⟩ := okWide_slice Tryd.underlying22 (hval 1 22 v1 rfl rfl)
  obtain ⟨z1, hz1, hm1, w1⟩ : ∃ xs, len1 = xs.length ∧ len1 ≤ maxLen ∧ OpsP W a1 xs := by
    obtain ⟨fuel, hf⟩ := h1
    have hf' : DataW.trod enc Tryd.prog W 0 (fun _ => true) true fuel 22 [.slice a1 len1 cap1] = some (d1, p1) := by simpa [Value.cells] using hf
    obtain ⟨A, len, cap, xs, e1, e2, e3, e4⟩ := open_opds hf'
    simp only [Value.slice.injEq] at e1
    obtain ⟨rfl, rfl, rfl⟩ := e1
    exact ⟨xs, e2, e3, e4⟩
  subst hz1
  clear hA0 hval0
  refine (walk s0 a1 cap1 z1 W w0 hm1 w1).mono fun e W' ⟨he, bel⟩ => ?_
  subst he
  exact ⟨_, rfl, _, _, _, [], _, [], hW', trodAll_mk1 (shut_bool Tryd.underlying4 _), (trodAll_cons_mk (shut_string Tryd.underlying9 w0) (trodAll_cons_mk (Below.trod laidOut (by kernel_rfl) (of_decide_eq_true (by kernel_rfl)) k1 bel lt1) trodAll_mk0)), rfl, bel.frame _, fun h => by cases h⟩

theorem over : Rows.InstrMakesSaid :=
  OpenClaim.holds_of_wide 4 Tryd.f4 rfl rfl rfl rfl rfl rfl rfl ⟨rfl, rfl, rfl, rfl, rfl⟩ rfl rfl rfl rfl rfl (by kernel_rfl) Tryd.func4 (by kernel_rfl)
    (of_decide_eq_true (by kernel_rfl)) (by unfold Func.isWrapper; first | (rw [if_pos (by decide +kernel)]; kernel_rfl) | (rw [if_neg (by decide +kernel)]; exact ⟨rfl, rfl⟩))
    (fun os started H enc _ => lifted os started H enc)
theorem card_holds : Rows.InstrMakesCardSaid :=
  Claim7.holds_tied_plain_at .later [] [.data, .pinned] true Rows.instrMakesCard.stood.harness false over (fun _ h => by cases h) (by kernel_rfl) (fun _ h => by cases h) instrMakes_row_tie rfl ⟨rfl, rfl⟩ (by kernel_rfl) rfl
    (fun f fn hf hfn => by
      obtain rfl : f = 4 := Option.some.inj ((show Tryd.prog.funcNamed Tryd.f4.name = some 4 by kernel_rfl).symm.trans hf) |>.symm
      obtain rfl : fn = Tryd.f4 := (Option.some.inj (Tryd.func4.symm.trans hfn)).symm
      exact ⟨by kernel_rfl, fun j t ht => by
        rw [Tryd.params4] at ht
        have hm : t ∈ [9, 22] := by simpa [or_assoc, or_comm, or_left_comm] using Array.mem_of_getElem? ht
        have hall : ([9, 22].all fun u => !Tryd.prog.wantsStandIn u) = true := by kernel_rfl
        exact (show Tryd.prog.wantsStandIn t = false by simpa using List.all_eq_true.1 hall t hm)⟩)
    (by kernel_rfl)
#print axioms card_holds
end Go.Proofs.YthpaamekpfhkjaaDoor.instrMakesDone
