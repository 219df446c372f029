/-
  CanonNumbers, for all instructions: the canonical form of a right instruction is right, and none of its numbers is negative as far as the width permits; the law returns true, and its argument reads as it did.
  Conditions: none.
-/
import Derived.Test.YtbmgfkbgfgknbaaDoorInW
import Derived.Test.YtbmgfkbgfgknbaaDoorCnE
import Derived.Test.YtbmgfkbgfgknbaaDoorCnK
import Derived.Test.YtbmgfkbgfgknbaaDoorCards
import Derived.Test.YtbmgfkbgfgknbaaDoorTie
import Derived.ProofKit
import Derived.OpenShut
import Derived.Lay
import Derived.LaidOnce
import Derived.SevenTiedAt
import Derived.Below
namespace Go.Proofs.YtbmgfkbgfgknbaaDoor.canonNumbersDone
open Go.ChangeShapes Go.WideShapes Go.ChangeAt Go.RowKit
open Go.ChangeMaps (open_string shut_string)
set_option linter.unusedVariables false

theorem own : ownKnob Tryd.prog.godebug = none := by kernel_rfl
theorem laidOut : laidOutB Tryd.prog = true := by kernel_rfl
/-- A slice of integers that came in: nil, or a row of 'cap' cells that hold the numbers 'zs'. -/
def IsRow (k : IntKind) (w : World) (a : Option Addr) (len cap : Nat) (zs : List Int) : Prop :=
  (a = none ∧ len = 0 ∧ cap = 0 ∧ zs = []) ∨
  ∃ x, a = some x ∧ len ≤ cap ∧ cap ≤ maxLen ∧ zs.length = cap ∧ (∀ i, i < zs.length → w.cell? (x.add i) = some (.int k (zs.getD i 0))) ∧ ∀ n ∈ zs, (Lit.int k n).wf = true

attribute [local irreducible] Go.Mixed.wpMix
set_option maxRecDepth 100000 in
set_option maxHeartbeats 8000000 in
theorem walk (s : ByteArray) (A : Option Addr) (cap : Nat) (L : List Tr) (w : World) (hs : s.size ≤ maxLen) (hL : L.length ≤ maxLen) (H : OpsP w A L) :
    Calls Tryd.prog 3 #[.agg #[.string s, .slice A L.length cap]] w fun e w' => e = .returned (.bool true) ∧ Below w.heap.size w w' := by
  have CHK := Lib.hid (fun w' h => rcheck_any s A cap L hL w' h)
  have T0 := Lib.hid (Bx.new w s A L.length cap 24)
  have B0 : Hid (Below w.heap.size w (w.alloc (.cells #[.string s, .slice A L.length cap] 24))) := (Below.refl _ _).alloc (Nat.le_refl _) _
  have X0 := Lib.hid (H.below B0.out)
  obtain ⟨c0, hc0⟩ : ∃ c, codeI s L = c := ⟨_, rfl⟩
  have HC := Lib.hid hc0
  rw [hc0] at CHK
  clear H hc0
  by_cases hc : c0 = 0
  · have HC0 : Hid (codeI s L = 0) := HC.out.trans hc
    have hl3 := (code_split HC0.out).2.1
    have OF := Lib.hid (fun w' h => of_any s A cap L (by omega) w' h)
    have WD := Lib.hid (fun w' h => width_any s A cap L (by omega) w' h)
    have CK := Lib.hid (fun A2 c2 w' h => check_any s A2 c2 (canL (opc s) L) hs (by unfold maxLen; have := canL_le3 (c := opc s) hl3; omega) w' h)
    have NUM := fun x => Lib.hid (can_num (x := x) HC0.out)
    rw [can_check HC0.out] at CK
    have hM3 := canL_le3 (c := opc s) hl3
    have hcs := widL_cases (opc s) L
    obtain ⟨x, hx⟩ : ∃ x, widL (opc s) L = x := ⟨_, rfl⟩
    rw [hx] at WD hcs
    have NUM := Lib.hid (fun t h => (NUM x).out hx t h)
    obtain ⟨M, hM⟩ : ∃ M, canL (opc s) L = M := ⟨_, rfl⟩
    rw [hM] at OF CK NUM hM3
    obtain ⟨n, hn⟩ : ∃ n, L.length = n := ⟨_, rfl⟩
    rw [hn] at CHK T0 B0 X0 OF WD ⊢
    obtain ⟨m, hm⟩ : ∃ m, M.length = m := ⟨_, rfl⟩
    have HM := Lib.hid hm
    rw [hm] at hM3 CK
    subst hc
    clear HC HC0 hl3 hL hx hM hn hm
    go_enter Tryd.func3, Tryd.ntmps3
    go_wp2_with fail
    refine (CHK.out _ X0.out).mono ?_
    rintro e w1 ⟨rfl, hb⟩
    have T1 := Lib.hid (T0.out.all hb)
    have X1 := Lib.hid (X0.out.below hb)
    have B1 := Lib.hid (B0.out.trans (hb.mono B0.out.size))
    obtain ⟨t0, t1⟩ := T1.out
    clear hb T0 X0 B0 CHK
    go_wp2_with fail
    refine (OF.out _ X1.out).mono ?_
    rintro e w2 ⟨v, rfl, hO, hb⟩
    obtain ⟨A2, c2, rfl, hP, -⟩ := hO.ops
    rw [HM.out]
    have hal : ∀ o, Below w2.heap.size w2 (w2.alloc o) := fun o => (Below.refl _ _).alloc (Nat.le_refl _) o
    have T2 := fun o => Lib.hid ((T1.out.all hb).all (hal o))
    have X2 := fun o => Lib.hid ((X1.out.below hb).below (hal o))
    have Y2 := fun o => Lib.hid (hP.below (hal o))
    have B2 := fun o => Lib.hid ((B1.out.trans (hb.mono B1.out.size)).alloc (Nat.le_trans B1.out.size hb.size) o)
    have C2 := Lib.hid (Bx.new w2 s A2 m c2 24)
    have hne : w.heap.size ≠ w2.heap.size := by have := T1.out.lt; have := hb.size; omega
    have T2a := Lib.hid (T1.out.all hb)
    obtain ⟨u0, u1⟩ := (T2 (.cells #[.string s, .slice A2 m c2] 24)).out
    obtain ⟨u2, u3⟩ := T2a.out
    clear hb hal hO hP T1 X1 B1 OF t0 t1
    go_wp2_with fail
    refine (WD.out _ (X2 _).out).mono ?_
    rintro e w3 ⟨rfl, hb⟩
    have C3 := Lib.hid (C2.out.all hb)
    have Y3 := Lib.hid ((Y2 _).out.below hb)
    have B3 := Lib.hid ((B2 _).out.trans (hb.mono (B2 _).out.size))
    clear hb T2 X2 Y2 B2 C2 WD T2a u0 u1 u2 u3
    obtain ⟨t0, t1⟩ := C3.out
    go_wp2
    clear t0 t1
    go_loopw [18] (fun i wr => ∃ j : Nat, j ≤ m ∧ i = .int .i64 j ∧ Hid (Bx wr w2.heap.size s A2 m c2) ∧ Hid (OpsP wr A2 M) ∧ Hid (Below w.heap.size w wr)) (fun i _ => m - (intOf i).toNat)
    case atStart => exact ⟨0, Nat.zero_le _, rfl, C3.out, Y3.out, B3.out⟩
    case round =>
      clear C3 Y3 B3
      obtain ⟨j, hj, rfl, C, Y, B⟩ := hrel
      by_cases hlt : j < m
      · have hjM : j < M.length := by rw [HM.out]; exact hlt
        obtain ⟨b1, o1, hA1, -, p0, p1, p2⟩ := Y.out.at_ hjM
        subst hA1
        have hmem := List.getElem_mem hjM
        have NJ := Lib.hid (NUM.out _ hmem)
        obtain ⟨⟨y0, y1, y2⟩, hy⟩ : ∃ y, M[j] = y := ⟨_, rfl⟩
        rw [hy] at p0 p1 p2 NJ
        simp only at p0 p1 p2 NJ
        have hal : ∀ o, Below wr.heap.size wr (wr.alloc o) := fun o => (Below.refl _ _).alloc (Nat.le_refl _) o
        have C' := fun o => Lib.hid (C.out.all (hal o))
        have Y' := fun o => Lib.hid (Y.out.below (hal o))
        have B' := fun o => Lib.hid (B.out.alloc B.out.size o)
        clear hjM hmem hy C Y B hal
        by_cases k6 : y0 = 6
        · by_cases hneg : y2 < 0
          · obtain ⟨h2, h1⟩ := NJ.out k6 hneg
            subst k6
            clear NJ
            rcases hcs with rfl | rfl | rfl
            · clear h1 h2
              go_wp2
              go_roundw
              case rel => exact ⟨j + 1, by omega, by go_num, (C' _).out, (Y' _).out, (B' _).out⟩
              case measure => simp [intOf]; omega
            · have h3 := h1 rfl
              clear h1 h2
              go_wp2
              go_roundw
              case rel => exact ⟨j + 1, by omega, by go_num, (C' _).out, (Y' _).out, (B' _).out⟩
              case measure => simp [intOf]; omega
            · exact absurd rfl h2
          · subst k6
            clear NJ
            go_wp2
            go_roundw
            case rel => exact ⟨j + 1, by omega, by go_num, (C' _).out, (Y' _).out, (B' _).out⟩
            case measure => simp [intOf]; omega
        · clear NJ
          go_wp2
          go_roundw
          case rel => exact ⟨j + 1, by omega, by go_num, (C' _).out, (Y' _).out, (B' _).out⟩
          case measure => simp [intOf]; omega
      · go_wp2_with fail
        refine (alive_any _).mono ?_
        rintro e w5 ⟨rfl, hb⟩
        have C5 := Lib.hid (C.out.all hb)
        have Y5 := Lib.hid (Y.out.below hb)
        have B5 := Lib.hid (B.out.trans (hb.mono B.out.size))
        clear hb C Y B
        obtain ⟨t0, t1⟩ := C5.out
        go_wp2_with fail
        refine (CK.out A2 c2 _ Y5.out).mono ?_
        rintro e w6 ⟨rfl, hb⟩
        have B6 := Lib.hid (B5.out.trans (hb.mono B5.out.size))
        clear hb
        go_wp2
        go_ret
        exact ⟨rfl, B6.out⟩
  · have hc1 : (c0 == 0) = false := beq_eq_false_iff_ne.2 hc
    go_enter Tryd.func3, Tryd.ntmps3
    go_wp2_with fail
    refine (CHK.out _ X0.out).mono ?_
    rintro e w1 ⟨rfl, hb⟩
    have B1 := Lib.hid (B0.out.trans (hb.mono B0.out.size))
    clear hb T0 X0 B0 CHK
    go_wp2_with fail
    refine (alive_any _).mono ?_
    rintro e w2 ⟨rfl, hb⟩
    have B2 := Lib.hid (B1.out.trans (hb.mono B1.out.size))
    clear hb
    go_wp2
    go_ret
    exact ⟨rfl, B2.out⟩

set_option maxRecDepth 100000 in
theorem lifted (os : Os) (started : os.Started) (H : Type) (enc : TypeId × Value → H) :
    ReturnsInHanded {} Tryd.checked os 3 .any (fun w args => (Rows.canonNumbersSpec.pre enc Tryd.prog Tryd.f3 [] false w args ∧ laidMetH Tryd.prog Rows.canonNumbersRow.laid w) ∧ sizedMet enc Tryd.prog Tryd.f3 (OpenSpec.ofChange Rows.canonNumbersSpec) false w args)
      (Rows.canonNumbersSpec.post enc Tryd.prog Tryd.f3 false true false false) := by
  refine returnsInHanded_of_change_and (C := Tryd.checked) (X := fun w _ => laidMetH Tryd.prog Rows.canonNumbersRow.laid w) (fun _ _ _ hh h => h.of_heap hh) own started (by kernel_rfl) Tryd.func3
    (ChangeSpec.witness_shaped (enc := enc) (C := Tryd.checked) (os := os) (X := fun w _ => laidMetH Tryd.prog Rows.canonNumbersRow.laid w) false (World.laidAll Tryd.prog os Rows.canonNumbersRow.laid) #[.agg #[.string ⟨#[]⟩, .slice none 0 0]] 8 (World.laidAll_os _ _ _)
      (World.shaped_of_ZipB (by kernel_rfl) (by kernel_rfl)) (by kernel_rfl) (by kernel_rfl) (by kernel_rfl)
      (by rw [MakeChecks.laidMetH_plain _ _ _ (by kernel_rfl)]; exact laidMet_laidAll _ (by kernel_rfl) (by kernel_rfl))) ?_
  intro W base args ds gs before hval0 hW _ _ hL _
  have hval : ∀ (j : Nat) t v, Tryd.f3.params[j]? = some t → args[j]? = some v → Value.okWide Tryd.prog W .any base t v := hval0
  have hW' := hW
  obtain ⟨p, q, hA0, hV, rfl, _, _⟩ := hW
  have hA : DataW.TrodAll enc Tryd.prog W 0 (fun _ => true) true Tryd.f3.params.toList args.toList ds p := hA0
  rw [Tryd.params3] at hA hval
  obtain ⟨v0, vs0, d0, ds0, p0, q0, hargs, rfl, rfl, h0, r0⟩ := trodAll_cons hA
  obtain ⟨rfl, rfl, rfl⟩ := trodAll_nil r0
  obtain rfl : args = #[v0] := by cases args; simp_all
  obtain ⟨rfl, rfl⟩ := trodVars_none hV
  have k0 := h0
  have lt0 : ∀ x ∈ p0, x.block < W.heap.size := by obtain ⟨m, hm⟩ := k0; exact DataW.trod_lt m _ _ _ hm
  obtain ⟨s0, a0, cap0, z0, rfl, c0, hm0, w0⟩ := open_ins (hval 0 24 v0 rfl rfl) h0
  clear hA0 hval0
  refine (walk s0 a0 cap0 z0 W c0 hm0 w0).mono fun e W' ⟨he, bel⟩ => ?_
  subst he
  exact ⟨_, rfl, _, _, _, [], _, [], hW', trodAll_mk1 (shut_bool Tryd.underlying4 _), (trodAll_cons_mk (Below.trod laidOut (by kernel_rfl) (of_decide_eq_true (by kernel_rfl)) k0 bel lt0) trodAll_mk0), rfl, bel.frame _, fun h => by cases h⟩

theorem over : Rows.CanonNumbersSaid :=
  OpenClaim.holds_of_wide 3 Tryd.f3 rfl rfl rfl rfl rfl rfl rfl ⟨rfl, rfl, rfl, rfl, rfl⟩ rfl rfl rfl rfl rfl (by kernel_rfl) Tryd.func3 (by kernel_rfl)
    (of_decide_eq_true (by kernel_rfl)) (by unfold Func.isWrapper; first | (rw [if_pos (by decide +kernel)]; kernel_rfl) | (rw [if_neg (by decide +kernel)]; exact ⟨rfl, rfl⟩))
    (fun os started H enc _ => lifted os started H enc)
theorem card_holds : Rows.CanonNumbersCardSaid :=
  Claim7.holds_tied_plain_at .later [] [.data, .pinned] true Rows.canonNumbersCard.stood.harness false over (fun _ h => by cases h) (by kernel_rfl) (fun _ h => by cases h) canonNumbers_row_tie rfl ⟨rfl, rfl⟩ (by kernel_rfl) rfl
    (fun f fn hf hfn => by
      obtain rfl : f = 3 := Option.some.inj ((show Tryd.prog.funcNamed Tryd.f3.name = some 3 by kernel_rfl).symm.trans hf) |>.symm
      obtain rfl : fn = Tryd.f3 := (Option.some.inj (Tryd.func3.symm.trans hfn)).symm
      exact ⟨by kernel_rfl, fun j t ht => by
        rw [Tryd.params3] at ht
        have hm : t ∈ [24] := by simpa [or_assoc, or_comm, or_left_comm] using Array.mem_of_getElem? ht
        have hall : ([24].all fun u => !Tryd.prog.wantsStandIn u) = true := by kernel_rfl
        exact (show Tryd.prog.wantsStandIn t = false by simpa using List.all_eq_true.1 hall t hm)⟩)
    (by kernel_rfl)
#print axioms card_holds
end Go.Proofs.YtbmgfkbgfgknbaaDoor.canonNumbersDone
