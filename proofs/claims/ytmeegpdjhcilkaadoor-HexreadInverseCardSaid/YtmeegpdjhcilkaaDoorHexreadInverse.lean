/-
  HexreadInverse, for every list of runs and every size: Read gives the image back from the text of Write and from that of Sized: the law returns true, and its arguments read as they did.
  Conditions: none.
-/
import Derived.Test.YtmeegpdjhcilkaaDoorRdY
import Derived.Test.YtmeegpdjhcilkaaDoorRdN
import Derived.Test.YtmeegpdjhcilkaaDoorCards
import Derived.Test.YtmeegpdjhcilkaaDoorTie
import Derived.ProofKit
import Derived.OpenShut
import Derived.Lay
import Derived.LaidOnce
import Derived.SevenTiedAt
import Derived.Below
namespace Go.Proofs.YtmeegpdjhcilkaaDoor.hexreadInverseDone
open Go.ChangeShapes Go.WideShapes Go.ChangeAt Go.RowKit
open Go.ChangeMaps (open_string shut_string)
set_option linter.unusedVariables false

theorem own : ownKnob Tryd.prog.godebug = none := by kernel_rfl
theorem laidOut : laidOutB Tryd.prog = true := by kernel_rfl
/-- A slice of integers that came in: nil, or a row of 'cap' cells that hold the numbers 'zs'. -/
def IsRow (k : IntKind) (w : World) (a : Option Addr) (len cap : Nat) (zs : List Int) : Prop :=
  (a = none ∧ len = 0 ∧ cap = 0 ∧ zs = []) ∨
  ∃ x, a = some x ∧ len ≤ cap ∧ cap ≤ maxLen ∧ zs.length = cap ∧ (∀ i, i < zs.length → w.cell? (x.add i) = some (.int k (zs.getD i 0))) ∧ ∀ n ∈ zs, (Lit.int k n).wf = true

set_option maxRecDepth 100000 in
set_option maxHeartbeats 8000000 in
theorem walk (A : Option Addr) (cap : Nat) (rs : List Im.R) (sz : Int) (w : World) (hm : rs.length ≤ maxLen) (hR : Im.RunsP (fun _ => True) (fun _ => True) w A rs) (hd : ∀ r ∈ rs, r.data.length ≤ maxLen) (wz : (Lit.int .u8 sz).wf = true) :
    Calls Tryd.prog 3 #[.slice A rs.length cap, .int .u8 sz] w fun e w' => e = .returned (.bool true) ∧ Below w.heap.size w w' := by
  have hbd := build_any A cap rs hm w hR hd
  have Z := Lib.hid hR
  have HD := Lib.hid hd
  have HM := Lib.hid hm
  have hz' : IntKind.u8.min ≤ sz ∧ sz ≤ IntKind.u8.max := by simpa [Lit.wf] using wz
  have hz : 0 ≤ sz ∧ sz ≤ 255 := hz'
  obtain ⟨z0, z1⟩ := hz
  have ZZ := Lib.hid (And.intro z0 z1)
  clear hR hd hm wz hz'
  go_enter Tryd.func3, Tryd.ntmps3
  go_wp2_with fail
  refine hbd.mono ?_
  rintro e w1 ⟨h1, h2, h3⟩
  cases hf : Im.fewB rs
  case false =>
    obtain rfl := h1 hf
    have B1 := Lib.hid h3
    have FH := Lib.hid hf
    clear h1 h2 h3 hf hbd
    go_wp2_with fail
    refine (alive5_any _).mono ?_
    rintro e w2 ⟨rfl, hb2⟩
    have hfw2 := Im.fewAll_any _ _ A cap rs HM.out w2 ((Z.out.below B1.out).below hb2) HD.out
    rw [FH.out] at hfw2
    have B2 : Hid (Below w.heap.size w w2) := B1.out.trans (hb2.mono B1.out.size)
    clear hb2
    go_wp2_with fail
    refine hfw2.mono ?_
    rintro e w3 ⟨rfl, rfl⟩
    clear hfw2
    go_wp2
    go_ret
    exact ⟨rfl, B2.out⟩
  case true =>
    obtain ⟨b, A', cap', rfl, -, hI, hC⟩ := h2 hf
    have B1 := Lib.hid h3
    have I1 := Lib.hid hI
    have C1 := Lib.hid hC
    clear h1 h2 h3 hf hbd hI hC Z HD HM
    obtain ⟨V, hV⟩ : ∃ V, allW rs = V := ⟨_, rfl⟩
    rw [hV] at I1 C1 ⊢
    clear hV
    have VS := Lib.hid I1.out.1
    have X1 := write_any (.pointer (some ⟨b, 0, none⟩)) V w1 (.inr ⟨b, rfl, I1.out⟩)
    have R1 := fun w => hread_any (textW 16 V) (text_size VS.out) w
    rw [read_text (s := 16) (by omega) (by omega) VS.out] at R1
    obtain ⟨n, hn⟩ : ∃ n : Nat, max sz 1 = (n : Int) := ⟨(max sz 1).toNat, by omega⟩
    have n1 : 1 ≤ n := by omega
    have n2 : n ≤ 255 := by omega
    have X2 := fun w h => sized_any (n : Int) (.pointer (some ⟨b, 0, none⟩)) V w h
    have e2 : sizedS (n : Int) V = strOf (textW n V) := by unfold sizedS; rw [if_pos (by omega)]; rfl
    rw [e2] at X2
    have R2 := fun w => hread_any (textW n V) (text_le n1 n2 VS.out) w
    rw [read_text n1 n2 VS.out] at R2
    obtain ⟨x, hx⟩ : ∃ x, strOf (textW 16 V) = x := ⟨_, rfl⟩
    obtain ⟨y, hy⟩ : ∃ y, strOf (textW n V) = y := ⟨_, rfl⟩
    obtain ⟨q, hq⟩ : ∃ q, sizedB (n : Int) = q := ⟨_, rfl⟩
    rw [hx] at X1 R1
    rw [hy] at X2 R2
    rw [hq] at X2
    clear hx hy hq e2 n1 n2
    have HN := Lib.hid hn
    clear hn
    go_wp2_with fail
    refine X1.mono ?_
    rintro e w2 ⟨rfl, hb2⟩
    have K2 := Lib.hid hb2
    clear hb2 X1
    go_wp2_with fail
    refine (R1 w2).mono ?_
    rintro e w3 ⟨hr, -, hb3⟩
    obtain ⟨a, rfl, ha, hI3⟩ := hr rfl
    have hal4 : Below w3.heap.size w3 (w3.alloc (.cells #[.int .i64 0, .int .i64 0] 31)) := (Below.refl _ _).alloc (Nat.le_refl _) _
    have F4 : Two (w3.alloc (.cells #[.int .i64 0, .int .i64 0] 31)) w3.heap.size 31 (.int .i64 0) (.int .i64 0) := World.alloc_heap_new _ _
    have K4 : Hid (Below w1.heap.size w1 (w3.alloc (.cells #[.int .i64 0, .int .i64 0] 31))) := (K2.out.trans (hb3.mono K2.out.size)).trans (hal4.mono (Nat.le_trans K2.out.size hb3.size))
    have I4 := Lib.hid (hI3.below hal4)
    have FF4 := Lib.hid F4
    have hmx : max sz 1 = (n : Int) := HN.out
    have X2' := X2 (w3.alloc (.cells #[.int .i64 0, .int .i64 0] 31)) (.inr ⟨b, rfl, I1.out.below K4.out⟩)
    clear hb3 hr hI3 hal4 F4 R1 ha K2 X2
    go_wp2_with fail
    refine X2'.mono ?_
    rintro e w5 ⟨rfl, hb5⟩
    have K5 : Hid (Below w1.heap.size w1 w5) := K4.out.trans (hb5.mono K4.out.size)
    have I5 := Lib.hid (I4.out.below hb5)
    have FF5 : Hid (Two w5 w3.heap.size 31 (.int .i64 0) (.int .i64 0)) := (hb5.block _ FF4.out.lt).trans FF4.out
    clear hb5 X2' I4 FF4 K4
    go_wp2_with fail
    refine (R2 w5).mono ?_
    rintro e w6 ⟨hr, -, hb6⟩
    obtain ⟨c, rfl, hc, hI6⟩ := hr rfl
    have hal7 : Below w6.heap.size w6 (w6.alloc (.cells #[.int .i64 0, .int .i64 0] 31)) := (Below.refl _ _).alloc (Nat.le_refl _) _
    have F7 : Two (w6.alloc (.cells #[.int .i64 0, .int .i64 0] 31)) w6.heap.size 31 (.int .i64 0) (.int .i64 0) := World.alloc_heap_new _ _
    have q7 : Below w5.heap.size w5 (w6.alloc (.cells #[.int .i64 0, .int .i64 0] 31)) := hb6.trans (hal7.mono hb6.size)
    have K7 : Hid (Below w1.heap.size w1 (w6.alloc (.cells #[.int .i64 0, .int .i64 0] 31))) := K5.out.trans (q7.mono K5.out.size)
    have I7 := Lib.hid (And.intro (I5.out.below q7) (hI6.below hal7))
    have FF7 : Hid (Two (w6.alloc (.cells #[.int .i64 0, .int .i64 0] 31)) w3.heap.size 31 (.int .i64 0) (.int .i64 0) ∧ Two (w6.alloc (.cells #[.int .i64 0, .int .i64 0] 31)) w6.heap.size 31 (.int .i64 0) (.int .i64 0)) := ⟨(q7.block _ FF5.out.lt).trans FF5.out, F7⟩
    clear hb6 hr hI6 hal7 F7 R2 hc q7 K5 I5 FF5
    obtain ⟨f1, hf1⟩ : ∃ f1, w3.heap.size = f1 := ⟨_, rfl⟩
    obtain ⟨f2, hf2⟩ : ∃ f2, w6.heap.size = f2 := ⟨_, rfl⟩
    rw [hf1, hf2] at FF7
    rw [hf1]
    clear hf1
    go_wp2_with fail
    refine (alive5_any _).mono ?_
    rintro e w8 ⟨rfl, hb8⟩
    have K8 : Hid (Below w1.heap.size w1 w8) := K7.out.trans (hb8.mono K7.out.size)
    have I8 := Lib.hid (And.intro (I7.out.1.below hb8) (I7.out.2.below hb8))
    have g1 : Two w8 f1 31 (.int .i64 0) (.int .i64 0) := (hb8.block _ FF7.out.1.lt).trans FF7.out.1
    have g2 : Two w8 f2 31 (.int .i64 0) (.int .i64 0) := (hb8.block _ FF7.out.2.lt).trans FF7.out.2
    have g10 := g1.c0
    have g11 := g1.c1
    have g20 := g2.c0
    have g21 := g2.c1
    have Ib := Lib.hid (I1.out.below K8.out)
    have hs1 := Im.isame_any a b V V w8 I8.out.1 Ib.out
    have hs2 := Im.isame_any c b V V w8.drew (I8.out.2.below ((Below.refl _ _).drew)) (Ib.out.below ((Below.refl _ _).drew))
    rw [decide_eq_true (rfl : V = V)] at hs1 hs2
    have dd : Below w8.heap.size w8 w8.drew.drew := ((Below.refl _ _).drew).drew
    have K10 : Hid (Below w1.heap.size w1 w8.drew.drew) := K8.out.trans (dd.mono K8.out.size)
    have hs3 := Im.lsame_any a V _ A' cap' w8.drew.drew (I8.out.1.below dd) (C1.out.below K10.out)
    clear hb8 g1 g2 K7 I7 FF7 hf2 dd
    go_wp2_with fail
    refine hs1.mono ?_
    rintro e w9 ⟨rfl, rfl⟩
    clear hs1
    go_wp2_with fail
    refine hs2.mono ?_
    rintro e w10 ⟨rfl, rfl⟩
    clear hs2
    go_wp2_with fail
    refine hs3.mono ?_
    rintro e w11 ⟨rfl, hb11⟩
    have BF : Hid (Below w.heap.size w w11) := B1.out.trans ((K10.out.trans (hb11.mono K10.out.size)).mono B1.out.size)
    clear hs3 hb11
    go_wp2
    go_ret
    exact ⟨rfl, BF.out⟩

set_option maxRecDepth 100000 in
theorem lifted (os : Os) (started : os.Started) (H : Type) (enc : TypeId × Value → H) :
    ReturnsInHanded {} Tryd.checked os 3 .any (fun w args => (Rows.hexreadInverseSpec.pre enc Tryd.prog Tryd.f3 [] false w args ∧ laidMetH Tryd.prog Rows.hexreadInverseRow.laid w) ∧ sizedMet enc Tryd.prog Tryd.f3 (OpenSpec.ofChange Rows.hexreadInverseSpec) false w args)
      (Rows.hexreadInverseSpec.post enc Tryd.prog Tryd.f3 false true false false) := by
  refine returnsInHanded_of_change_and (C := Tryd.checked) (X := fun w _ => laidMetH Tryd.prog Rows.hexreadInverseRow.laid w) (fun _ _ _ hh h => h.of_heap hh) own started (by kernel_rfl) Tryd.func3
    (ChangeSpec.witness_shaped (enc := enc) (C := Tryd.checked) (os := os) (X := fun w _ => laidMetH Tryd.prog Rows.hexreadInverseRow.laid w) false (World.laidAll Tryd.prog os Rows.hexreadInverseRow.laid) #[.slice none 0 0, .int .u8 0] 8 (World.laidAll_os _ _ _)
      (World.shaped_of_ZipB (by kernel_rfl) (by kernel_rfl)) (by kernel_rfl) (by kernel_rfl) (by kernel_rfl)
      (by rw [MakeChecks.laidMetH_plain _ _ _ (by kernel_rfl)]; exact laidMet_laidAll _ (by kernel_rfl) (by kernel_rfl))) ?_
  intro W base args ds gs before hval0 hW _ _ hL _
  have hval : ∀ (j : Nat) t v, Tryd.f3.params[j]? = some t → args[j]? = some v → Value.okWide Tryd.prog W .any base t v := hval0
  have hW' := hW
  obtain ⟨p, q, hA0, hV, rfl, _, _⟩ := hW
  have hA : DataW.TrodAll enc Tryd.prog W 0 (fun _ => true) true Tryd.f3.params.toList args.toList ds p := hA0
  rw [Tryd.params3] at hA hval
  obtain ⟨v0, vs0, d0, ds0, p0, q0, hargs, rfl, rfl, h0, r0⟩ := trodAll_cons hA
  obtain ⟨v1, vs1, d1, ds1, p1, q1, rfl, rfl, rfl, h1, r1⟩ := trodAll_cons r0
  obtain ⟨rfl, rfl, rfl⟩ := trodAll_nil r1
  obtain rfl : args = #[v0, v1] := by cases args; simp_all
  obtain ⟨rfl, rfl⟩ := trodVars_none hV
  have k0 := h0
  have lt0 : ∀ x ∈ p0, x.block < W.heap.size := by obtain ⟨m, hm⟩ := k0; exact DataW.trod_lt m _ _ _ hm
  obtain ⟨a0, len0, cap0, rfl⟩ := okWide_slice Tryd.underlying22 (hval 0 22 v0 rfl rfl)
  obtain ⟨z0, hz0, hm0, w0, d0'⟩ : ∃ rs, len0 = rs.length ∧ len0 ≤ maxLen ∧ Im.RunsP (fun _ => True) (fun _ => True) W a0 rs ∧ ∀ r ∈ rs, r.data.length ≤ maxLen := by
    obtain ⟨fuel, hf⟩ := h0
    have hf' : DataW.trod enc Tryd.prog W 0 (fun _ => true) true fuel 22 [.slice a0 len0 cap0] = some (d0, p0) := by simpa [Value.cells] using hf
    obtain ⟨A, len, cap, rs, e1, e2, e3, e4, e5⟩ := Im.open_runs hf'
    simp only [Value.slice.injEq] at e1
    obtain ⟨rfl, rfl, rfl⟩ := e1
    exact ⟨rs, e2, e3, e4, e5⟩
  subst hz0
  obtain ⟨a1, rfl, rfl, rfl, w1⟩ := open_int Tryd.underlying5 (hval 1 5 v1 rfl rfl) h1
  clear hA0 hval0
  refine (walk a0 cap0 z0 a1 W hm0 w0 d0' w1).mono fun e W' ⟨he, bel⟩ => ?_
  subst he
  exact ⟨_, rfl, _, _, _, [], _, [], hW', trodAll_mk1 (shut_bool Tryd.underlying4 _), (trodAll_cons_mk (Below.trod laidOut (by kernel_rfl) (of_decide_eq_true (by kernel_rfl)) k0 bel lt0) (trodAll_cons_mk (shut_int Tryd.underlying5 w1) trodAll_mk0)), rfl, bel.frame _, fun h => by cases h⟩

theorem over : Rows.HexreadInverseSaid :=
  OpenClaim.holds_of_wide 3 Tryd.f3 rfl rfl rfl rfl rfl rfl rfl ⟨rfl, rfl, rfl, rfl, rfl⟩ rfl rfl rfl rfl rfl (by kernel_rfl) Tryd.func3 (by kernel_rfl)
    (of_decide_eq_true (by kernel_rfl)) (by unfold Func.isWrapper; first | (rw [if_pos (by decide +kernel)]; kernel_rfl) | (rw [if_neg (by decide +kernel)]; exact ⟨rfl, rfl⟩))
    (fun os started H enc _ => lifted os started H enc)
theorem card_holds : Rows.HexreadInverseCardSaid :=
  Claim7.holds_tied_plain_at .later [] [.data, .pinned] true Rows.hexreadInverseCard.stood.harness false over (fun _ h => by cases h) (by kernel_rfl) (fun _ h => by cases h) hexreadInverse_row_tie rfl ⟨rfl, rfl⟩ (by kernel_rfl) rfl
    (fun f fn hf hfn => by
      obtain rfl : f = 3 := Option.some.inj ((show Tryd.prog.funcNamed "breadboard/breadboardlaw05.HexreadInverse" = some 3 by kernel_rfl).symm.trans hf) |>.symm
      obtain rfl : fn = Tryd.f3 := (Option.some.inj (Tryd.func3.symm.trans hfn)).symm
      exact ⟨by kernel_rfl, fun j t ht => by
        rw [Tryd.params3] at ht
        have hm : t ∈ [22, 5] := by simpa [or_assoc, or_comm, or_left_comm] using Array.mem_of_getElem? ht
        have hall : ([22, 5].all fun u => !Tryd.prog.wantsStandIn u) = true := by kernel_rfl
        exact (show Tryd.prog.wantsStandIn t = false by simpa using List.all_eq_true.1 hall t hm)⟩)
    (by kernel_rfl)
#print axioms card_holds
end Go.Proofs.YtmeegpdjhcilkaaDoor.hexreadInverseDone
